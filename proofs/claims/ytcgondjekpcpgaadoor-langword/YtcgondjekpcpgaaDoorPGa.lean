/- Where a tree may end in a text, in memory. -/
import Derived.Test.YtcgondjekpcpgaaDoorPCy
namespace Go.Proofs.YtcgondjekpcpgaaDoor.Sy.Lg.En
open Go.RowKit Go.Proofs.YtcgondjekpcpgaaDoor.Sy.Ap Go.Proofs.YtcgondjekpcpgaaDoor.Sy.Ap.Wk Go.Proofs.YtcgondjekpcpgaaDoor.Sy.Lg.Oq Go.Proofs.YtcgondjekpcpgaaDoor.Sy.Lg.Ef
set_option maxRecDepth 100000
set_option linter.unusedVariables false

set_option maxHeartbeats 400000 in
theorem hasN_any (A : Option Addr) (c : Nat) (gs : List Gd) (w : World) (hx : Nds w w.heap.size A gs) (hl : gs.length ≤ 2000) :
    Calls Tryd.prog 44 #[.slice A gs.length c, .func (.func 45) #[] #[]] w fun e w' => Below w.heap.size w w' ∧ ∃ z, e = .returned (.bool z) ∧ (z = true ↔ hasRef gs) := by
  have hi := idxN_any A c gs w hx hl
  clear hx hl
  generalize gs.length = n at *
  go_enter Tryd.func44, Tryd.ntmps44
  go_wp2_with fail
  refine hi.mono ?_
  rintro e w1 ⟨b1, r, rfl, hr⟩
  have HB := hidd b1
  have HR := hidd hr
  clear hi b1 hr
  go_wp2
  go_ret
  exact ⟨HB.out, _, rfl, by rw [decide_eq_true_iff]; exact HR.out⟩
theorem plain_refs {gs : List Gd} : PlainG gs ↔ RightG gs ∧ ¬ hasRef gs := ⟨fun h => ⟨h.2, fun ⟨g, h1, h2⟩ => h.1 g h1 h2⟩, fun h => ⟨fun g hg q => h.2 ⟨g, hg, q⟩, h.1⟩⟩
set_option maxHeartbeats 400000 in
theorem nameless_any (A : Option Addr) (c : Nat) (gs : List Gd) (w : World) (hx : Nds w w.heap.size A gs) (hl : gs.length ≤ 2000) (hsm : Small gs) :
    Calls Tryd.prog 29 #[.slice A gs.length c] w fun e w' => PlnR gs w e w' := by
  have hR := right_any A c gs w hx hl hsm
  have HH : Hid (∀ w', Below w.heap.size w w' → Calls Tryd.prog 44 #[.slice A gs.length c, .func (.func 45) #[] #[]] w' fun e w'' => Below w'.heap.size w' w'' ∧ ∃ z, e = .returned (.bool z) ∧ (z = true ↔ hasRef gs)) := fun w' hb => hasN_any A c gs w' ((hx.below hb).more hb.size) hl
  clear hx hl hsm
  generalize gs.length = n at *
  go_enter Tryd.func29, Tryd.ntmps29
  go_wp2_with fail
  refine hR.mono ?_
  rintro e w1 ⟨z, rfl, hz, b1⟩
  have HB := hidd b1
  have HZ := hidd hz
  clear hR b1 hz
  cases z with
  | false =>
    go_wp2
    go_ret
    exact ⟨false, rfl, ⟨(fun q => by cases q), fun q => HZ.out.2 (plain_refs.1 q).1⟩, HB.out⟩
  | true =>
    have hc := HH.out w1 HB.out
    go_wp2_with fail
    refine hc.mono ?_
    rintro e w2 ⟨b2, y, rfl, hy⟩
    have HB2 := hidd (HB.out.trans (b2.mono HB.out.size))
    have HY := hidd hy
    clear hc b2 hy
    go_wp2
    go_ret
    refine ⟨!y, rfl, ?_, HB2.out⟩
    rw [plain_refs]
    cases y with
    | true => exact ⟨(fun q => by cases q), fun q => absurd (HY.out.1 rfl) q.2⟩
    | false => exact ⟨fun _ => ⟨HZ.out.1 (by trivial), fun q => by have := HY.out.2 q; cases this⟩, fun _ => rfl⟩
/-! ### Ends -/
open Classical in
/-- Where the tree ns may end in the text t, from i on. -/
noncomputable def endL (ns : List Nd) (t : List Nat) (i : Nat) : List Nat := (List.range (t.length + 1)).filter fun j => decide (Mt ns t (ns.length - 1) i j)
open Classical in
theorem mem_endL {ns : List Nd} {t : List Nat} {i j : Nat} (hl : Low ns) (hi : i ≤ t.length) : j ∈ endL ns t i ↔ Mt ns t (ns.length - 1) i j := by
  unfold endL
  rw [List.mem_filter, List.mem_range, decide_eq_true_iff]
  exact ⟨fun h => h.2, fun h => ⟨by have := (Mt_in hl t _ i j h).2 hi; omega, h⟩⟩
theorem filter_bits {p : Nat → Bool} {n : Nat} (hn : n ≤ 64) (h : ∀ j, p j = true → j < n) : bitsL p = (List.range n).filter p := by
  unfold bitsL
  have e : List.range 64 = List.range n ++ List.range' n (64 - n) := by
    rw [List.range_eq_range', List.range_eq_range']
    have := @List.range'_append 0 n (64 - n) 1
    rw [show 0 + 1 * n = n from by omega, show n + (64 - n) = 64 from by omega] at this
    exact this.symm
  rw [e, List.filter_append]
  have : (List.range' n (64 - n)).filter p = [] := List.filter_eq_nil_iff.2 fun x hx q => by
    have h1 := h x q
    have h2 := (List.mem_range'_1.1 hx).1
    omega
  rw [this, List.append_nil]
open Classical in
theorem bits_endL {ns : List Nd} {t : List Nat} {i : Nat} {p : Nat → Bool} (hl : Low ns) (ht : t.length ≤ 63) (hi : i ≤ t.length) (h : ∀ j, p j = true ↔ Mt ns t (ns.length - 1) i j) : bitsL p = endL ns t i := by
  rw [filter_bits (n := t.length + 1) (by omega) (fun j hj => by have := (Mt_in hl t _ i j ((h j).1 hj)).2 hi; omega)]
  unfold endL
  apply List.filter_congr
  intro j _
  rw [Bool.eq_iff_iff, decide_eq_true_iff]
  exact h j
set_option maxHeartbeats 2000000 in
theorem lends_ok (A : Option Addr) (c : Nat) (gs : List Gd) (ns : List Nd) (s : ByteArray) (i : Nat) (w : World) (hx : Nds w w.heap.size A gs) (hg : GN gs ns) (ht : TreeN ns) (hp : PlainG gs) (hsm : Small gs) (hs : s.size ≤ 63) (hi : i ≤ s.size) (hD : DB w) :
    Calls Tryd.prog 17 #[.slice A gs.length c, .string s, .int .i64 (i : Int)] w fun e w' => LstR w (endL ns (bs s) i) e w' := by
  have hlen : gs.length = ns.length := hg.1
  have hl : gs.length ≤ 2000 := by have := ht.few; omega
  have hpos := ht.pos
  have hN := nameless_any A c gs w hx hl hsm
  have hii : (i : Int) ≤ (s.size : Int) := by omega
  have HX := hidd hx
  have HG := hidd hg
  have HT := hidd ht
  have HP := hidd hp
  have HD := hidd hD
  clear hx hg ht hp hsm hD
  obtain ⟨n, hn⟩ : ∃ n, gs.length = n := ⟨_, rfl⟩
  have HLEN := hidd hlen
  rw [hn] at hN hl
  rw [hn]
  have hn1 : 1 ≤ n := by omega
  have HN := hidd hn
  clear hlen hn hpos
  have hnw := fun u => new_any A n c (by omega) s (by unfold maxLen; omega) u
  go_enter Tryd.func17, Tryd.ntmps17
  go_wp2_with fail
  refine hN.mono ?_
  rintro e w1 ⟨z, rfl, hz, b1⟩
  have hzt := hz.2 HP.out
  subst hzt
  clear hN hz
  have hnw1 := hnw w1
  have HB1 := hidd b1
  clear hnw b1
  go_wp2_with fail
  refine hnw1.mono ?_
  rintro e w2 ⟨b2, z, rfl, mq, z9, z12, rfl, hmq, rm, ⟨wb, rfl, rw9, hwb⟩, ⟨kb, rfl, rw12, hkb⟩⟩
  clear hnw1
  have hpl := only_any i (by omega) w2
  have hex : ∃ M : MC, M.Ok ∧ MI M (fun _ => False) (List.replicate n 0) (List.replicate n none) w2 ∧ M.W0 = w1 ∧ M.mq = mq ∧ M.n = n ∧ M.s = s ∧ M.ns = ns := by
    refine ⟨⟨w1, mq, wb, kb, n, A, c, s, gs, ns⟩, ⟨hs, HN.out, HG.out, HT.out, (HX.out.below HB1.out).more HB1.out.size, HD.out.below HB1.out, hmq, hwb, hkb⟩, ?_, rfl, rfl, rfl, rfl, rfl⟩
    refine ⟨b2, rm, ?_, List.length_replicate, fun x hx => ?_, ?_, List.length_replicate, fun i b hb => ?_, fun i j b hb => ?_⟩
    · have e : ((List.replicate n 0).map intV).toArray = fnC n (fun _ => .int .i64 0) := by
        unfold fnC
        rw [List.map_replicate]
        congr 1
        apply List.ext_getElem?
        intro k
        rw [List.getElem?_replicate, List.getElem?_map]
        by_cases hk : k < n
        · rw [if_pos hk, List.getElem?_range hk]; rfl
        · rw [if_neg hk, List.getElem?_eq_none (by simp; omega)]; rfl
      rw [e]; exact rw9
    · rw [List.eq_of_mem_replicate hx]; omega
    · have e : ((List.replicate n (none : Option Nat)).map Value.map).toArray = fnC n (fun _ => .map none) := by
        unfold fnC
        rw [List.map_replicate]
        congr 1
        apply List.ext_getElem?
        intro k
        rw [List.getElem?_replicate, List.getElem?_map]
        by_cases hk : k < n
        · rw [if_pos hk, List.getElem?_range hk]; rfl
        · rw [if_neg hk, List.getElem?_eq_none (by simp; omega)]; rfl
      rw [e]; exact rw12
    · rw [List.getElem?_replicate] at hb
      split at hb <;> cases hb
    · rw [List.getElem?_replicate] at hb
      split at hb <;> cases hb
  obtain ⟨M, hM, hmi, eW, emq, en, es, ens⟩ := hex
  have hall := ends_all hM (n - 1) (by rw [en]; omega)
  have hsub : ((n : Int) - 1) = ((n - 1 : Nat) : Int) := by omega
  have HB2 := hidd (HB1.out.trans (b2.mono HB1.out.size))
  have HMI := hidd hmi
  clear rm rw9 rw12 hwb hkb hmq b2 hmi
  go_wp2_with fail
  refine hpl.mono ?_
  rintro e w3 ⟨b3, v3, rfl, hp3, hn3⟩
  have hen := hall (fun _ => False) w3 v3 (fun j => j = i) ⟨⟨_, _, HMI.out.below b3⟩, (fun f hf => hf.elim), ⟨_, hp3, fun j => by unfold oneB; simp⟩, (fun b hb hf => hf), fun j hj => by rw [es]; omega⟩
  rw [emq] at hen
  clear hpl hall hp3 hn3
  have HB3 := hidd (HB2.out.trans (b3.mono HB2.out.size))
  clear b3
  go_wp2_with fail
  refine hen.mono ?_
  rintro e w4 ⟨v4, rfl, ⟨cs4, ms4, hm4⟩, hk4, ⟨p4, hp4, hx4⟩, ho4⟩
  have hdb := hM.db.below hm4.bel
  have hli := Li.list_any v4 p4 w4 hp4 hdb
  have HBW : Hid (Below w.heap.size w w4) := by
    have h1 := hm4.bel
    have h2 : M.B = w1.heap.size := by show M.W0.heap.size = _; rw [eW]
    rw [h2, eW] at h1
    exact HB1.out.trans (h1.mono HB1.out.size)
  have HE : Hid (bitsL p4 = endL ns (bs s) i) := by
    refine bits_endL HT.out.low (by rw [bs_len]; exact hs) (by rw [bs_len]; exact hi) fun j => ?_
    rw [hx4 j]
    unfold MC.R
    rw [es, ens]
    have e : n - 1 = ns.length - 1 := by have := HN.out; have := HLEN.out; omega
    constructor
    · rintro ⟨x, rfl, q⟩
      rw [← e]; exact q
    · intro q
      rw [← e] at q
      exact ⟨i, rfl, q⟩
  clear hen hm4 hk4 hp4 hx4 ho4 hdb hM
  go_wp2_with fail
  refine hli.mono ?_
  rintro e w5 ⟨b5, A5, c5, rfl, own5⟩
  have HFIN : Hid (LstR w (endL ns (bs s) i) (.returned (.slice A5 (bitsL p4).length c5)) w5) := by
    refine ⟨HBW.out.trans (b5.mono HBW.out.size), A5, c5, by rw [HE.out], ?_⟩
    rw [← HE.out]
    exact own_less own5 HBW.out.size
  clear hli b5 own5
  go_wp2
  go_ret
  exact HFIN.out
end Go.Proofs.YtcgondjekpcpgaaDoor.Sy.Lg.En

namespace Go.Proofs.YtcgondjekpcpgaaDoor.Sy.Lg.En
open Go.RowKit Go.Proofs.YtcgondjekpcpgaaDoor.Sy.Ap Go.Proofs.YtcgondjekpcpgaaDoor.Sy.Ap.Wk
set_option maxRecDepth 100000
set_option linter.unusedVariables false

theorem nts_own {w : World} {b : Nat} {A : Option Addr} {c : Nat} {l : List Nat} (h : w.ownsRow b 3 1 (.slice A l.length c) l.length (i64s l)) : Nts w w.heap.size A l := by
  obtain ⟨A2, c2, e, hN⟩ := Nts.of_own h
  injection e with e1 e2 e3
  subst e1
  exact hN
set_option maxHeartbeats 400000 in
theorem last_any (A : Option Addr) (c : Nat) (l : List Nat) (w : World) (hx : Nts w w.heap.size A l) (hl : l.length ≤ 1000) :
    Calls Tryd.prog 28 #[.slice A l.length c] w fun e w' => w' = w ∧ e = .returned (.tuple #[.int .i64 ((l.getLast?.getD 0 : Nat) : Int), .bool l.getLast?.isSome]) := by
  by_cases h0 : l.length = 0
  · have e : l = [] := List.eq_nil_of_length_eq_zero h0
    subst e
    go_enter Tryd.func28, Tryd.ntmps28
    go_wp2
    go_ret2
    exact ⟨rfl, rfl⟩
  · have hk : l.length - 1 < l.length := by omega
    obtain ⟨g, off, rfl, hg, hcell⟩ := hx.at_ hk
    have hla : l.getLast? = some (l.getD (l.length - 1) 0) := by
      rw [List.getLast?_eq_getElem?, List.getD_eq_getElem?_getD, List.getElem?_eq_getElem hk]
      rfl
    have HLA := hidd hla
    clear hla hx
    generalize l.getD (l.length - 1) 0 = x at *
    obtain ⟨n, hn⟩ : ∃ n, l.length = n := ⟨_, rfl⟩
    rw [hn] at hcell hk h0 hl
    rw [hn]
    clear hn
    have e1 : ((n : Int) - 1) = ((n - 1 : Nat) : Int) := by omega
    have e2 : (n : Int) ≠ 0 := by omega
    have e3 : ((n : Int) == 0) = false := by simp; omega
    have e4 : ((n - 1 : Nat) : Int) < (n : Int) := by omega
    go_enter Tryd.func28, Tryd.ntmps28
    go_wp2
    go_ret2
    rw [HLA.out]
    exact ⟨rfl, rfl⟩
def isL (l : List Nat) (n : Nat) : Bool := l.getLast? == some n
def longZ (l : List Nat) (i : Int) : Int := match l.getLast? with | some e => if (e : Int) ≤ i then 0 else (e : Int) | none => 0
def longB (l : List Nat) (i : Int) : Bool := match l.getLast? with | some e => !decide ((e : Int) ≤ i) | none => false
def EndsL (args : Array Value) (l : List Nat) (w : World) : Prop := Calls Tryd.prog 17 args w fun e w' => LstR w l e w'
set_option maxHeartbeats 400000 in
theorem is_any (A : Option Addr) (n c : Nat) (s : ByteArray) (hs : s.size ≤ 1000) (l : List Nat) (hl : l.length ≤ 100) (w : World) (hE : EndsL #[.slice A n c, .string s, .int .i64 0] l w) :
    Calls Tryd.prog 19 #[.slice A n c, .string s] w fun e w' => Below w.heap.size w w' ∧ e = .returned (.bool (isL l s.size)) := by
  have HE := hidd hE
  clear hE
  go_enter Tryd.func19, Tryd.ntmps19
  go_wp2_with fail
  refine HE.out.mono ?_
  rintro e w1 ⟨b1, A1, c1, rfl, own1⟩
  have hla := last_any A1 c1 l w1 (nts_own own1) (by omega)
  have HB := hidd b1
  have HL : Hid (isL l s.size = (l.getLast? == some s.size)) := rfl
  clear own1 b1
  generalize l.length = m at *
  go_wp2_with fail
  refine hla.mono ?_
  rintro e w2 ⟨rfl, rfl⟩
  clear hla
  cases hg : l.getLast? with
  | none =>
    have HF : Hid (isL l s.size = false) := by show _ = _; unfold isL; rw [hg]; rfl
    clear hg
    go_wp2
    go_ret
    exact ⟨HB.out, by rw [HF.out]; rfl⟩
  | some x =>
    have HF : Hid (isL l s.size = (x == s.size)) := by show _ = _; unfold isL; rw [hg]; rfl
    clear hg
    have hxs : ((x : Int) == (s.size : Int)) = (x == s.size) := by
      rw [Bool.eq_iff_iff]
      simp
      omega
    have hxd : decide ((x : Int) = (s.size : Int)) = (x == s.size) := by
      rw [Bool.eq_iff_iff]
      simp
      omega
    have HF2 := HF.out
    generalize (x == s.size) = zz at *
    go_wp2
    go_ret
    exact ⟨HB.out, by rw [HF.out]; rfl⟩
set_option maxHeartbeats 400000 in
theorem longest_any (A : Option Addr) (n c : Nat) (s : ByteArray) (i : Int) (l : List Nat) (hl : l.length ≤ 100) (w : World) (hE : EndsL #[.slice A n c, .string s, .int .i64 i] l w) :
    Calls Tryd.prog 14 #[.slice A n c, .string s, .int .i64 i] w fun e w' => Below w.heap.size w w' ∧ e = .returned (.tuple #[.int .i64 (longZ l i), .bool (longB l i)]) := by
  have HE := hidd hE
  clear hE
  go_enter Tryd.func14, Tryd.ntmps14
  go_wp2_with fail
  refine HE.out.mono ?_
  rintro e w1 ⟨b1, A1, c1, rfl, own1⟩
  have hla := last_any A1 c1 l w1 (nts_own own1) (by omega)
  have HB := hidd b1
  clear own1 b1
  generalize l.length = m at *
  go_wp2_with fail
  refine hla.mono ?_
  rintro e w2 ⟨rfl, rfl⟩
  clear hla
  cases hg : l.getLast? with
  | none =>
    have HF : Hid (longZ l i = 0 ∧ longB l i = false) := ⟨by unfold longZ; rw [hg], by unfold longB; rw [hg]⟩
    clear hg
    go_wp2
    go_ret2
    exact ⟨HB.out, by rw [HF.out.1, HF.out.2]; rfl⟩
  | some x =>
    by_cases hxi : (x : Int) ≤ i
    · have HF : Hid (longZ l i = 0 ∧ longB l i = false) := ⟨by unfold longZ; rw [hg]; exact if_pos hxi, by unfold longB; rw [hg]; simp [hxi]⟩
      clear hg
      go_wp2
      go_ret2
      exact ⟨HB.out, by rw [HF.out.1, HF.out.2]; rfl⟩
    · have HF : Hid (longZ l i = (x : Int) ∧ longB l i = true) := ⟨by unfold longZ; rw [hg]; exact if_neg hxi, by unfold longB; rw [hg]; simp [hxi]⟩
      clear hg
      go_wp2
      go_ret2
      exact ⟨HB.out, by rw [HF.out.1, HF.out.2]; rfl⟩
/-! ### The laws' helpers -/
theorem endL_len (ns : List Nd) (t : List Nat) (i : Nat) : (endL ns t i).length ≤ t.length + 1 := by
  unfold endL
  have := List.length_filter_le (fun j => @decide (Mt ns t (ns.length - 1) i j) (Classical.propDecidable _)) (List.range (t.length + 1))
  rw [List.length_range] at this
  exact this
set_option maxHeartbeats 1000000 in
theorem ints_any (A A2 : Option Addr) (c c2 : Nat) (l l2 : List Nat) (w : World) (hx : Nts w w.heap.size A l) (hy : Nts w w.heap.size A2 l2) (hl : l.length ≤ 1000) (hl2 : l2.length ≤ 1000) :
    Calls Tryd.prog 16 #[.slice A l.length c, .slice A2 l2.length c2] w fun e w' => Below w.heap.size w w' ∧ ∃ z, e = .returned (.bool z) ∧ (z = true ↔ l = l2) := by
  by_cases hne : l.length = l2.length
  · obtain ⟨n, hn⟩ : ∃ n, l.length = n := ⟨_, rfl⟩
    have HN := hidd hn
    have HN2 : Hid (l2.length = n) := by rw [← hne, hn]; exact rfl
    rw [← hne, hn]
    rw [hn] at hl
    clear hn hne hl2
    go_enter Tryd.func16, Tryd.ntmps16
    go_wp2
    go_loopw [13] (fun s13 wr => ∃ (k m : Nat), k ≤ n ∧ s13 = .int .i64 (k : Int) ∧ (∀ i, i < k → l.getD i 0 = l2.getD i 0) ∧ wr = w.drewN m) (fun s13 _ => n - (intOf s13).toNat)
    case atStart => exact ⟨0, 0, Nat.zero_le _, rfl, fun i hi => absurd hi (Nat.not_lt_zero _), rfl⟩
    case round =>
      obtain ⟨k, m, hk0, rfl, hp, rfl⟩ := hrel
      have HP := hidd hp
      clear hp
      by_cases hlt : k < n
      · obtain ⟨g1, o1, rfl, hg1, hc1⟩ := hx.at_ (k := k) (by rw [HN.out]; exact hlt)
        obtain ⟨g2, o2, rfl, hg2, hc2⟩ := hy.at_ (k := k) (by rw [HN2.out]; exact hlt)
        have y1 : (w.drewN m).cell? ⟨g1, o1 + k, none⟩ = some (.int .i64 ((l.getD k 0 : Nat) : Int)) := hc1
        have y2 : (w.drewN m).cell? ⟨g2, o2 + k, none⟩ = some (.int .i64 ((l2.getD k 0 : Nat) : Int)) := hc2
        have hki : (k : Int) < (n : Int) := by omega
        have HQ : Hid (l.getD k 0 = l2.getD k 0 → ∀ i, i < k + 1 → l.getD i 0 = l2.getD i 0) := fun q i hi => by
          by_cases e : i = k
          · subst e; exact q
          · exact HP.out i (by omega)
        have HNE : Hid (l.getD k 0 ≠ l2.getD k 0 → l ≠ l2) := fun q e => q (by rw [e])
        generalize l.getD k 0 = x at *
        generalize l2.getD k 0 = y at *
        by_cases hxy : x = y
        · subst hxy
          have h1 : ((x : Int) != (x : Int)) = false := by simp
          have HQ2 := hidd (HQ.out rfl)
          clear HQ HNE
          go_wp2
          go_quiet (fail)
          go_wp2
          refine ⟨⟨k + 1, m + nq, by omega, rfl, HQ2.out, ?_⟩, by simp [intOf]; omega⟩
          simp [World.drewN]
        · have h1 : ((x : Int) != (y : Int)) = true := by simp; omega
          have h2 : decide ((x : Int) = (y : Int)) = false := by simp; omega
          have HQ2 := hidd (HNE.out hxy)
          clear HQ HNE hxy
          go_wp2
          go_quiet (fail)
          go_wp2
          go_ret
          exact ⟨bel_drewN (bel_drewN (Below.refl _ _) m) nq, false, rfl, (fun q => by cases q), fun q => absurd q HQ2.out⟩
      · have hkn : k = n := by omega
        have HEQ : Hid (l = l2) := by
          show _ = _
          apply List.ext_getElem?
          intro i
          by_cases hi : i < n
          · have := HP.out i (by omega)
            have h1 : i < l.length := by rw [HN.out]; exact hi
            have h2 : i < l2.length := by rw [HN2.out]; exact hi
            rw [List.getD_eq_getElem?_getD, List.getElem?_eq_getElem h1, List.getD_eq_getElem?_getD, List.getElem?_eq_getElem h2] at this
            rw [List.getElem?_eq_getElem h1, List.getElem?_eq_getElem h2]
            exact congrArg some this
          · rw [List.getElem?_eq_none (by rw [HN.out]; omega), List.getElem?_eq_none (by rw [HN2.out]; omega)]
        subst hkn
        go_wp2
        go_ret
        exact ⟨bel_drewN (Below.refl _ _) m, true, rfl, fun _ => HEQ.out, fun _ => rfl⟩
  · have HNE : Hid (l ≠ l2) := fun e => hne (by rw [e])
    generalize l.length = n at *
    generalize l2.length = n2 at *
    have h1 : ((n : Int) != (n2 : Int)) = true := by simp; omega
    have h2 : decide ((n : Int) = (n2 : Int)) = false := by simp; omega
    have h3 : ((n : Int) == (n2 : Int)) = false := by simp; omega
    clear hne hx hy
    go_enter Tryd.func16, Tryd.ntmps16
    go_wp2
    go_ret
    exact ⟨Below.refl _ _, false, rfl, (fun q => by cases q), fun q => absurd q HNE.out⟩
end Go.Proofs.YtcgondjekpcpgaaDoor.Sy.Lg.En

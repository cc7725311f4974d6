/- The last place; Is, Longest; the laws' helpers ints, text. -/
import Derived.Test.YtcgondjekpcpgaaDoorPCz
namespace Go.Proofs.YtcgondjekpcpgaaDoor.Sy.Lg.En
open Go.RowKit Go.Proofs.YtcgondjekpcpgaaDoor.Sy.Ap Go.Proofs.YtcgondjekpcpgaaDoor.Sy.Ap.Wk
set_option maxRecDepth 100000
set_option linter.unusedVariables false

theorem nts_own {w : World} {b : Nat} {A : Option Addr} {c : Nat} {l : List Nat} (h : w.ownsRow b 3 1 (.slice A l.length c) l.length (i64s l)) : Nts w w.heap.size A l := by
  obtain ⟨A2, c2, e, hN⟩ := Nts.of_own h
  injection e with e1 e2 e3
  subst e1
  exact hN
set_option maxHeartbeats 400000 in
theorem last_any (A : Option Addr) (c : Nat) (l : List Nat) (w : World) (hx : Nts w w.heap.size A l) (hl : l.length ≤ 1000) :
    Calls Tryd.prog 28 #[.slice A l.length c] w fun e w' => w' = w ∧ e = .returned (.tuple #[.int .i64 ((l.getLast?.getD 0 : Nat) : Int), .bool l.getLast?.isSome]) := by
  by_cases h0 : l.length = 0
  · have e : l = [] := List.eq_nil_of_length_eq_zero h0
    subst e
    go_enter Tryd.func28, Tryd.ntmps28
    go_wp2
    go_ret2
    exact ⟨rfl, rfl⟩
  · have hk : l.length - 1 < l.length := by omega
    obtain ⟨g, off, rfl, hg, hcell⟩ := hx.at_ hk
    have hla : l.getLast? = some (l.getD (l.length - 1) 0) := by
      rw [List.getLast?_eq_getElem?, List.getD_eq_getElem?_getD, List.getElem?_eq_getElem hk]
      rfl
    have HLA := hidd hla
    clear hla hx
    generalize l.getD (l.length - 1) 0 = x at *
    obtain ⟨n, hn⟩ : ∃ n, l.length = n := ⟨_, rfl⟩
    rw [hn] at hcell hk h0 hl
    rw [hn]
    clear hn
    have e1 : ((n : Int) - 1) = ((n - 1 : Nat) : Int) := by omega
    have e2 : (n : Int) ≠ 0 := by omega
    have e3 : ((n : Int) == 0) = false := by simp; omega
    have e4 : ((n - 1 : Nat) : Int) < (n : Int) := by omega
    go_enter Tryd.func28, Tryd.ntmps28
    go_wp2
    go_ret2
    rw [HLA.out]
    exact ⟨rfl, rfl⟩
def isL (l : List Nat) (n : Nat) : Bool := l.getLast? == some n
def longZ (l : List Nat) (i : Int) : Int := match l.getLast? with | some e => if (e : Int) ≤ i then 0 else (e : Int) | none => 0
def longB (l : List Nat) (i : Int) : Bool := match l.getLast? with | some e => !decide ((e : Int) ≤ i) | none => false
def EndsL (args : Array Value) (l : List Nat) (w : World) : Prop := Calls Tryd.prog 17 args w fun e w' => LstR w l e w'
set_option maxHeartbeats 400000 in
theorem is_any (A : Option Addr) (n c : Nat) (s : ByteArray) (hs : s.size ≤ 1000) (l : List Nat) (hl : l.length ≤ 100) (w : World) (hE : EndsL #[.slice A n c, .string s, .int .i64 0] l w) :
    Calls Tryd.prog 19 #[.slice A n c, .string s] w fun e w' => Below w.heap.size w w' ∧ e = .returned (.bool (isL l s.size)) := by
  have HE := hidd hE
  clear hE
  go_enter Tryd.func19, Tryd.ntmps19
  go_wp2_with fail
  refine HE.out.mono ?_
  rintro e w1 ⟨b1, A1, c1, rfl, own1⟩
  have hla := last_any A1 c1 l w1 (nts_own own1) (by omega)
  have HB := hidd b1
  have HL : Hid (isL l s.size = (l.getLast? == some s.size)) := rfl
  clear own1 b1
  generalize l.length = m at *
  go_wp2_with fail
  refine hla.mono ?_
  rintro e w2 ⟨rfl, rfl⟩
  clear hla
  cases hg : l.getLast? with
  | none =>
    have HF : Hid (isL l s.size = false) := by show _ = _; unfold isL; rw [hg]; rfl
    clear hg
    go_wp2
    go_ret
    exact ⟨HB.out, by rw [HF.out]; rfl⟩
  | some x =>
    have HF : Hid (isL l s.size = (x == s.size)) := by show _ = _; unfold isL; rw [hg]; rfl
    clear hg
    have hxs : ((x : Int) == (s.size : Int)) = (x == s.size) := by
      rw [Bool.eq_iff_iff]
      simp
      omega
    have hxd : decide ((x : Int) = (s.size : Int)) = (x == s.size) := by
      rw [Bool.eq_iff_iff]
      simp
      omega
    have HF2 := HF.out
    generalize (x == s.size) = zz at *
    go_wp2
    go_ret
    exact ⟨HB.out, by rw [HF.out]; rfl⟩
set_option maxHeartbeats 400000 in
theorem longest_any (A : Option Addr) (n c : Nat) (s : ByteArray) (i : Int) (l : List Nat) (hl : l.length ≤ 100) (w : World) (hE : EndsL #[.slice A n c, .string s, .int .i64 i] l w) :
    Calls Tryd.prog 14 #[.slice A n c, .string s, .int .i64 i] w fun e w' => Below w.heap.size w w' ∧ e = .returned (.tuple #[.int .i64 (longZ l i), .bool (longB l i)]) := by
  have HE := hidd hE
  clear hE
  go_enter Tryd.func14, Tryd.ntmps14
  go_wp2_with fail
  refine HE.out.mono ?_
  rintro e w1 ⟨b1, A1, c1, rfl, own1⟩
  have hla := last_any A1 c1 l w1 (nts_own own1) (by omega)
  have HB := hidd b1
  clear own1 b1
  generalize l.length = m at *
  go_wp2_with fail
  refine hla.mono ?_
  rintro e w2 ⟨rfl, rfl⟩
  clear hla
  cases hg : l.getLast? with
  | none =>
    have HF : Hid (longZ l i = 0 ∧ longB l i = false) := ⟨by unfold longZ; rw [hg], by unfold longB; rw [hg]⟩
    clear hg
    go_wp2
    go_ret2
    exact ⟨HB.out, by rw [HF.out.1, HF.out.2]; rfl⟩
  | some x =>
    by_cases hxi : (x : Int) ≤ i
    · have HF : Hid (longZ l i = 0 ∧ longB l i = false) := ⟨by unfold longZ; rw [hg]; exact if_pos hxi, by unfold longB; rw [hg]; simp [hxi]⟩
      clear hg
      go_wp2
      go_ret2
      exact ⟨HB.out, by rw [HF.out.1, HF.out.2]; rfl⟩
    · have HF : Hid (longZ l i = (x : Int) ∧ longB l i = true) := ⟨by unfold longZ; rw [hg]; exact if_neg hxi, by unfold longB; rw [hg]; simp [hxi]⟩
      clear hg
      go_wp2
      go_ret2
      exact ⟨HB.out, by rw [HF.out.1, HF.out.2]; rfl⟩
/-! ### The laws' helpers -/
theorem endL_len (ns : List Nd) (t : List Nat) (i : Nat) : (endL ns t i).length ≤ t.length + 1 := by
  unfold endL
  have := List.length_filter_le (fun j => @decide (Mt ns t (ns.length - 1) i j) (Classical.propDecidable _)) (List.range (t.length + 1))
  rw [List.length_range] at this
  exact this
set_option maxHeartbeats 1000000 in
theorem ints_any (A A2 : Option Addr) (c c2 : Nat) (l l2 : List Nat) (w : World) (hx : Nts w w.heap.size A l) (hy : Nts w w.heap.size A2 l2) (hl : l.length ≤ 1000) (hl2 : l2.length ≤ 1000) :
    Calls Tryd.prog 16 #[.slice A l.length c, .slice A2 l2.length c2] w fun e w' => Below w.heap.size w w' ∧ ∃ z, e = .returned (.bool z) ∧ (z = true ↔ l = l2) := by
  by_cases hne : l.length = l2.length
  · obtain ⟨n, hn⟩ : ∃ n, l.length = n := ⟨_, rfl⟩
    have HN := hidd hn
    have HN2 : Hid (l2.length = n) := by rw [← hne, hn]; exact rfl
    rw [← hne, hn]
    rw [hn] at hl
    clear hn hne hl2
    go_enter Tryd.func16, Tryd.ntmps16
    go_wp2
    go_loopw [13] (fun s13 wr => ∃ (k m : Nat), k ≤ n ∧ s13 = .int .i64 (k : Int) ∧ (∀ i, i < k → l.getD i 0 = l2.getD i 0) ∧ wr = w.drewN m) (fun s13 _ => n - (intOf s13).toNat)
    case atStart => exact ⟨0, 0, Nat.zero_le _, rfl, fun i hi => absurd hi (Nat.not_lt_zero _), rfl⟩
    case round =>
      obtain ⟨k, m, hk0, rfl, hp, rfl⟩ := hrel
      have HP := hidd hp
      clear hp
      by_cases hlt : k < n
      · obtain ⟨g1, o1, rfl, hg1, hc1⟩ := hx.at_ (k := k) (by rw [HN.out]; exact hlt)
        obtain ⟨g2, o2, rfl, hg2, hc2⟩ := hy.at_ (k := k) (by rw [HN2.out]; exact hlt)
        have y1 : (w.drewN m).cell? ⟨g1, o1 + k, none⟩ = some (.int .i64 ((l.getD k 0 : Nat) : Int)) := hc1
        have y2 : (w.drewN m).cell? ⟨g2, o2 + k, none⟩ = some (.int .i64 ((l2.getD k 0 : Nat) : Int)) := hc2
        have hki : (k : Int) < (n : Int) := by omega
        have HQ : Hid (l.getD k 0 = l2.getD k 0 → ∀ i, i < k + 1 → l.getD i 0 = l2.getD i 0) := fun q i hi => by
          by_cases e : i = k
          · subst e; exact q
          · exact HP.out i (by omega)
        have HNE : Hid (l.getD k 0 ≠ l2.getD k 0 → l ≠ l2) := fun q e => q (by rw [e])
        generalize l.getD k 0 = x at *
        generalize l2.getD k 0 = y at *
        by_cases hxy : x = y
        · subst hxy
          have h1 : ((x : Int) != (x : Int)) = false := by simp
          have HQ2 := hidd (HQ.out rfl)
          clear HQ HNE
          go_wp2
          go_quiet (fail)
          go_wp2
          refine ⟨⟨k + 1, m + nq, by omega, rfl, HQ2.out, ?_⟩, by simp [intOf]; omega⟩
          simp [World.drewN]
        · have h1 : ((x : Int) != (y : Int)) = true := by simp; omega
          have h2 : decide ((x : Int) = (y : Int)) = false := by simp; omega
          have HQ2 := hidd (HNE.out hxy)
          clear HQ HNE hxy
          go_wp2
          go_quiet (fail)
          go_wp2
          go_ret
          exact ⟨bel_drewN (bel_drewN (Below.refl _ _) m) nq, false, rfl, (fun q => by cases q), fun q => absurd q HQ2.out⟩
      · have hkn : k = n := by omega
        have HEQ : Hid (l = l2) := by
          show _ = _
          apply List.ext_getElem?
          intro i
          by_cases hi : i < n
          · have := HP.out i (by omega)
            have h1 : i < l.length := by rw [HN.out]; exact hi
            have h2 : i < l2.length := by rw [HN2.out]; exact hi
            rw [List.getD_eq_getElem?_getD, List.getElem?_eq_getElem h1, List.getD_eq_getElem?_getD, List.getElem?_eq_getElem h2] at this
            rw [List.getElem?_eq_getElem h1, List.getElem?_eq_getElem h2]
            exact congrArg some this
          · rw [List.getElem?_eq_none (by rw [HN.out]; omega), List.getElem?_eq_none (by rw [HN2.out]; omega)]
        subst hkn
        go_wp2
        go_ret
        exact ⟨bel_drewN (Below.refl _ _) m, true, rfl, fun _ => HEQ.out, fun _ => rfl⟩
  · have HNE : Hid (l ≠ l2) := fun e => hne (by rw [e])
    generalize l.length = n at *
    generalize l2.length = n2 at *
    have h1 : ((n : Int) != (n2 : Int)) = true := by simp; omega
    have h2 : decide ((n : Int) = (n2 : Int)) = false := by simp; omega
    have h3 : ((n : Int) == (n2 : Int)) = false := by simp; omega
    clear hne hx hy
    go_enter Tryd.func16, Tryd.ntmps16
    go_wp2
    go_ret
    exact ⟨Below.refl _ _, false, rfl, (fun q => by cases q), fun q => absurd q HNE.out⟩
end Go.Proofs.YtcgondjekpcpgaaDoor.Sy.Lg.En

namespace Go.Proofs.YtcgondjekpcpgaaDoor.Sy.Lg.En
open Go.RowKit Go.Proofs.YtcgondjekpcpgaaDoor.Sy.Ap Go.Proofs.YtcgondjekpcpgaaDoor.Sy.Ap.Wk
set_option maxRecDepth 100000
set_option linter.unusedVariables false

/-! ### What the examples mean -/
abbrev eA1 : ByteArray := { data := #[97, 123, 49, 44, 50, 125] }
abbrev eA2 : ByteArray := { data := #[40, 97, 98, 41, 42] }
abbrev eT1 : ByteArray := { data := #[97, 97, 97] }
abbrev eT2 : ByteArray := { data := #[97, 98, 97, 98, 97] }
abbrev eN1 : List Nd := [ndBytes (oneS 97), ndRep 0 1 2]
abbrev eN2 : List Nd := [ndBytes (oneS 97), ndBytes (oneS 98), ndCat [0, 1], ndRep 2 0 (-1)]
theorem e_p1 : parse (bs eA1) = .ok eN1 := rfl
theorem e_p2 : parse (bs eA2) = .ok eN2 := rfl
theorem mt_byte {ns : List Nd} (hl : Low ns) {t : List Nat} {k c : Nat} (hn : ns[k]? = some (ndBytes (oneS c))) (i j : Nat) : Mt ns t k i j ↔ i < t.length ∧ t.getD i 0 = c ∧ j = i + 1 := by
  rw [Mt_eq hl t k hn]
  unfold node1
  rw [if_pos (show (ndBytes (oneS c)).op = 2 from rfl)]
  show i < t.length ∧ (t.getD i 0 == c) = true ∧ j = i + 1 ↔ _
  rw [beq_iff_eq]
theorem e_ends : endL eN1 (bs eT1) 0 = [1, 2] := by
  have hl := (tree_parse (bs_b eA1) e_p1).low
  have h0 := fun i j => mt_byte hl (t := bs eT1) (k := 0) (c := 97) rfl i j
  have h1 : ∀ j, Mt eN1 (bs eT1) 1 0 j ↔ j = 1 ∨ j = 2 := fun j => by
    rw [Mt_eq hl _ 1 (n := ndRep 0 1 2) rfl]
    show repR (Mt eN1 (bs eT1) 0) 1 2 0 j ↔ _
    constructor
    · rintro ⟨t, q1, q2, q3⟩
      have ht : t = 1 ∨ t = 2 := by omega
      rcases ht with rfl | rfl
      · obtain ⟨m, rfl, h⟩ := q3
        exact .inl ((h0 _ _).1 h).2.2
      · obtain ⟨m, ⟨m2, rfl, h⟩, h2⟩ := q3
        have e1 := ((h0 _ _).1 h).2.2
        have e2 := ((h0 _ _).1 h2).2.2
        omega
    · rintro (rfl | rfl)
      · exact ⟨1, by omega, by omega, 0, rfl, (h0 0 1).2 ⟨by decide, rfl, rfl⟩⟩
      · exact ⟨2, by omega, by omega, 1, ⟨0, rfl, (h0 0 1).2 ⟨by decide, rfl, rfl⟩⟩, (h0 1 2).2 ⟨by decide, rfl, rfl⟩⟩
  unfold endL
  have e : (List.range ((bs eT1).length + 1)) = [0, 1, 2, 3] := rfl
  rw [e]
  show List.filter (fun j => @decide (Mt eN1 (bs eT1) 1 0 j) (Classical.propDecidable _)) [0, 1, 2, 3] = _
  simp [h1]
theorem e_long : (endL eN2 (bs eT2) 0).getLast? = some 4 := by
  have hl := (tree_parse (bs_b eA2) e_p2).low
  have ha := fun i j => mt_byte hl (t := bs eT2) (k := 0) (c := 97) rfl i j
  have hb := fun i j => mt_byte hl (t := bs eT2) (k := 1) (c := 98) rfl i j
  have hab : ∀ i j, Mt eN2 (bs eT2) 2 i j → (i = 0 ∧ j = 2) ∨ (i = 2 ∧ j = 4) := fun i j => by
    rw [Mt_eq hl _ 2 (n := ndCat [0, 1]) rfl]
    rintro ⟨m, h1, m2, h2, rfl⟩
    obtain ⟨q1, q2, rfl⟩ := (ha _ _).1 h1
    obtain ⟨q3, q4, rfl⟩ := (hb _ _).1 h2
    have q1 : i < 5 := q1
    have hi : i = 0 ∨ i = 1 ∨ i = 2 ∨ i = 3 ∨ i = 4 := by omega
    rcases hi with rfl | rfl | rfl | rfl | rfl
    · exact .inl ⟨rfl, rfl⟩
    · exact absurd q2 (by decide)
    · exact .inr ⟨rfl, rfl⟩
    · exact absurd q2 (by decide)
    · exact absurd q3 (by decide)
  have hc : ∀ i j, ((i = 0 ∧ j = 2) ∨ (i = 2 ∧ j = 4)) → Mt eN2 (bs eT2) 2 i j := fun i j h => by
    rw [Mt_eq hl _ 2 (n := ndCat [0, 1]) rfl]
    rcases h with ⟨rfl, rfl⟩ | ⟨rfl, rfl⟩
    · exact ⟨1, (ha 0 1).2 ⟨by decide, rfl, rfl⟩, 2, (hb 1 2).2 ⟨by decide, rfl, rfl⟩, rfl⟩
    · exact ⟨3, (ha 2 3).2 ⟨by decide, rfl, rfl⟩, 4, (hb 3 4).2 ⟨by decide, rfl, rfl⟩, rfl⟩
  have hp : ∀ t j, powR (Mt eN2 (bs eT2) 2) t 0 j → (t = 0 ∧ j = 0) ∨ (t = 1 ∧ j = 2) ∨ (t = 2 ∧ j = 4) := fun t => by
    induction t with
    | zero => intro j h; exact .inl ⟨rfl, h.symm⟩
    | succ t ih =>
      rintro j ⟨m, h1, h2⟩
      have h3 := ih m h1
      have h4 := hab _ _ h2
      omega
  have h3 : ∀ j, Mt eN2 (bs eT2) 3 0 j ↔ j = 0 ∨ j = 2 ∨ j = 4 := fun j => by
    rw [Mt_eq hl _ 3 (n := ndRep 2 0 (-1)) rfl]
    show repR (Mt eN2 (bs eT2) 2) 0 (-1) 0 j ↔ _
    constructor
    · rintro ⟨t, -, -, q⟩
      have := hp t j q
      omega
    · rintro (rfl | rfl | rfl)
      · exact ⟨0, by omega, by omega, rfl⟩
      · exact ⟨1, by omega, by omega, 0, rfl, hc 0 2 (.inl ⟨rfl, rfl⟩)⟩
      · exact ⟨2, by omega, by omega, 2, ⟨0, rfl, hc 0 2 (.inl ⟨rfl, rfl⟩)⟩, hc 2 4 (.inr ⟨rfl, rfl⟩)⟩
  unfold endL
  have e : (List.range ((bs eT2).length + 1)) = [0, 1, 2, 3, 4, 5] := rfl
  rw [e]
  show (List.filter (fun j => @decide (Mt eN2 (bs eT2) 3 0 j) (Classical.propDecidable _)) [0, 1, 2, 3, 4, 5]).getLast? = _
  simp [h3]
/-- What is there for a tree, by the plain meaning. -/
theorem ends_tree {A : Option Addr} {c : Nat} {gs : List Gd} {ns : List Nd} {s : ByteArray} {i : Nat} {w : World} (hx : Nds w w.heap.size A gs) (hg : GN gs ns) (ht : TreeN ns) (hp : PlainN ns) (hs : s.size ≤ 63) (hi : i ≤ s.size) (hD : DB w) : EndsL #[.slice A gs.length c, .string s, .int .i64 (i : Int)] (endL ns (bs s) i) w :=
  lends_ok A c gs ns s i w hx hg ht ((plain_tree hg ht).2 hp) (gn_sm hg ht) hs hi hD
theorem endL_few (ns : List Nd) (s : ByteArray) (i : Nat) (hs : s.size ≤ 63) : (endL ns (bs s) i).length ≤ 100 := by
  have := endL_len ns (bs s) i
  rw [bs_len] at this
  omega
set_option maxHeartbeats 2000000 in
theorem shown7_any (w : World) (hD : DB w) : Calls Tryd.prog 10 #[] w fun e w' => e = .returned (.bool true) ∧ Below w.heap.size w w' := by
  have t1 := tree_parse (bs_b eA1) e_p1
  have t2 := tree_parse (bs_b eA2) e_p2
  have H1 : Hid (∀ u, _) := fun u => Rf.refparse_any eA1 (smp_of (by decide) (by decide)) eN1 e_p1 u
  have H2 : Hid (∀ u, _) := fun u => Rf.refparse_any eA2 (smp_of (by decide) (by decide)) eN2 e_p2 u
  have pl1 : PlainN eN1 := by intro n hn; simp at hn; rcases hn with e | e <;> (subst e; decide)
  have pl2 : PlainN eN2 := by intro n hn; simp at hn; rcases hn with e | e | e | e <;> (subst e; decide)
  have HT := hidd (⟨t1, t2, pl1, pl2⟩ : TreeN eN1 ∧ TreeN eN2 ∧ PlainN eN1 ∧ PlainN eN2)
  have HD := hidd hD
  clear t1 t2 pl1 pl2 hD
  go_enter Tryd.func10, Tryd.ntmps10
  go_wp2_with fail
  refine (H1.out _).mono ?_
  rintro e w1 ⟨A1, c1, g1, rfl, N1, G1, b1⟩
  go_wp2_with fail
  refine (H2.out _).mono ?_
  rintro e w2 ⟨A2, c2, g2, rfl, N2, G2, b2⟩
  have b02 := b1.trans (b2.mono b1.size)
  have N1' := (N1.below b2).more b2.size
  have E2 := ends_tree (c := c2) (s := eT2) (i := 0) N2 G2 HT.out.2.1 HT.out.2.2.2 (by decide) (Nat.zero_le _) (HD.out.below b02)
  have hlo := longest_any A2 g2.length c2 eT2 0 _ (endL_few eN2 eT2 0 (by decide)) w2 E2
  have HZ : longZ (endL eN2 (bs eT2) 0) 0 = 4 := by unfold longZ; rw [e_long]; rfl
  have HBZ : longB (endL eN2 (bs eT2) 0) 0 = true := by unfold longB; rw [e_long]; rfl
  rw [HZ, HBZ] at hlo
  have HB2 := hidd b02
  clear E2 HZ HBZ b02 b1 b2 N1 N2 G2
  go_wp2_with fail
  refine hlo.mono ?_
  rintro e w3 ⟨b3, rfl⟩
  have N1'' := (N1'.below b3).more b3.size
  have B3 := HB2.out.trans (b3.mono HB2.out.size)
  have E1 := ends_tree (c := c1) (s := eT1) (i := 0) N1'' G1 HT.out.1 HT.out.2.2.1 (by decide) (Nat.zero_le _) (HD.out.below B3)
  rw [e_ends] at E1
  have HB3 := hidd B3
  have HE1 := hidd E1
  clear hlo B3 E1 N1' N1'' G1 b3
  go_wp2_with fail
  refine HE1.out.mono ?_
  rintro e w4 ⟨b4, A4, c4, rfl, own4⟩
  have hN4 := nts_own own4
  have B4 := HB3.out.trans (b4.mono HB3.out.size)
  have hR := RowA.new w4 3 #[.int .i64 1, .int .i64 2]
  have hb5 : Below w4.heap.size w4 (w4.alloc (.cells #[.int .i64 1, .int .i64 2] 3)) := (Below.refl _ _).alloc (Nat.le_refl _) _
  have hN5 : Nts (w4.alloc (.cells #[.int .i64 1, .int .i64 2] 3)) (w4.alloc (.cells #[.int .i64 1, .int .i64 2] 3)).heap.size (some ⟨w4.heap.size, 0, none⟩) [1, 2] := fun _ => ⟨w4.heap.size, 0, rfl, hR.lt, fun i hi => by
    have hi : i < 2 := hi
    have : i = 0 ∨ i = 1 := by omega
    rcases this with rfl | rfl
    · exact hR.at_ rfl
    · exact hR.at_ rfl⟩
  have hin := ints_any A4 (some ⟨w4.heap.size, 0, none⟩) c4 2 [1, 2] [1, 2] _ ((hN4.below hb5).more hb5.size) hN5 (by decide) (by decide)
  have HB5 := hidd (B4.trans (hb5.mono B4.size))
  clear own4 hN4 b4 hR hb5 hN5 B4
  go_wp2_with fail
  refine hin.mono ?_
  rintro e w5 ⟨b5, z, rfl, hz⟩
  have hzt : z = true := hz.2 (by trivial)
  subst hzt
  have HB6 := hidd (HB5.out.trans (b5.mono HB5.out.size))
  clear hin b5 hz
  go_wp2
  go_ret
  exact ⟨rfl, HB6.out⟩
end Go.Proofs.YtcgondjekpcpgaaDoor.Sy.Lg.En

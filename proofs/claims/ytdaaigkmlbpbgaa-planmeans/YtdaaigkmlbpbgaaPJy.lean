/- A repetition of a tree: the tree, where it ends; as often as a text is long is enough. -/
import Derived.Test.YtdaaigkmlbpbgaaPGl
import Derived.Test.YtdaaigkmlbpbgaaPGz
import Derived.Test.YtdaaigkmlbpbgaaPJu
namespace Go.Proofs.Ytdaaigkmlbpbgaa.Sy.Lg.En
open Go.RowKit Go.Proofs.Ytdaaigkmlbpbgaa.Sy.Ap Go.Proofs.Ytdaaigkmlbpbgaa.Sy.Ap.Wk
set_option maxRecDepth 100000
set_option linter.unusedVariables false

theorem img_one (R : Rel) (f j : Nat) : img R (fun i => i = f) j ↔ R f j := by
  constructor
  · rintro ⟨i, rfl, h⟩; exact h
  · intro h; exact ⟨f, rfl, h⟩
/-! ### The tree -/
section
variable {gx : List Gd} {ns : List Nd}
end
end Go.Proofs.Ytdaaigkmlbpbgaa.Sy.Lg.En

namespace Go.Proofs.Ytdaaigkmlbpbgaa.Sy.Lg.Rn
open Go.RowKit Go.Proofs.Ytdaaigkmlbpbgaa.Sy.Ap Go.Proofs.Ytdaaigkmlbpbgaa.Sy.Ap.Wk Go.Proofs.Ytdaaigkmlbpbgaa.Sy.Lg.En
set_option maxRecDepth 100000
set_option linter.unusedVariables false

def REndsL (args : Array Value) (l : List Nat) (w : World) : Prop := Calls Try.prog 21 args w fun e w' => LstR w l e w'
set_option maxHeartbeats 1000000 in
theorem rtop_bad (A : Option Addr) (c : Nat) (gs : List Gd) (s : ByteArray) (x : Int) (w : World) (hN : Nds w w.heap.size A gs) (hl : gs.length ≤ 2000) (hsm : Small gs) (hs : s.size ≤ 1000) (hno : PlainG gs → x < 0 ∨ (s.size : Int) < x) :
    REndsL #[.slice A gs.length c, .string s, .int .i64 x] [] w := by
  have hP := plain_any A c gs w hN hl hsm
  have HNO := hidd hno
  clear hN hsm hno
  unfold REndsL
  generalize gs.length = n at *
  go_enter Try.func21, Try.ntmps21
  go_wp2_with fail
  refine hP.mono ?_
  rintro e w1 ⟨z, rfl, hz, b1⟩
  have HF : Hid (LstR w [] (.returned (.slice none 0 0)) w1) := ⟨b1, none, 0, rfl, World.ownsRow_nil _ _ _ _⟩
  have HZ := hidd hz
  clear hP b1 hz
  cases z with
  | false =>
    go_wp2
    go_ret
    exact HF.out
  | true =>
    rcases HNO.out (HZ.out.1 (by trivial)) with q | q
    · have q2 : decide (x < 0) = true := by simp [q]
      go_wp2
      go_ret
      exact HF.out
    · have q1 : ¬ x < 0 := by omega
      have q2 : decide (x < 0) = false := by simp; omega
      have q3 : decide ((s.size : Int) < x) = true := by simp [q]
      go_wp2
      go_ret
      exact HF.out
set_option maxHeartbeats 2000000 in
theorem rtop_ok (A : Option Addr) (c : Nat) (gs : List Gd) (ns : List Nd) (s : ByteArray) (i : Nat) (w : World) (hN : Nds w w.heap.size A gs) (hg : GN gs ns) (ht : TreeN ns) (hp : PlainN ns) (hs : s.size ≤ 63) (hi : i ≤ s.size) :
    REndsL #[.slice A gs.length c, .string s, .int .i64 (i : Int)] (endL ns (bs s) i) w := by
  obtain ⟨j0, hj0i, hy0, hy1, hy2⟩ := info_parts int_info
  have hpg : PlainG gs := (plain_tree hg ht).2 hp
  have hpos : 0 < gs.length := by have := ht.pos; have := hg.1; omega
  have hfew : gs.length ≤ 1024 := by have := ht.few; have := hg.1; omega
  have hP := plain_any A c gs w hN (by omega) (gn_sm hg ht)
  obtain ⟨b1, o1, hA, hb1, _⟩ := hN (fun q => by rw [q] at hpos; simp at hpos)
  subst hA
  obtain ⟨n, hn⟩ : ∃ n, s.size + 1 = n := ⟨_, rfl⟩
  have hl : n ≤ 1000 := by omega
  have HE : Hid (KidC w n (some ⟨b1, o1, none⟩) gs.length c s (ns.length - 1) (Mt ns (bs s) (ns.length - 1))) := rends_any w b1 o1 hb1 c gs ns s n hN hg ht hp hn hl (ns.length - 1) (by have := ht.pos; omega)
  have hroot : ((gs.length : Int) - 1) = ((ns.length - 1 : Nat) : Int) := by have := hg.1; have := ht.pos; omega
  have HEND : Hid (∀ j, j ∈ endL ns (bs s) i ↔ j < n ∧ Mt ns (bs s) (ns.length - 1) i j) := fun j => by
    rw [mem_endL ht.low (by rw [bs_len]; exact hi)]
    constructor
    · intro h
      have := (Mt_in ht.low (bs s) _ _ _ h).2 (by rw [bs_len]; exact hi)
      rw [bs_len] at this
      exact ⟨by omega, h⟩
    · exact fun q => q.2
  have HRISE := hidd (endL_rise ns (bs s) i)
  have HPG := hidd hpg
  have HN1 := hidd hn
  clear hN hg ht hp hpg
  generalize endL ns (bs s) i = E at *
  generalize Mt ns (bs s) (ns.length - 1) = R at *
  generalize ns.length - 1 = rt at *
  obtain ⟨ll, hll⟩ : ∃ ll, gs.length = ll := ⟨_, rfl⟩
  rw [hll] at hroot hP HE hpos hfew
  rw [hll]
  clear hll
  have hin : i < n := by omega
  have hini : (i : Int) < (n : Int) := by omega
  have h0 : ¬ (i : Int) < 0 := by omega
  have h1 : ¬ (s.size : Int) < (i : Int) := by omega
  have h2 : decide ((i : Int) < 0) = false := by simp
  clear hn
  unfold REndsL
  go_enter Try.func21, Try.ntmps21
  go_wp2_with fail
  refine hP.mono ?_
  rintro e w1 ⟨z, rfl, hz, hb1⟩
  have hzt : z = true := hz.2 HPG.out
  subst hzt
  have HB1 := hidd hb1
  have hpl := places_any s n HN1.out hl w1
  clear hP hz hb1
  go_wp2_with fail
  refine hpl.mono ?_
  rintro e w2 ⟨b2, q, hq, rfl, r2⟩
  have HB2 := hidd (HB1.out.trans (b2.mono HB1.out.size))
  have tg := RowF.thawed r2 i
  have cg := RowF.at_ r2 i hin
  have hqw : w.heap.size ≤ q := Nat.le_trans HB1.out.size hq
  have r3 := r2.put i (.bool true)
  have e : (fun j => if j = i then Value.bool true else .bool false) = fun j => .bool (decide (j = i)) := by
    funext j
    by_cases q : j = i
    · simp [q]
    · simp [q]
  rw [e] at r3
  have HR3 : Hid (RowF (w2.setCell ⟨q, i, none⟩ (.bool true)) q 4 n (fun j => .bool (decide (j = i))) ∧ Below w.heap.size w (w2.setCell ⟨q, i, none⟩ (.bool true))) := ⟨r3, bel_set HB2.out _ _ hqw⟩
  clear hpl b2 r2 r3 e
  go_upto_region 5 with fail
  generalize w2.setCell ⟨q, i, none⟩ (.bool true) = w3 at *
  have hcall := HE.out w3 (some ⟨q, 0, none⟩) n (fun j => decide (j = i)) (fun j => j = i) HR3.out.2 (Bls.of_row HR3.out.1) (fun j hj => by simp) (fun j q => by rw [q]; exact hin)
  clear tg cg
  go_wp2_with fail
  refine hcall.mono ?_
  rintro e w4 ⟨b4, A4, c4, f4, rfl, hb4, hf4⟩
  have HEQ : Hid (E = someL f4 n) := rise_filter HRISE.out fun x => by
    rw [HEND.out]
    constructor
    · rintro ⟨q1, q2⟩
      exact ⟨q1, (hf4 x q1).2 ((img_one R i x).2 q2)⟩
    · rintro ⟨q1, q2⟩
      exact ⟨q1, (img_one R i x).1 ((hf4 x q1).1 q2)⟩
  have HB4 := hidd (HR3.out.2.trans (b4.mono HR3.out.2.size))
  obtain ⟨g4, o4, rfl, hg4, hc4⟩ := hb4
  have HC4 := hidd hc4
  have HO0 : Hid (w4.ownsRow w.heap.size 3 1 (.slice none 0 0) (someL f4 0).length (i64s (someL f4 0))) := World.ownsRow_nil _ _ _ _
  clear hcall b4 hf4 hc4
  go_wp2
  go_loopw [9, 10] (fun s9 s10 wr => ∃ k : Nat, k ≤ n ∧ s10 = .int .i64 (k : Int) ∧ wr.ownsRow w4.heap.size 3 1 s9 (someL f4 k).length (i64s (someL f4 k)) ∧ Below w4.heap.size w4 wr) (fun _ s10 _ => n - (intOf s10).toNat)
  case atStart => exact ⟨0, Nat.zero_le _, rfl, World.ownsRow_nil _ _ _ _, Below.refl _ _⟩
  case round =>
    clear HO0
    obtain ⟨k, hk0, rfl, hown, hb⟩ := hrel
    obtain ⟨A3, c3, rfl⟩ := own_form hown
    by_cases hlt : k < n
    · have x1 : wr.cell? ⟨g4, o4 + k, none⟩ = some (.bool (f4 k)) := by rw [hb.cell hg4]; exact HC4.out k hlt
      have hki : (k : Int) < (n : Int) := by omega
      have hnx := someL_next f4 k
      have hll := someL_len f4 k
      cases hf : f4 k with
      | false =>
        rw [hf] at x1 hnx
        rw [if_neg (by decide)] at hnx
        have HF : Hid (wr.ownsRow w4.heap.size 3 1 (.slice A3 (someL f4 k).length c3) (someL f4 (k + 1)).length (i64s (someL f4 (k + 1))) ∧ Below w4.heap.size w4 wr) := ⟨by rw [hnx]; exact hown, hb⟩
        clear hown hb hnx
        generalize someL f4 k = L at *
        go_wp2
        exact ⟨⟨k + 1, by omega, rfl, HF.out.1, HF.out.2⟩, by simp [intOf]; omega⟩
      | true =>
        rw [hf] at x1 hnx
        rw [if_pos rfl] at hnx
        have HNX := hidd hnx
        clear hnx
        generalize someL f4 k = L at *
        have hown2 := hown.alloc (.cells #[.int .i64 (k : Int)] 3)
        have hnews := int_news wr (k : Int)
        have hH : (wr.alloc (.cells #[.int .i64 (k : Int)] 3)).heap.size = wr.heap.size + 1 := World.size_alloc ..
        have hds := hb.size
        have hbase : w4.heap.size ≤ (wr.alloc (.cells #[.int .i64 (k : Int)] 3)).heap.size := by rw [hH]; omega
        have HDA := hidd (hb.alloc hb.size (.cells #[.int .i64 (k : Int)] 3))
        clear hown hb
        go_wp2_with (at_builtin; refine wpList_append_lies _ rfl _ _ _ rfl w4.heap.size 3 j0 (.int .i64 0) 1 8 Try.underlying36 hj0i hy0 hy1 hy2 rfl (by omega) _ L.length (i64s L) rfl hown2 ⟨wr.heap.size, 0, none⟩ 1 1 [.int .i64 (k : Int)] rfl rfl hnews (by simp [Value.oneCell']) (by omega) (by simp only [maxLen]; omega) (by omega) hbase (wr.heap.size + 1) hH ?_; intro g5 cap5 w5' hown5 hgrow hat hlt5; refine Hid.out ?_)
        have HF : Hid (w5'.ownsRow w4.heap.size 3 1 (.slice (some ⟨g5, 0, none⟩) (L.length + 1) cap5) (someL f4 (k + 1)).length (i64s (someL f4 (k + 1))) ∧ Below w4.heap.size w4 w5') := by
          refine ⟨?_, bel_row HDA.out hbase hgrow (fun q hq => (hown2.lt q hq).1)⟩
          rw [HNX.out, ← i64s_snoc, List.length_append, List.length_singleton]
          exact hown5
        clear hown2 hnews hH hbase hown5 hgrow hat hlt5 HDA
        refine Lib.hid ?_
        go_wp2
        exact ⟨⟨k + 1, by omega, rfl, HF.out.1, HF.out.2⟩, by simp [intOf]; omega⟩
    · have hkn : k = n := by omega
      rw [hkn] at hown
      rw [hkn]
      have HF : Hid (LstR w E (.returned (.slice A3 (someL f4 n).length c3)) wr) := by
        rw [HEQ.out]
        exact ⟨HB4.out.trans (hb.mono HB4.out.size), A3, c3, rfl, own_less hown HB4.out.size⟩
      clear hown hb hkn
      go_wp2
      go_ret
      exact HF.out
end Go.Proofs.Ytdaaigkmlbpbgaa.Sy.Lg.Rn

namespace Go.Proofs.Ytdaaigkmlbpbgaa.Sy.Pl
open Go.RowKit Go.Proofs.Ytdaaigkmlbpbgaa.Sy.Ap Go.Proofs.Ytdaaigkmlbpbgaa.Sy.Lg Go.Proofs.Ytdaaigkmlbpbgaa.Sy.Lg.En Go.Proofs.Ytdaaigkmlbpbgaa.Sy.Lg.Rn
set_option maxRecDepth 100000
set_option linter.unusedVariables false

open Classical in
theorem endL_same {ns o : List Nd} {t : List Nat} (h : ∀ i j, Mt o t (o.length - 1) i j ↔ Mt ns t (ns.length - 1) i j) (i : Nat) : endL o t i = endL ns t i := by
  unfold endL
  apply List.filter_congr
  intro j _
  rw [Bool.eq_iff_iff, decide_eq_true_iff, decide_eq_true_iff]
  exact h i j
set_option maxHeartbeats 1000000 in
theorem lawMeans_any (A : Option Addr) (c : Nat) (gs : List Gd) (x : Int) (s : ByteArray) (w : World) (hN : Nds w w.heap.size A gs) (hc : gs.length ≤ c) (hm : gs.length ≤ maxLen) (hsm : Small gs) (hx : 0 ≤ x) (hs : s.size ≤ maxLen) :
    Calls Try.prog 5 #[.slice A gs.length c, .int .u8 x, .string s] w fun e w' => e = .returned (.bool true) ∧ Below w.heap.size w w' := by
  have hsh := shown8_any w
  unfold maxLen at hm hs
  have HSH := hidd hsh
  by_cases h30 : 30 < gs.length
  · have h30i : (30 : Int) < (gs.length : Int) := by omega
    clear hN hc hsm HSH
    generalize gs.length = n at *
    go_enter Try.func5, Try.ntmps5
    go_wp2_with fail
    refine hsh.mono ?_
    rintro e w1 ⟨rfl, b1⟩
    clear hsh
    go_wp2
    go_ret
    exact ⟨rfl, b1⟩
  · have h30i : ¬ (30 : Int) < (gs.length : Int) := by omega
    have hl : gs.length ≤ 2000 := by omega
    have HPL : Hid (∀ u, Below w.heap.size w u → Calls Try.prog 19 #[.slice A gs.length c] u fun e w' => PlnR gs u e w') := fun u hb => plain_any A c gs u ((hN.below hb).more hb.size) hl hsm
    have HLI : Hid (∀ u ns, Below w.heap.size w u → GN gs ns → TreeN ns → Calls Try.prog 20 #[.slice A gs.length c] u fun e w' => BoolR u e w') := fun u ns hb h1 h2 => light8_any A c gs u ((hN.below hb).more hb.size) hl hsm ns h1 h2
    have HT : Hid (∀ u ns m, Below w.heap.size w u → GN gs ns → TreeN ns → PlainN ns → 1 ≤ m → m ≤ 4096 → Calls Try.prog 10 #[.slice A gs.length c, .int .i64 ((m : Nat) : Int)] u fun e w' => TrR (planN ns m) u e w') := fun u ns m hb h1 h2 h3 h4 h5 => tree_ok A c gs ns m h4 h5 u ((hN.below hb).more hb.size) h1 h2 h3
    have HE2 : Hid (∀ u ns (t : ByteArray), Below w.heap.size w u → GN gs ns → TreeN ns → PlainN ns → t.size ≤ 63 → REndsL #[.slice A gs.length c, .string t, .int .i64 0] (endL ns (bs t) 0) u) := fun u ns t hb h1 h2 h3 h4 => rtop_ok A c gs ns t 0 u ((hN.below hb).more hb.size) h1 h2 h3 h4 (Nat.zero_le _)
    have HTO : Hid (PlainG gs → ∃ ns, GN gs ns ∧ TreeN ns ∧ PlainN ns) := fun h => by
      obtain ⟨ns0, hg0, -⟩ := h.2
      exact tree_of hg0 h
    obtain ⟨k, hk, hk4⟩ := mod_most hx 50 (by omega)
    obtain ⟨m, hm1⟩ : ∃ m : Nat, (k : Int) + 1 = (m : Int) := ⟨k + 1, by omega⟩
    clear hN hc hsm HSH
    generalize gs.length = n at *
    go_enter Try.func5, Try.ntmps5
    go_wp2_with fail
    refine hsh.mono ?_
    rintro e w1 ⟨rfl, b1⟩
    have HB1 := hidd b1
    clear hsh b1
    go_wp2_with fail
    refine (HPL.out w1 HB1.out).mono ?_
    rintro e w2 ⟨z, rfl, hz, b2⟩
    have HB2 := hidd (HB1.out.trans (b2.mono HB1.out.size))
    have HZ := hidd hz
    clear HPL b2 hz HB1
    cases z with
    | false =>
      go_wp2
      go_ret
      exact ⟨rfl, HB2.out⟩
    | true =>
      obtain ⟨ns, hg, ht, hp⟩ := HTO.out (HZ.out.1 rfl)
      have HG := hidd hg
      have HTN := hidd ht
      have HP := hidd hp
      clear hg ht hp HTO HZ
      go_wp2_with fail
      refine (HLI.out w2 ns HB2.out HG.out HTN.out).mono ?_
      rintro e w3 ⟨b3, z, rfl⟩
      have HB3 := hidd (HB2.out.trans (b3.mono HB2.out.size))
      clear HLI b3 HB2
      cases z with
      | false =>
        go_wp2
        go_ret
        exact ⟨rfl, HB3.out⟩
      | true =>
        have hc := HT.out w3 ns m HB3.out HG.out HTN.out HP.out (by omega) (by omega)
        clear HT
        go_wp2_with fail
        refine hc.mono ?_
        rintro e w4 ⟨b4, h4⟩
        have HB4 := hidd (HB3.out.trans (b4.mono HB3.out.size))
        clear hc b4 HB3
        cases hq : planN ns m with
        | none =>
          rw [hq] at h4
          obtain rfl := h4
          clear hq
          go_wp2
          go_ret
          exact ⟨rfl, HB4.out⟩
        | some o =>
          rw [hq] at h4
          obtain ⟨A2, c2, go, rfl, N2, G2, -⟩ := h4
          obtain ⟨t1, t2, hmt⟩ := plan_means HTN.out HP.out hq
          have hcs := cutS_size 50 s
          have hc63 : (cutS 50 s).size ≤ 63 := by omega
          have hel : endL o (bs (cutS 50 s)) 0 = endL ns (bs (cutS 50 s)) 0 := endL_same (fun i j => hmt _ i j) 0
          have hE1 := rtop_ok A2 c2 go o (cutS 50 s) 0 w4 N2 G2 t1 t2 hc63 (Nat.zero_le _)
          rw [hel] at hE1
          have HE1 : Hid (Calls Try.prog 21 #[.slice A2 go.length c2, .string (cutS 50 s), .int .i64 0] w4 fun e w' => LstR w4 (endL ns (bs (cutS 50 s)) 0) e w') := hE1
          have HE3 : Hid (∀ u, Below w4.heap.size w4 u → Calls Try.prog 21 #[.slice A n c, .string (cutS 50 s), .int .i64 0] u fun e w' => LstR u (endL ns (bs (cutS 50 s)) 0) e w') := fun u hb => HE2.out u ns (cutS 50 s) (HB4.out.trans (hb.mono HB4.out.size)) HG.out HTN.out HP.out hc63
          have hfew := endL_few ns (cutS 50 s) 0 hc63
          have HCS : Hid (cutS 50 s = if 50 < s.size then s.extract 0 50 else s) := rfl
          clear hE1 hel hmt t1 t2 N2 G2 hq HE2 hcs hc63
          generalize endL ns (bs (cutS 50 s)) 0 = L at *
          generalize go.length = n2 at *
          generalize hct : cutS 50 s = ct at *
          clear hct
          by_cases h50 : 50 < s.size
          · have hmin : min (s.size : Int) 50 = 50 := by omega
            have HC2 : Hid (ct = s.extract 0 50) := by have h := HCS.out; rw [if_pos h50] at h; exact h
            clear HCS
            rw [HC2.out] at HE1 HE3
            clear HC2
            go_wp2_with fail
            refine HE1.out.mono ?_
            rintro e w5 ⟨b5, A5, c5, rfl, o5⟩
            have N5 := nts_own o5
            have hc3 := HE3.out w5 b5
            have HB5 := hidd (HB4.out.trans (b5.mono HB4.out.size))
            clear HE1 HE3 b5 HB4 o5
            go_wp2_with fail
            refine hc3.mono ?_
            rintro e w6 ⟨b6, A6, c6, rfl, o6⟩
            have N6 := nts_own o6
            have HB6 := hidd (HB5.out.trans (b6.mono HB5.out.size))
            have HN5 := hidd ((N5.below b6).more b6.size)
            have HN6 := hidd N6
            clear hc3 b6 HB5 o6 N5 N6
            generalize hL : L.length = ln at *
            have HL := hidd hL
            clear hL
            go_wp2
            go_loopw [63] (fun s63 wr => ∃ i : Nat, i ≤ ln ∧ s63 = .int .i64 (i : Int) ∧ Below w6.heap.size w6 wr) (fun s63 _ => ln - (intOf s63).toNat)
            case atStart => exact ⟨0, Nat.zero_le _, rfl, Below.refl _ _⟩
            case round =>
              obtain ⟨i, hi0, rfl, hb⟩ := hrel
              have HB := hidd hb
              by_cases hlt : i < ln
              · have hiL : i < L.length := by rw [HL.out]; exact hlt
                obtain ⟨g5, f5, rfl, hg5, q5⟩ := HN5.out (fun q => by rw [q] at hiL; cases hiL)
                obtain ⟨g6, f6, rfl, hg6, q6⟩ := HN6.out (fun q => by rw [q] at hiL; cases hiL)
                have e5 := (hb.cell (p := ⟨g5, f5 + i, none⟩) hg5).trans (q5 i hiL)
                have e6 := (hb.cell (p := ⟨g6, f6 + i, none⟩) hg6).trans (q6 i hiL)
                have hii : (i : Int) < (ln : Int) := by omega
                clear q5 q6 hiL hb hg5 hg6
                generalize L.getD i 0 = v at *
                go_wp2_with fail
                go_quiet (fail)
                have HB2 := hidd (bel_drewN HB.out nq)
                clear HB e5 e6
                generalize wr.drewN nq = wr2 at *
                go_wp2
                exact ⟨⟨i + 1, by omega, rfl, HB2.out⟩, by simp [intOf]; omega⟩
              · have hie : i = ln := by omega
                subst hie
                clear hb
                go_wp2
                go_ret
                exact ⟨rfl, HB6.out.trans (HB.out.mono HB6.out.size)⟩
          · have hmin : min (s.size : Int) 50 = (s.size : Int) := by omega
            have HC2 : Hid (ct = s) := by have h := HCS.out; rw [if_neg h50] at h; exact h
            clear HCS
            rw [HC2.out] at HE1 HE3
            clear HC2
            go_wp2_with fail
            refine HE1.out.mono ?_
            rintro e w5 ⟨b5, A5, c5, rfl, o5⟩
            have N5 := nts_own o5
            have hc3 := HE3.out w5 b5
            have HB5 := hidd (HB4.out.trans (b5.mono HB4.out.size))
            clear HE1 HE3 b5 HB4 o5
            go_wp2_with fail
            refine hc3.mono ?_
            rintro e w6 ⟨b6, A6, c6, rfl, o6⟩
            have N6 := nts_own o6
            have HB6 := hidd (HB5.out.trans (b6.mono HB5.out.size))
            have HN5 := hidd ((N5.below b6).more b6.size)
            have HN6 := hidd N6
            clear hc3 b6 HB5 o6 N5 N6
            generalize hL : L.length = ln at *
            have HL := hidd hL
            clear hL
            go_wp2
            go_loopw [63] (fun s63 wr => ∃ i : Nat, i ≤ ln ∧ s63 = .int .i64 (i : Int) ∧ Below w6.heap.size w6 wr) (fun s63 _ => ln - (intOf s63).toNat)
            case atStart => exact ⟨0, Nat.zero_le _, rfl, Below.refl _ _⟩
            case round =>
              obtain ⟨i, hi0, rfl, hb⟩ := hrel
              have HB := hidd hb
              by_cases hlt : i < ln
              · have hiL : i < L.length := by rw [HL.out]; exact hlt
                obtain ⟨g5, f5, rfl, hg5, q5⟩ := HN5.out (fun q => by rw [q] at hiL; cases hiL)
                obtain ⟨g6, f6, rfl, hg6, q6⟩ := HN6.out (fun q => by rw [q] at hiL; cases hiL)
                have e5 := (hb.cell (p := ⟨g5, f5 + i, none⟩) hg5).trans (q5 i hiL)
                have e6 := (hb.cell (p := ⟨g6, f6 + i, none⟩) hg6).trans (q6 i hiL)
                have hii : (i : Int) < (ln : Int) := by omega
                clear q5 q6 hiL hb hg5 hg6
                generalize L.getD i 0 = v at *
                go_wp2_with fail
                go_quiet (fail)
                have HB2 := hidd (bel_drewN HB.out nq)
                clear HB e5 e6
                generalize wr.drewN nq = wr2 at *
                go_wp2
                exact ⟨⟨i + 1, by omega, rfl, HB2.out⟩, by simp [intOf]; omega⟩
              · have hie : i = ln := by omega
                subst hie
                clear hb
                go_wp2
                go_ret
                exact ⟨rfl, HB6.out.trans (HB.out.mono HB6.out.size)⟩
end Go.Proofs.Ytdaaigkmlbpbgaa.Sy.Pl

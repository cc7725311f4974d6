/- A repetition of a tree: the tree, where it ends; as often as a text is long is enough. -/
import Derived.Test.YtcgondjekpcpgaaDoorPGl
import Derived.Test.YtcgondjekpcpgaaDoorPGz
import Derived.Test.YtcgondjekpcpgaaDoorCards
import Derived.Test.YtcgondjekpcpgaaDoorTie
import Derived.Test.YtcgondjekpcpgaaDoorPAn
import Derived.Test.YtcgondjekpcpgaaDoorPCb
import Derived.Deep.DeepHandedRow
import Derived.Deep.DeepWitnessRowRef
import Derived.LaidLaws
import Derived.Lib.LaidTab
namespace Go.Proofs.YtcgondjekpcpgaaDoor.Sy.Lg.En
open Go.RowKit Go.Proofs.YtcgondjekpcpgaaDoor.Sy.Ap Go.Proofs.YtcgondjekpcpgaaDoor.Sy.Ap.Wk
set_option maxRecDepth 100000
set_option linter.unusedVariables false

theorem img_one (R : Rel) (f j : Nat) : img R (fun i => i = f) j ↔ R f j := by
  constructor
  · rintro ⟨i, rfl, h⟩; exact h
  · intro h; exact ⟨f, rfl, h⟩
theorem img_in {R : Rel} {N : Nat} {X : Nat → Prop} (hX : ∀ j, X j → j ≤ N) (hR : ∀ i j, R i j → i ≤ N → j ≤ N) (t j : Nat) (h : img (upR R t) X j) : j ≤ N := by
  obtain ⟨i, hi, s, _, q⟩ := h
  exact powR_le hR s i j q (hX i hi)
open Classical in
/-- Some time up to N nothing new is found. -/
theorem up_stop {R : Rel} {N : Nat} {X : Nat → Prop} (hX : ∀ j, X j → j ≤ N) (hR : ∀ i j, R i j → i ≤ N → j ≤ N) : ∀ (s : Nat), (∃ s', s' < s ∧ ∀ j, img R (img (upR R s') X) j → img (upR R s') X j) ∨ s ≤ cnt (fun j => decide (img (upR R s) X j)) N
  | 0 => .inr (Nat.zero_le _)
  | s + 1 => by
    rcases up_stop hX hR s with ⟨s', h1, h2⟩ | h
    · exact .inl ⟨s', by omega, h2⟩
    · by_cases hst : ∀ j, img R (img (upR R s) X) j → img (upR R s) X j
      · exact .inl ⟨s, by omega, hst⟩
      · right
        obtain ⟨x, hx⟩ := Classical.not_forall.1 hst
        rw [Classical.not_imp] at hx
        have hx2 : img (upR R (s + 1)) X x := (img_up R X s x).2 (.inr hx.1)
        have := cnt_more (p := fun j => decide (img (upR R s) X j)) (q := fun j => decide (img (upR R (s + 1)) X j)) (N := N) (fun i h => by
          rw [decide_eq_true_iff] at h ⊢
          exact img_up_more h) (img_in hX hR _ x hx2) (by simpa using hx.2) (by simpa using hx2)
        omega
open Classical in
theorem up_all {R : Rel} {N : Nat} {X : Nat → Prop} (hX : ∀ j, X j → j ≤ N) (hR : ∀ i j, R i j → i ≤ N → j ≤ N) (t j : Nat) (h : img (upR R t) X j) : img (upR R (N + 1)) X j := by
  have hsame : ∃ s', s' ≤ N + 1 ∧ ∀ j, img R (img (upR R s') X) j → img (upR R s') X j := by
    rcases up_stop hX hR (N + 1) with ⟨s', h1, h2⟩ | hc
    · exact ⟨s', by omega, h2⟩
    · refine ⟨N + 1, Nat.le_refl _, fun j q => ?_⟩
      have hf := cnt_full hc j (img_in hX hR (N + 2) j ((img_up R X (N + 1) j).2 (.inr q)))
      rw [decide_eq_true_iff] at hf
      exact hf
  obtain ⟨s', h1, h2⟩ := hsame
  have key := img_up_same h2
  rcases Nat.le_total t s' with q | q
  · have : img (upR R s') X j := by
      obtain ⟨i, hi, s, hs, r⟩ := h
      exact ⟨i, hi, s, by omega, r⟩
    have := (key (N + 1 - s') j).2 this
    rw [show s' + (N + 1 - s') = N + 1 from by omega] at this
    exact this
  · rw [show t = s' + (t - s') from by omega, key] at h
    have := (key (N + 1 - s') j).2 h
    rw [show s' + (N + 1 - s') = N + 1 from by omega] at this
    exact this
/-! ### The tree -/
section
variable {gx : List Gd} {ns : List Nd}
end
end Go.Proofs.YtcgondjekpcpgaaDoor.Sy.Lg.En

namespace Go.Proofs.YtcgondjekpcpgaaDoor.Sy.Lg.Rn
open Go.RowKit Go.Proofs.YtcgondjekpcpgaaDoor.Sy.Ap Go.Proofs.YtcgondjekpcpgaaDoor.Sy.Ap.Wk Go.Proofs.YtcgondjekpcpgaaDoor.Sy.Lg.En
set_option maxRecDepth 100000
set_option linter.unusedVariables false

def REndsL (args : Array Value) (l : List Nat) (w : World) : Prop := Calls Tryd.prog 18 args w fun e w' => LstR w l e w'
set_option maxHeartbeats 1000000 in
theorem rtop_bad (A : Option Addr) (c : Nat) (gs : List Gd) (s : ByteArray) (x : Int) (w : World) (hN : Nds w w.heap.size A gs) (hl : gs.length ≤ 2000) (hsm : Small gs) (hs : s.size ≤ 1000) (hno : PlainG gs → x < 0 ∨ (s.size : Int) < x) :
    REndsL #[.slice A gs.length c, .string s, .int .i64 x] [] w := by
  have hP := plain_any A c gs w hN hl hsm
  have HNO := hidd hno
  clear hN hsm hno
  unfold REndsL
  generalize gs.length = n at *
  go_enter Tryd.func18, Tryd.ntmps18
  go_wp2_with fail
  refine hP.mono ?_
  rintro e w1 ⟨z, rfl, hz, b1⟩
  have HF : Hid (LstR w [] (.returned (.slice none 0 0)) w1) := ⟨b1, none, 0, rfl, World.ownsRow_nil _ _ _ _⟩
  have HZ := hidd hz
  clear hP b1 hz
  cases z with
  | false =>
    go_wp2
    go_ret
    exact HF.out
  | true =>
    rcases HNO.out (HZ.out.1 (by trivial)) with q | q
    · have q2 : decide (x < 0) = true := by simp [q]
      go_wp2
      go_ret
      exact HF.out
    · have q1 : ¬ x < 0 := by omega
      have q2 : decide (x < 0) = false := by simp; omega
      have q3 : decide ((s.size : Int) < x) = true := by simp [q]
      go_wp2
      go_ret
      exact HF.out
set_option maxHeartbeats 2000000 in
theorem rtop_ok (A : Option Addr) (c : Nat) (gs : List Gd) (ns : List Nd) (s : ByteArray) (i : Nat) (w : World) (hN : Nds w w.heap.size A gs) (hg : GN gs ns) (ht : TreeN ns) (hp : PlainN ns) (hs : s.size ≤ 63) (hi : i ≤ s.size) :
    REndsL #[.slice A gs.length c, .string s, .int .i64 (i : Int)] (endL ns (bs s) i) w := by
  obtain ⟨j0, hj0i, hy0, hy1, hy2⟩ := info_parts int_info
  have hpg : PlainG gs := (plain_tree hg ht).2 hp
  have hpos : 0 < gs.length := by have := ht.pos; have := hg.1; omega
  have hfew : gs.length ≤ 1024 := by have := ht.few; have := hg.1; omega
  have hP := plain_any A c gs w hN (by omega) (gn_sm hg ht)
  obtain ⟨b1, o1, hA, hb1, _⟩ := hN (fun q => by rw [q] at hpos; simp at hpos)
  subst hA
  obtain ⟨n, hn⟩ : ∃ n, s.size + 1 = n := ⟨_, rfl⟩
  have hl : n ≤ 1000 := by omega
  have HE : Hid (KidC w n (some ⟨b1, o1, none⟩) gs.length c s (ns.length - 1) (Mt ns (bs s) (ns.length - 1))) := rends_any w b1 o1 hb1 c gs ns s n hN hg ht hp hn hl (ns.length - 1) (by have := ht.pos; omega)
  have hroot : ((gs.length : Int) - 1) = ((ns.length - 1 : Nat) : Int) := by have := hg.1; have := ht.pos; omega
  have HEND : Hid (∀ j, j ∈ endL ns (bs s) i ↔ j < n ∧ Mt ns (bs s) (ns.length - 1) i j) := fun j => by
    rw [mem_endL ht.low (by rw [bs_len]; exact hi)]
    constructor
    · intro h
      have := (Mt_in ht.low (bs s) _ _ _ h).2 (by rw [bs_len]; exact hi)
      rw [bs_len] at this
      exact ⟨by omega, h⟩
    · exact fun q => q.2
  have HRISE := hidd (endL_rise ns (bs s) i)
  have HPG := hidd hpg
  have HN1 := hidd hn
  clear hN hg ht hp hpg
  generalize endL ns (bs s) i = E at *
  generalize Mt ns (bs s) (ns.length - 1) = R at *
  generalize ns.length - 1 = rt at *
  obtain ⟨ll, hll⟩ : ∃ ll, gs.length = ll := ⟨_, rfl⟩
  rw [hll] at hroot hP HE hpos hfew
  rw [hll]
  clear hll
  have hin : i < n := by omega
  have hini : (i : Int) < (n : Int) := by omega
  have h0 : ¬ (i : Int) < 0 := by omega
  have h1 : ¬ (s.size : Int) < (i : Int) := by omega
  have h2 : decide ((i : Int) < 0) = false := by simp
  clear hn
  unfold REndsL
  go_enter Tryd.func18, Tryd.ntmps18
  go_wp2_with fail
  refine hP.mono ?_
  rintro e w1 ⟨z, rfl, hz, hb1⟩
  have hzt : z = true := hz.2 HPG.out
  subst hzt
  have HB1 := hidd hb1
  have hpl := places_any s n HN1.out hl w1
  clear hP hz hb1
  go_wp2_with fail
  refine hpl.mono ?_
  rintro e w2 ⟨b2, q, hq, rfl, r2⟩
  have HB2 := hidd (HB1.out.trans (b2.mono HB1.out.size))
  have tg := RowF.thawed r2 i
  have cg := RowF.at_ r2 i hin
  have hqw : w.heap.size ≤ q := Nat.le_trans HB1.out.size hq
  have r3 := r2.put i (.bool true)
  have e : (fun j => if j = i then Value.bool true else .bool false) = fun j => .bool (decide (j = i)) := by
    funext j
    by_cases q : j = i
    · simp [q]
    · simp [q]
  rw [e] at r3
  have HR3 : Hid (RowF (w2.setCell ⟨q, i, none⟩ (.bool true)) q 4 n (fun j => .bool (decide (j = i))) ∧ Below w.heap.size w (w2.setCell ⟨q, i, none⟩ (.bool true))) := ⟨r3, bel_set HB2.out _ _ hqw⟩
  clear hpl b2 r2 r3 e
  go_upto_region 5 with fail
  generalize w2.setCell ⟨q, i, none⟩ (.bool true) = w3 at *
  have hcall := HE.out w3 (some ⟨q, 0, none⟩) n (fun j => decide (j = i)) (fun j => j = i) HR3.out.2 (Bls.of_row HR3.out.1) (fun j hj => by simp) (fun j q => by rw [q]; exact hin)
  clear tg cg
  go_wp2_with fail
  refine hcall.mono ?_
  rintro e w4 ⟨b4, A4, c4, f4, rfl, hb4, hf4⟩
  have HEQ : Hid (E = someL f4 n) := rise_filter HRISE.out fun x => by
    rw [HEND.out]
    constructor
    · rintro ⟨q1, q2⟩
      exact ⟨q1, (hf4 x q1).2 ((img_one R i x).2 q2)⟩
    · rintro ⟨q1, q2⟩
      exact ⟨q1, (img_one R i x).1 ((hf4 x q1).1 q2)⟩
  have HB4 := hidd (HR3.out.2.trans (b4.mono HR3.out.2.size))
  obtain ⟨g4, o4, rfl, hg4, hc4⟩ := hb4
  have HC4 := hidd hc4
  have HO0 : Hid (w4.ownsRow w.heap.size 3 1 (.slice none 0 0) (someL f4 0).length (i64s (someL f4 0))) := World.ownsRow_nil _ _ _ _
  clear hcall b4 hf4 hc4
  go_wp2
  go_loopw [9, 10] (fun s9 s10 wr => ∃ k : Nat, k ≤ n ∧ s10 = .int .i64 (k : Int) ∧ wr.ownsRow w4.heap.size 3 1 s9 (someL f4 k).length (i64s (someL f4 k)) ∧ Below w4.heap.size w4 wr) (fun _ s10 _ => n - (intOf s10).toNat)
  case atStart => exact ⟨0, Nat.zero_le _, rfl, World.ownsRow_nil _ _ _ _, Below.refl _ _⟩
  case round =>
    clear HO0
    obtain ⟨k, hk0, rfl, hown, hb⟩ := hrel
    obtain ⟨A3, c3, rfl⟩ := own_form hown
    by_cases hlt : k < n
    · have x1 : wr.cell? ⟨g4, o4 + k, none⟩ = some (.bool (f4 k)) := by rw [hb.cell hg4]; exact HC4.out k hlt
      have hki : (k : Int) < (n : Int) := by omega
      have hnx := someL_next f4 k
      have hll := someL_len f4 k
      cases hf : f4 k with
      | false =>
        rw [hf] at x1 hnx
        rw [if_neg (by decide)] at hnx
        have HF : Hid (wr.ownsRow w4.heap.size 3 1 (.slice A3 (someL f4 k).length c3) (someL f4 (k + 1)).length (i64s (someL f4 (k + 1))) ∧ Below w4.heap.size w4 wr) := ⟨by rw [hnx]; exact hown, hb⟩
        clear hown hb hnx
        generalize someL f4 k = L at *
        go_wp2
        exact ⟨⟨k + 1, by omega, rfl, HF.out.1, HF.out.2⟩, by simp [intOf]; omega⟩
      | true =>
        rw [hf] at x1 hnx
        rw [if_pos rfl] at hnx
        have HNX := hidd hnx
        clear hnx
        generalize someL f4 k = L at *
        have hown2 := hown.alloc (.cells #[.int .i64 (k : Int)] 3)
        have hnews := int_news wr (k : Int)
        have hH : (wr.alloc (.cells #[.int .i64 (k : Int)] 3)).heap.size = wr.heap.size + 1 := World.size_alloc ..
        have hds := hb.size
        have hbase : w4.heap.size ≤ (wr.alloc (.cells #[.int .i64 (k : Int)] 3)).heap.size := by rw [hH]; omega
        have HDA := hidd (hb.alloc hb.size (.cells #[.int .i64 (k : Int)] 3))
        clear hown hb
        go_wp2_with (at_builtin; refine wpList_append_lies _ rfl _ _ _ rfl w4.heap.size 3 j0 (.int .i64 0) 1 8 Tryd.underlying30 hj0i hy0 hy1 hy2 rfl (by omega) _ L.length (i64s L) rfl hown2 ⟨wr.heap.size, 0, none⟩ 1 1 [.int .i64 (k : Int)] rfl rfl hnews (by simp [Value.oneCell']) (by omega) (by simp only [maxLen]; omega) (by omega) hbase (wr.heap.size + 1) hH ?_; intro g5 cap5 w5' hown5 hgrow hat hlt5; refine Hid.out ?_)
        have HF : Hid (w5'.ownsRow w4.heap.size 3 1 (.slice (some ⟨g5, 0, none⟩) (L.length + 1) cap5) (someL f4 (k + 1)).length (i64s (someL f4 (k + 1))) ∧ Below w4.heap.size w4 w5') := by
          refine ⟨?_, bel_row HDA.out hbase hgrow (fun q hq => (hown2.lt q hq).1)⟩
          rw [HNX.out, ← i64s_snoc, List.length_append, List.length_singleton]
          exact hown5
        clear hown2 hnews hH hbase hown5 hgrow hat hlt5 HDA
        refine Lib.hid ?_
        go_wp2
        exact ⟨⟨k + 1, by omega, rfl, HF.out.1, HF.out.2⟩, by simp [intOf]; omega⟩
    · have hkn : k = n := by omega
      rw [hkn] at hown
      rw [hkn]
      have HF : Hid (LstR w E (.returned (.slice A3 (someL f4 n).length c3)) wr) := by
        rw [HEQ.out]
        exact ⟨HB4.out.trans (hb.mono HB4.out.size), A3, c3, rfl, own_less hown HB4.out.size⟩
      clear hown hb hkn
      go_wp2
      go_ret
      exact HF.out
set_option maxHeartbeats 1000000 in
theorem ris_any (A : Option Addr) (n c : Nat) (s : ByteArray) (hs : s.size ≤ 1000) (l : List Nat) (hl : l.length ≤ 100) (w : World) (hE : REndsL #[.slice A n c, .string s, .int .i64 0] l w) :
    Calls Tryd.prog 20 #[.slice A n c, .string s] w fun e w' => Below w.heap.size w w' ∧ e = .returned (.bool (isL l s.size)) := by
  have HE := hidd hE
  clear hE
  go_enter Tryd.func20, Tryd.ntmps20
  go_wp2_with fail
  refine HE.out.mono ?_
  rintro e w1 ⟨b1, A1, c1, rfl, own1⟩
  have HB := hidd b1
  by_cases h0 : l.length = 0
  · have e0 : l = [] := List.eq_nil_of_length_eq_zero h0
    subst e0
    clear own1 b1
    go_wp2
    go_ret
    exact ⟨HB.out, rfl⟩
  · have hk : l.length - 1 < l.length := by omega
    obtain ⟨g, off, rfl, hg, hcell⟩ := own_at own1 hk
    have HL : Hid (isL l s.size = (l.getD (l.length - 1) 0 == s.size)) := by
      show _ = _
      unfold isL
      rw [List.getLast?_eq_getElem?, List.getElem?_eq_getElem hk, List.getD_eq_getElem?_getD, List.getElem?_eq_getElem hk]
      rfl
    clear own1 b1
    generalize l.getD (l.length - 1) 0 = x at *
    generalize hn : l.length = m at *
    have e1 : ((m : Int) - 1) = ((m - 1 : Nat) : Int) := by omega
    have e2 : (0 : Int) < (m : Int) := by omega
    have e4 : ((m - 1 : Nat) : Int) < (m : Int) := by omega
    have hxs : ((x : Int) == (s.size : Int)) = (x == s.size) := by
      rw [Bool.eq_iff_iff]
      simp
      omega
    have hxd : decide ((x : Int) = (s.size : Int)) = (x == s.size) := by
      rw [Bool.eq_iff_iff]
      simp
      omega
    have HL2 := HL.out
    generalize (x == s.size) = zz at *
    clear hn
    go_wp2
    go_ret
    exact ⟨HB.out, by rw [HL.out]; rfl⟩
set_option maxHeartbeats 1000000 in
theorem rlong_any (A : Option Addr) (n c : Nat) (s : ByteArray) (i : Int) (l : List Nat) (hl : l.length ≤ 100) (w : World) (hE : REndsL #[.slice A n c, .string s, .int .i64 i] l w) :
    Calls Tryd.prog 15 #[.slice A n c, .string s, .int .i64 i] w fun e w' => Below w.heap.size w w' ∧ e = .returned (.tuple #[.int .i64 (longZ l i), .bool (longB l i)]) := by
  have HE := hidd hE
  clear hE
  go_enter Tryd.func15, Tryd.ntmps15
  go_wp2_with fail
  refine HE.out.mono ?_
  rintro e w1 ⟨b1, A1, c1, rfl, own1⟩
  have HB := hidd b1
  by_cases h0 : l.length = 0
  · have e0 : l = [] := List.eq_nil_of_length_eq_zero h0
    subst e0
    clear own1 b1
    go_wp2
    go_ret2
    exact ⟨HB.out, rfl⟩
  · have hk : l.length - 1 < l.length := by omega
    obtain ⟨g, off, rfl, hg, hcell⟩ := own_at own1 hk
    have hla : l.getLast? = some (l.getD (l.length - 1) 0) := by
      rw [List.getLast?_eq_getElem?, List.getElem?_eq_getElem hk, List.getD_eq_getElem?_getD, List.getElem?_eq_getElem hk]
      rfl
    generalize l.getD (l.length - 1) 0 = x at *
    have HL : Hid (longZ l i = (if (x : Int) ≤ i then 0 else (x : Int)) ∧ longB l i = !decide ((x : Int) ≤ i)) := ⟨by unfold longZ; rw [hla], by unfold longB; rw [hla]⟩
    clear own1 b1 hla
    generalize hn : l.length = m at *
    have e1 : ((m : Int) - 1) = ((m - 1 : Nat) : Int) := by omega
    have e2 : ¬ (m : Int) = 0 := by omega
    have e3 : ((m : Int) == 0) = false := by simp; omega
    have e4 : ((m - 1 : Nat) : Int) < (m : Int) := by omega
    clear hn
    by_cases hxi : (x : Int) ≤ i
    · have HF : Hid (longZ l i = 0 ∧ longB l i = false) := ⟨by rw [HL.out.1, if_pos hxi], by rw [HL.out.2]; simp [hxi]⟩
      go_wp2
      go_ret2
      exact ⟨HB.out, by rw [HF.out.1, HF.out.2]; rfl⟩
    · have HF : Hid (longZ l i = (x : Int) ∧ longB l i = true) := ⟨by rw [HL.out.1, if_neg hxi], by rw [HL.out.2]; simp [hxi]⟩
      go_wp2
      go_ret2
      exact ⟨HB.out, by rw [HF.out.1, HF.out.2]; rfl⟩
end Go.Proofs.YtcgondjekpcpgaaDoor.Sy.Lg.Rn

namespace Go.Proofs.YtcgondjekpcpgaaDoor.Sy.Lg.Rn
open Go.RowKit Go.Proofs.YtcgondjekpcpgaaDoor.Sy.Ap Go.Proofs.YtcgondjekpcpgaaDoor.Sy.Ap.Wk Go.Proofs.YtcgondjekpcpgaaDoor.Sy.Lg.En
set_option maxRecDepth 100000
set_option linter.unusedVariables false

theorem few7_any (A : Option Addr) (c n : Nat) (w : World) (hc : n ≤ c) (hm : n ≤ maxLen) :
    Calls Tryd.prog 11 #[.slice A n c] w fun e w' => e = .returned (.slice A (min n 60) c) ∧ w' = w := by
  unfold maxLen at hm
  by_cases h : n ≤ 60
  · have h1 : min n 60 = n := by omega
    have h2 : min (n : Int) 60 = (n : Int) := by omega
    have h3 : (n : Int) ≤ (c : Int) := by omega
    have h4 : (0 : Int) ≤ (n : Int) := by omega
    rw [h1]
    go_enter Tryd.func11, Tryd.ntmps11
    go_wp2
    go_ret
    exact ⟨by rfl, rfl⟩
  · have h1 : min n 60 = 60 := by omega
    have h2 : min (n : Int) 60 = 60 := by omega
    have h3 : (60 : Int) ≤ (c : Int) := by omega
    rw [h1]
    go_enter Tryd.func11, Tryd.ntmps11
    go_wp2
    go_ret
    exact ⟨by rfl, rfl⟩
set_option maxHeartbeats 4000000 in
theorem lawLangTells_any (A : Option Addr) (c : Nat) (gs : List Gd) (s : ByteArray) (x : Int) (w : World) (hN : Nds w w.heap.size A gs) (hc : gs.length ≤ c) (hm : gs.length ≤ maxLen) (hsm : Small gs) (hs : s.size ≤ maxLen) (hD : DB w) :
    Calls Tryd.prog 3 #[.slice A gs.length c, .string s, .int .i64 x] w fun e w' => e = .returned (.bool true) ∧ Below w.heap.size w w' := by
  have hsh := shown7_any w hD
  have HTX : Hid (∀ u, _) := fun u => text_any s u hs
  have HFEW : Hid (∀ u, _) := fun u => few7_any A c gs.length u hc hm
  have hyz := text_size s
  have hN6 := nds_take hN 60
  have hs6 := small_take hsm 60
  have hl6 : (gs.take 60).length = min gs.length 60 := by rw [List.length_take]; omega
  generalize gs.length = n0 at *
  generalize gs.take 60 = hs at *
  clear hN hsm hc hm gs
  obtain ⟨n, hn⟩ : ∃ n, hs.length = n := ⟨_, rfl⟩
  rw [← hl6, hn] at HFEW
  have hn60 : n ≤ 60 := by omega
  have HN := hidd hn
  generalize cutS 20 s = y at *
  have HLT : Hid (∀ u, Below w.heap.size w u → Calls Tryd.prog 13 #[.slice A n c] u fun e w' => BoolR u e w') := fun u hu => by
    have := light_any A c hs u ((hN6.below hu).more hu.size) (by omega) hs6
    rw [hn] at this
    exact this
  have HEX : ∃ E : List Nat, ∃ E0 : List Nat, E.length ≤ 100 ∧ E0.length ≤ 100 ∧ (∀ u, Below w.heap.size w u → EndsL #[.slice A n c, .string y, .int .i64 x] E u) ∧ (∀ u, Below w.heap.size w u → REndsL #[.slice A n c, .string y, .int .i64 x] E u) ∧
      (∀ u, Below w.heap.size w u → EndsL #[.slice A n c, .string y, .int .i64 0] E0 u) ∧ (∀ u, Below w.heap.size w u → REndsL #[.slice A n c, .string y, .int .i64 0] E0 u) := by
    by_cases hp : PlainG hs
    · obtain ⟨ns, hg, ht⟩ := gn_tree hp.2
      have hpn := (plain_tree hg ht).1 hp
      have h0 : (∀ u, Below w.heap.size w u → EndsL #[.slice A n c, .string y, .int .i64 0] (endL ns (bs y) 0) u) ∧ (∀ u, Below w.heap.size w u → REndsL #[.slice A n c, .string y, .int .i64 0] (endL ns (bs y) 0) u) := ⟨fun u hu => by
        have := ends_tree (c := c) (s := y) (i := 0) ((hN6.below hu).more hu.size) hg ht hpn (by omega) (Nat.zero_le _) (hD.below hu)
        rw [hn] at this
        exact this, fun u hu => by
        have := rtop_ok A c hs ns y 0 u ((hN6.below hu).more hu.size) hg ht hpn (by omega) (Nat.zero_le _)
        rw [hn] at this
        exact this⟩
      by_cases hx : x < 0 ∨ (y.size : Int) < x
      · refine ⟨[], endL ns (bs y) 0, by simp, endL_few ns y 0 (by omega), fun u hu => ?_, fun u hu => ?_, h0⟩
        · have := lends_bad A c hs y x u ((hN6.below hu).more hu.size) (by omega) hs6 (by omega) (fun _ => hx)
          rw [hn] at this
          exact this.mono fun _ _ h => h.lst
        · have := rtop_bad A c hs y x u ((hN6.below hu).more hu.size) (by omega) hs6 (by omega) (fun _ => hx)
          rw [hn] at this
          exact this
      · obtain ⟨i, rfl⟩ : ∃ i : Nat, x = (i : Int) := ⟨x.toNat, by omega⟩
        refine ⟨endL ns (bs y) i, endL ns (bs y) 0, endL_few ns y i (by omega), endL_few ns y 0 (by omega), fun u hu => ?_, fun u hu => ?_, h0⟩
        · have := ends_tree (c := c) (s := y) (i := i) ((hN6.below hu).more hu.size) hg ht hpn (by omega) (by omega) (hD.below hu)
          rw [hn] at this
          exact this
        · have := rtop_ok A c hs ns y i u ((hN6.below hu).more hu.size) hg ht hpn (by omega) (by omega)
          rw [hn] at this
          exact this
    · have h1 : ∀ z u, Below w.heap.size w u → EndsL #[.slice A n c, .string y, .int .i64 z] [] u := fun z u hu => by
        have := lends_bad A c hs y z u ((hN6.below hu).more hu.size) (by omega) hs6 (by omega) (fun q => absurd q hp)
        rw [hn] at this
        exact this.mono fun _ _ h => h.lst
      have h2 : ∀ z u, Below w.heap.size w u → REndsL #[.slice A n c, .string y, .int .i64 z] [] u := fun z u hu => by
        have := rtop_bad A c hs y z u ((hN6.below hu).more hu.size) (by omega) hs6 (by omega) (fun q => absurd q hp)
        rw [hn] at this
        exact this
      exact ⟨[], [], by simp, by simp, h1 x, h2 x, h1 0, h2 0⟩
  obtain ⟨E, E0, he, he0, q1, q2, q3, q4⟩ := HEX
  have HL1 : Hid (∀ u, Below w.heap.size w u → Calls Tryd.prog 14 #[.slice A n c, .string y, .int .i64 x] u fun e w' => Below u.heap.size u w' ∧ e = .returned (.tuple #[.int .i64 (longZ E x), .bool (longB E x)])) := fun u hu => longest_any A n c y x E he u (q1 u hu)
  have HL2 : Hid (∀ u, Below w.heap.size w u → Calls Tryd.prog 15 #[.slice A n c, .string y, .int .i64 x] u fun e w' => Below u.heap.size u w' ∧ e = .returned (.tuple #[.int .i64 (longZ E x), .bool (longB E x)])) := fun u hu => rlong_any A n c y x E he u (q2 u hu)
  have HI1 : Hid (∀ u, Below w.heap.size w u → Calls Tryd.prog 19 #[.slice A n c, .string y] u fun e w' => Below u.heap.size u w' ∧ e = .returned (.bool (isL E0 y.size))) := fun u hu => is_any A n c y (by omega) E0 he0 u (q3 u hu)
  have HI2 : Hid (∀ u, Below w.heap.size w u → Calls Tryd.prog 20 #[.slice A n c, .string y] u fun e w' => Below u.heap.size u w' ∧ e = .returned (.bool (isL E0 y.size))) := fun u hu => ris_any A n c y (by omega) E0 he0 u (q4 u hu)
  have HE1 := hidd q1
  have HE2 := hidd q2
  have HLE := hidd he
  clear q1 q2 q3 q4 he he0 hN6 hs6 hl6 hn hn60 hyz hD
  generalize longZ E x = lz at *
  generalize longB E x = lb at *
  generalize isL E0 y.size = is at *
  go_enter Tryd.func3, Tryd.ntmps3
  go_wp2_with fail
  refine hsh.mono ?_
  rintro e w1 ⟨rfl, b1⟩
  have HB1 := hidd b1
  clear hsh b1
  go_wp2_with fail
  refine (HFEW.out w1).mono ?_
  rintro e w2 ⟨rfl, rfl⟩
  go_wp2_with fail
  refine (HTX.out w2).mono ?_
  rintro e w3 ⟨rfl, rfl⟩
  have hlt := HLT.out w3 HB1.out
  go_wp2_with fail
  refine hlt.mono ?_
  rintro e w4 ⟨b4, z, rfl⟩
  have HB4 := hidd (HB1.out.trans (b4.mono HB1.out.size))
  clear hlt b4
  cases z with
  | false =>
    go_wp2
    go_ret
    exact ⟨rfl, HB4.out⟩
  | true =>
    have h1 := HL1.out w4 HB4.out
    go_wp2_with fail
    refine h1.mono ?_
    rintro e w5 ⟨b5, rfl⟩
    have HB5 := hidd (HB4.out.trans (b5.mono HB4.out.size))
    have h2 := HL2.out w5 HB5.out
    clear h1 b5
    go_wp2_with fail
    refine h2.mono ?_
    rintro e w6 ⟨b6, rfl⟩
    have HB6 := hidd (HB5.out.trans (b6.mono HB5.out.size))
    have h3 := HE1.out w6 HB6.out
    clear h2 b6
    go_wp2_with fail
    refine h3.mono ?_
    rintro e w7 ⟨b7, A7, c7, rfl, own7⟩
    have HB7 := hidd (HB6.out.trans (b7.mono HB6.out.size))
    have HN7 := hidd (nts_own own7)
    have h4 := HE2.out w7 HB7.out
    clear h3 b7 own7
    go_wp2_with fail
    refine h4.mono ?_
    rintro e w8 ⟨b8, A8, c8, rfl, own8⟩
    have HB8 := hidd (HB7.out.trans (b8.mono HB7.out.size))
    have hin := ints_any A7 A8 c7 c8 E E w8 ((HN7.out.below b8).more b8.size) (nts_own own8) (by have := HLE.out; omega) (by have := HLE.out; omega)
    clear h4 b8 own8
    go_wp2_with fail
    refine hin.mono ?_
    rintro e w9 ⟨b9, z, rfl, hz⟩
    have hzt : z = true := hz.2 (by trivial)
    subst hzt
    have HB9 := hidd (HB8.out.trans (b9.mono HB8.out.size))
    have h5 := HI1.out w9 HB9.out
    clear hin b9 hz
    go_wp2_with fail
    refine h5.mono ?_
    rintro e w10 ⟨b10, rfl⟩
    have HB10 := hidd (HB9.out.trans (b10.mono HB9.out.size))
    have h6 := HI2.out w10 HB10.out
    clear h5 b10
    go_wp2_with fail
    refine h6.mono ?_
    rintro e w11 ⟨b11, rfl⟩
    have HB11 := hidd (HB10.out.trans (b11.mono HB10.out.size))
    have k1 : (is == is) = true := by simp
    have k2 : (lb == lb) = true := by simp
    have k3 : (lz == lz) = true := by simp
    clear h6 b11
    go_wp2
    go_ret
    exact ⟨rfl, HB11.out⟩
end Go.Proofs.YtcgondjekpcpgaaDoor.Sy.Lg.Rn

namespace Go.Proofs.YtcgondjekpcpgaaDoor
open Go.ChangeShapes Go.WideShapes Go.ChangeAt Go.RowKit

set_option maxRecDepth 100000
/-- What all rows list. -/
def laidTab : List (String × DataW Unit) := Rows.langTellsRow.laid
theorem laid_db {W : World} (h : laidMetH Tryd.prog laidTab W) : Sy.Lg.DB W := by
  have h1 : laidMet Tryd.prog laidTab W := h
  exact Lib.tabIs_of_head (zs := Sy.Lg.tabT) Sy.Lg.gDB (by kernel_rfl) Tryd.underlying95 Tryd.underlying5 (by kernel_rfl) (by kernel_rfl) h1
def u8c (l : List Nat) : Array Value := (l.map fun n : Nat => Value.int .u8 (n : Int)).toArray
/-- The settled world, and the variable as its initialiser lays it. -/
noncomputable def laidWorld (os : Os) : World :=
  let w0 := World.holding Tryd.prog os ⟨#[], #[], []⟩
  let put := fun (h : Array Obj) (k : Nat) (cs : Array Value) => h.modify k fun
      | .cells _ t frozen => .cells cs t frozen
      | o => o
  { w0 with heap := put w0.heap 0 (u8c Lib.deBruijn64tab) }
theorem laid_met (os : Os) (args : Array Value) : laidMet Tryd.prog laidTab ((laidWorld os).forCall (fun _ _ => 0) ⟨#[], args, []⟩).memory :=
  laidMet_of_run' 8 (by kernel_rfl) (by kernel_rfl)
end Go.Proofs.YtcgondjekpcpgaaDoor

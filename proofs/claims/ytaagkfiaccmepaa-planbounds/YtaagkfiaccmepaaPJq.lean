/- The reference of layer 5: a tree; PrintTells. -/
import Derived.Test.YtaagkfiaccmepaaPEe
import Derived.Test.YtaagkfiaccmepaaPSf
import Derived.Test.YtaagkfiaccmepaaPJo
import Derived.Test.YtaagkfiaccmepaaPAo
namespace Go.Proofs.Ytaagkfiaccmepaa.Sy.Pn.Rp
open Go.RowKit
set_option maxRecDepth 100000
set_option linter.unusedVariables false

set_option maxHeartbeats 1000000 in
theorem rtree_any (A : Option Addr) (c : Nat) (gs : List Gd) (w : World) (hx : Nds w w.heap.size A gs) (hlg : gs.length ≤ 2000) (hnm : ∀ g ∈ gs, g.nm.size ≤ maxLen ∧ g.l.length ≤ maxLen) (hT : TV w) :
    Calls Try.prog 34 #[.slice A gs.length c] w fun e w' => TreeR gs w e w' := by
  have hR := refRight_any A c gs w hx hlg hnm
  have HX := hidd hx
  obtain ⟨N, hN⟩ : ∃ N, gs.length = N := ⟨_, rfl⟩
  rw [hN] at hR hlg ⊢
  have HN := hidd hN
  clear hnm hx hN
  go_enter Try.func34, Try.ntmps34
  go_wp2_with fail
  refine hR.mono ?_
  rintro e w1 ⟨y, rfl, hy, b1⟩
  cases y with
  | false =>
    have HNR : Hid (¬ RightG gs) := fun h => Bool.false_ne_true (hy.2 h)
    have HB := hidd b1
    clear hy b1 hR
    go_wp2
    go_ret2
    exact ⟨.inr ⟨HNR.out, rfl⟩, HB.out⟩
  | true =>
    obtain ⟨ns, hrn⟩ := rn_of (hy.1 rfl)
    have hl := hrn.gn.1
    have hp := hrn.pos
    have E1 := env_of (b := w1.heap.size) hrn (Nat.le_refl _) ((HX.out.below b1).more b1.size) (hT.below b1)
    have hk := rnode_all (c := c) E1 gs.length (gs.length - 1) (by omega) (by omega) w1 (Below.refl _ _) (by have := hrn.size; rw [hl]; unfold treeT at this; omega)
    have HRN := hidd hrn
    have hi1 : ((N : Int) - 1) = ((gs.length - 1 : Nat) : Int) := by have := HN.out; omega
    have HTT : Hid (nodeT ns gs.length (ns.getD (gs.length - 1) nd0) = treeT ns) := by show _ = _; unfold treeT; rw [hl]
    rw [HTT.out, HN.out] at hk
    rw [HN.out] at hi1
    have HB := hidd b1
    have hN1 : 1 ≤ N := by rw [← HN.out, hl]; exact hp
    obtain ⟨j, hj⟩ : ∃ j, N - 1 = j := ⟨_, rfl⟩
    rw [hj] at hk hi1
    have hjn : N = j + 1 := by omega
    subst hjn
    clear hy b1 hR hl hp E1 hrn HTT hj hT hi1
    push_cast
    go_wp2_with fail
    refine hk.mono ?_
    rintro e w2 ⟨s, rfl, hs, b2⟩
    have HB2 := hidd (HB.out.trans (b2.mono HB.out.size))
    have HS : Hid (s = txt (treeT ns)) := txt_of hs
    clear hk hs b2 HB
    go_wp2
    go_ret2
    exact ⟨.inl ⟨ns, HRN.out, by rw [HS.out]; rfl⟩, HB2.out⟩
end Go.Proofs.Ytaagkfiaccmepaa.Sy.Pn.Rp

namespace Go.Proofs.Ytaagkfiaccmepaa.Sy.Pl
open Go.RowKit Go.Proofs.Ytaagkfiaccmepaa.Sy.Ap Go.Proofs.Ytaagkfiaccmepaa.Sy.Lg Go.Proofs.Ytaagkfiaccmepaa.Sy.Pn Go.Proofs.Ytaagkfiaccmepaa.Sy.Pn.Rp
set_option maxRecDepth 100000
set_option linter.unusedVariables false

abbrev pA1 : ByteArray := { data := #[97, 123, 50, 125] }
abbrev pA2 : ByteArray := { data := #[97, 123, 48, 44, 50, 125] }
abbrev pA3 : ByteArray := { data := #[91, 97, 98, 93, 123, 50, 44, 57, 125] }
abbrev pA4 : ByteArray := { data := #[97, 123, 53, 44, 125] }
abbrev abS : Nat → Bool := negS false (uniS (uniS noS (rngS 97 97)) (rngS 98 98))
abbrev pN1 : List Nd := [ndBytes (oneS 97), ndRep 0 2 2]
abbrev pN2 : List Nd := [ndBytes (oneS 97), ndRep 0 0 2]
abbrev pN3 : List Nd := [ndBytes abS, ndRep 0 2 9]
abbrev pN4 : List Nd := [ndBytes (oneS 97), ndRep 0 5 (-1)]
abbrev pO1 : List Nd := [ndBytes (oneS 97), ndBytes (oneS 97), ndCat [0, 1]]
abbrev pO2 : List Nd := [ndEmpty, ndBytes (oneS 97), ndEmpty, ndBytes (oneS 97), ndAlt [2, 3], ndCat [1, 4], ndAlt [0, 5]]
abbrev pO3 : List Nd := [ndBytes abS, ndRep 0 2 9]
abbrev pO4 : List Nd := [ndBytes (oneS 97), ndRep 0 5 5, ndBytes (oneS 97), ndRep 2 0 (-1), ndCat [1, 3]]
theorem pp1 : parse (bs pA1) = .ok pN1 := rfl
theorem pp2 : parse (bs pA2) = .ok pN2 := rfl
theorem pp3 : parse (bs pA3) = .ok pN3 := rfl
theorem pp4 : parse (bs pA4) = .ok pN4 := rfl
theorem po1 : planN pN1 3 = some pO1 := rfl
theorem po2 : planN pN2 3 = some pO2 := rfl
theorem po3 : planN pN3 3 = some pO3 := rfl
theorem po4 : planN pN4 3 = some pO4 := rfl
theorem pt1 : treeT pO1 = [97, 97] := by decide +kernel
theorem pt2 : treeT pO2 = [124, 97, 40, 124, 97, 41] := by decide +kernel
theorem pt3 : treeT pO3 = [91, 97, 45, 98, 93, 123, 50, 44, 57, 125] := by decide +kernel
theorem pt4 : treeT pO4 = [97, 123, 53, 125, 97, 42] := by decide +kernel
set_option maxHeartbeats 1000000 in
theorem of_any {s : ByteArray} (hz : s.size ≤ 1024) (hS : smpB s = true) {ns o : List Nd} (hp : parse (bs s) = .ok ns) (hpl : PlainN ns) (ho : planN ns 3 = some o) {t : List Nat} (ht : treeT o = t) (w : World) :
    Calls Try.prog 19 #[.string s, .int .i64 3] w fun e w' => e = .returned (.string (txt t)) ∧ Below w.heap.size w w' := by
  have hpa := Rf.refparse_any s (smp_of hS hz) ns hp w
  have htn := tree_parse (bs_b s) hp
  obtain ⟨t1, t2, -⟩ := plan_means htn hpl ho
  have HT : Hid (∀ (u : World) (A : Option Addr) (c : Nat) (gs : List Gd), Nds u u.heap.size A gs → GN gs ns → Calls Try.prog 5 #[.slice A gs.length c, .int .i64 3] u fun e w' => TrR (some o) u e w') := fun u A c gs h1 h2 => by
    have := tree_ok A c gs ns 3 (by omega) (by omega) u h1 h2 htn hpl
    rw [ho] at this
    exact this
  have HP : Hid (∀ (u : World) (A : Option Addr) (c : Nat) (go : List Gd), Nds u u.heap.size A go → GN go o → Calls Try.prog 34 #[.slice A go.length c] u fun e w' => e = .returned (.tuple #[.string (txt t), .bool true]) ∧ Below u.heap.size u w') := fun u A c go h1 h2 => by
    have hr : RN go o := ⟨h2, t1.shp, t1.pos, t1.few, t1.frs⟩
    refine (rtree_any A c go u h1 (by have := h2.1; have := t1.few; omega) (rn_lens hr) trivial).mono ?_
    rintro e w' ⟨⟨ms, hm, rfl⟩ | ⟨hn, _⟩, hb⟩
    · exact ⟨by rw [treeT_congr (nes_of hm.gn h2), ht], hb⟩
    · exact absurd hr.right hn
  clear hp hpl ho ht htn t1 t2 hS hz
  generalize txt t = tt at *
  go_enter Try.func19, Try.ntmps19
  go_wp2_with fail
  refine hpa.mono ?_
  rintro e w1 ⟨A, c, gs, rfl, hN, hG, b1⟩
  have hc := HT.out w1 A c gs hN hG
  have HB1 := hidd b1
  clear hpa hN hG b1 HT
  generalize gs.length = n at *
  go_wp2_with fail
  refine hc.mono ?_
  rintro e w2 ⟨b2, A2, c2, go, rfl, N2, G2, -⟩
  have hc2 := HP.out w2 A2 c2 go N2 G2
  have HB2 := hidd (HB1.out.trans (b2.mono HB1.out.size))
  clear hc N2 G2 b2 HB1 HP
  generalize go.length = n2 at *
  go_wp2_with fail
  refine hc2.mono ?_
  rintro e w3 ⟨rfl, b3⟩
  have HB3 := hidd (HB2.out.trans (b3.mono HB2.out.size))
  clear hc2 b3 HB2
  go_wp2
  go_ret
  exact ⟨rfl, HB3.out⟩
set_option maxHeartbeats 1000000 in
theorem shown8_any (w : World) : Calls Try.prog 8 #[] w fun e w' => e = .returned (.bool true) ∧ Below w.heap.size w w' := by
  have H1 := hidd (fun u => of_any (s := pA1) (by decide) (by decide) pp1 (by intro n hn; simp at hn; rcases hn with e | e <;> (subst e; decide)) po1 pt1 u)
  have H2 := hidd (fun u => of_any (s := pA2) (by decide) (by decide) pp2 (by intro n hn; simp at hn; rcases hn with e | e <;> (subst e; decide)) po2 pt2 u)
  have H3 := hidd (fun u => of_any (s := pA3) (by decide) (by decide) pp3 (by intro n hn; simp at hn; rcases hn with e | e <;> (subst e; show _ ≠ 6; decide)) po3 pt3 u)
  have H4 := hidd (fun u => of_any (s := pA4) (by decide) (by decide) pp4 (by intro n hn; simp at hn; rcases hn with e | e <;> (subst e; decide)) po4 pt4 u)
  have e1 : txt [97, 97] = { data := #[97, 97] } := rfl
  have e2 : txt [124, 97, 40, 124, 97, 41] = { data := #[124, 97, 40, 124, 97, 41] } := rfl
  have e3 : txt [91, 97, 45, 98, 93, 123, 50, 44, 57, 125] = { data := #[91, 97, 45, 98, 93, 123, 50, 44, 57, 125] } := rfl
  have e4 : txt [97, 123, 53, 125, 97, 42] = { data := #[97, 123, 53, 125, 97, 42] } := rfl
  rw [e1] at H1
  rw [e2] at H2
  rw [e3] at H3
  rw [e4] at H4
  clear e1 e2 e3 e4
  go_enter Try.func8, Try.ntmps8
  go_wp2_with fail
  refine (H1.out _).mono ?_
  rintro e w1 ⟨rfl, b1⟩
  go_wp2_with fail
  refine (H2.out _).mono ?_
  rintro e w2 ⟨rfl, b2⟩
  have B2 := hidd (b1.trans (b2.mono b1.size))
  clear b1 b2
  go_wp2_with fail
  refine (H3.out _).mono ?_
  rintro e w3 ⟨rfl, b3⟩
  have B3 := hidd (B2.out.trans (b3.mono B2.out.size))
  clear b3 B2
  go_wp2_with fail
  refine (H4.out _).mono ?_
  rintro e w4 ⟨rfl, b4⟩
  have B4 := hidd (B3.out.trans (b4.mono B3.out.size))
  clear b4 B3
  go_wp2
  go_ret
  exact ⟨rfl, B4.out⟩
end Go.Proofs.Ytaagkfiaccmepaa.Sy.Pl

/- The reference of layer 5: a tree; PrintTells. -/
import Derived.Test.YtghjkbjpdjlddaaDoorEe
import Derived.Test.YtghjkbjpdjlddaaDoorSf
namespace Go.Proofs.YtghjkbjpdjlddaaDoor.Sy.Pn.Rp
open Go.RowKit
set_option maxRecDepth 100000
set_option linter.unusedVariables false

set_option maxHeartbeats 1000000 in
theorem rtree_any (A : Option Addr) (c : Nat) (gs : List Gd) (w : World) (hx : Nds w w.heap.size A gs) (hlg : gs.length ≤ 2000) (hnm : ∀ g ∈ gs, g.nm.size ≤ maxLen ∧ g.l.length ≤ maxLen) (hT : TV w) :
    Calls Tryd.prog 11 #[.slice A gs.length c] w fun e w' => TreeR gs w e w' := by
  have hR := refRight_any A c gs w hx hlg hnm
  have HX := hidd hx
  obtain ⟨N, hN⟩ : ∃ N, gs.length = N := ⟨_, rfl⟩
  rw [hN] at hR hlg ⊢
  have HN := hidd hN
  clear hnm hx hN
  go_enter Tryd.func11, Tryd.ntmps11
  go_wp2_with fail
  refine hR.mono ?_
  rintro e w1 ⟨y, rfl, hy, b1⟩
  cases y with
  | false =>
    have HNR : Hid (¬ RightG gs) := fun h => Bool.false_ne_true (hy.2 h)
    have HB := hidd b1
    clear hy b1 hR
    go_wp2
    go_ret2
    exact ⟨.inr ⟨HNR.out, rfl⟩, HB.out⟩
  | true =>
    obtain ⟨ns, hrn⟩ := rn_of (hy.1 rfl)
    have hl := hrn.gn.1
    have hp := hrn.pos
    have E1 := env_of (b := w1.heap.size) hrn (Nat.le_refl _) ((HX.out.below b1).more b1.size) (hT.below b1)
    have hk := rnode_all (c := c) E1 gs.length (gs.length - 1) (by omega) (by omega) w1 (Below.refl _ _) (by have := hrn.size; rw [hl]; unfold treeT at this; omega)
    have HRN := hidd hrn
    have hi1 : ((N : Int) - 1) = ((gs.length - 1 : Nat) : Int) := by have := HN.out; omega
    have HTT : Hid (nodeT ns gs.length (ns.getD (gs.length - 1) nd0) = treeT ns) := by show _ = _; unfold treeT; rw [hl]
    rw [HTT.out, HN.out] at hk
    rw [HN.out] at hi1
    have HB := hidd b1
    have hN1 : 1 ≤ N := by rw [← HN.out, hl]; exact hp
    obtain ⟨j, hj⟩ : ∃ j, N - 1 = j := ⟨_, rfl⟩
    rw [hj] at hk hi1
    have hjn : N = j + 1 := by omega
    subst hjn
    clear hy b1 hR hl hp E1 hrn HTT hj hT hi1
    push_cast
    go_wp2_with fail
    refine hk.mono ?_
    rintro e w2 ⟨s, rfl, hs, b2⟩
    have HB2 := hidd (HB.out.trans (b2.mono HB.out.size))
    have HS : Hid (s = txt (treeT ns)) := txt_of hs
    clear hk hs b2 HB
    go_wp2
    go_ret2
    exact ⟨.inl ⟨ns, HRN.out, by rw [HS.out]; rfl⟩, HB2.out⟩
end Go.Proofs.YtghjkbjpdjlddaaDoor.Sy.Pn.Rp

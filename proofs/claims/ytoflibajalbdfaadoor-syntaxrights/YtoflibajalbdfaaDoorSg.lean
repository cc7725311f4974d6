/- SyntaxRights. -/
import Derived.Test.YtoflibajalbdfaaDoorSf
namespace Go.Proofs.YtoflibajalbdfaaDoor.Sy
open Go.RowKit
set_option maxRecDepth 100000
set_option linter.unusedVariables false

theorem nds_take {w : World} {B : Nat} {A : Option Addr} {gs : List Gd} (h : Nds w B A gs) (r : Nat) : Nds w B A (gs.take r) := fun hne => by
  obtain ⟨b, off, e, hb, ha⟩ := h (fun e => hne (by rw [e]; simp))
  refine ⟨b, off, e, hb, fun i hi => ?_⟩
  rw [List.length_take] at hi
  have := ha i (by omega)
  rw [List.getD_eq_getElem?_getD, List.getElem?_take, if_pos (by omega), ← List.getD_eq_getElem?_getD]
  exact this
set_option maxHeartbeats 1000000 in
theorem rights_core (hP : ParseC) (A : Option Addr) (c k : Nat) (gs xs : List Gd) (w : World) (hE : EV w) (hx : Nds w w.heap.size A xs) (hlx : xs.length = k) (hk : k = min gs.length 1100) (hl : gs.length ≤ c) (hc : c ≤ maxLen) (hnm : ∀ g ∈ xs, g.nm.size ≤ maxLen ∧ g.l.length ≤ maxLen) :
    Calls Tryd.prog 3 #[.slice A gs.length c] w fun e w' => e = .returned (.bool true) ∧ Below w.heap.size w w' := by
  have HR1 := hidd (fun (w1 : World) (b : Below w.heap.size w w1) => right_any A c xs w1 ((hx.below b).more b.size) (by omega) hnm)
  have HR2 := hidd (fun (w1 : World) (b : Below w.heap.size w w1) => refRight_any A c xs w1 ((hx.below b).more b.size) (by omega) hnm)
  rw [hlx] at HR1 HR2
  generalize gs.length = n at *
  unfold maxLen at hc
  clear hx hnm hlx
  by_cases h : n ≤ 1100
  · have hkn : k = n := by omega
    subst hkn
    have hmi : min (k : Int) 1100 = (k : Int) := by omega
    have hmd : decide ((1100 : Int) < (k : Int)) = false := decide_eq_false (by omega)
    clear h hk
    go_enter Tryd.func3, Tryd.ntmps3
    go_wp2_with fail
    refine (shown_any hP _ hE).mono ?_
    rintro e w1 ⟨rfl, b1⟩
    go_wp2_with fail
    refine (HR1.out w1 b1).mono ?_
    rintro e w2 ⟨y1, rfl, h1, b2⟩
    have D2 := b1.trans (b2.mono b1.size)
    go_wp2_with fail
    refine (HR2.out w2 D2).mono ?_
    rintro e w3 ⟨y2, rfl, h2, b3⟩
    have D3 := D2.trans (b3.mono D2.size)
    have hyy : y2 = y1 := Bool.eq_iff_iff.2 (h2.trans h1.symm)
    subst hyy
    clear h1 h2 HR1 HR2 b1 b2 b3 D2
    cases y2
    · go_wp2
      go_ret
      exact ⟨rfl, D3⟩
    · go_wp2
      go_ret
      exact ⟨rfl, D3⟩
  · have hkn : k = 1100 := by omega
    subst hkn
    have hmi : min (n : Int) 1100 = 1100 := by omega
    have hmd : decide ((1100 : Int) < (n : Int)) = true := decide_eq_true (by omega)
    have hnc : (1100 : Int) ≤ (c : Int) := by omega
    clear h hk
    go_enter Tryd.func3, Tryd.ntmps3
    go_wp2_with fail
    refine (shown_any hP _ hE).mono ?_
    rintro e w1 ⟨rfl, b1⟩
    go_wp2_with fail
    refine (HR1.out w1 b1).mono ?_
    rintro e w2 ⟨y1, rfl, h1, b2⟩
    have D2 := b1.trans (b2.mono b1.size)
    go_wp2_with fail
    refine (HR2.out w2 D2).mono ?_
    rintro e w3 ⟨y2, rfl, h2, b3⟩
    have D3 := D2.trans (b3.mono D2.size)
    have hyy : y2 = y1 := Bool.eq_iff_iff.2 (h2.trans h1.symm)
    subst hyy
    clear h1 h2 HR1 HR2 b1 b2 b3 D2
    cases y2
    · go_wp2
      go_ret
      exact ⟨rfl, D3⟩
    · go_wp2
      go_ret
      exact ⟨rfl, D3⟩
theorem rights_any (hP : ParseC) (A : Option Addr) (c : Nat) (gs : List Gd) (w : World) (hE : EV w) (hx : Nds w w.heap.size A gs) (hl : gs.length ≤ c) (hc : c ≤ maxLen) (hnm : ∀ g ∈ gs, g.nm.size ≤ maxLen ∧ g.l.length ≤ maxLen) :
    Calls Tryd.prog 3 #[.slice A gs.length c] w fun e w' => e = .returned (.bool true) ∧ Below w.heap.size w w' :=
  rights_core hP A c (min gs.length 1100) gs (gs.take 1100) w hE (nds_take hx 1100) (by rw [List.length_take]; omega) rfl hl hc (fun g hg => hnm g (List.mem_of_mem_take hg))
end Go.Proofs.YtoflibajalbdfaaDoor.Sy

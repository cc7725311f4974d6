/- The law SplitTells, by what the calls of split tell. -/
import Derived.Test.YtlfbjnmehdifeaaXi
namespace Go.Proofs.Ytlfbjnmehdifeaa
open Go.RowKit

theorem Sts.cut {w : World} {B : Nat} {A : Option Addr} {ps : List (Nat → Bool)} (h : Sts w B A ps) (n : Nat) : Sts w B A (ps.take n) := by
  intro hne
  obtain ⟨g, off, e, hg, hc⟩ := h (fun e => hne (by subst e; simp))
  refine ⟨g, off, e, hg, fun i hi k hk => ?_⟩
  rw [List.length_take] at hi
  rw [hc i (by omega) k hk, List.getD_eq_getElem?_getD, List.getD_eq_getElem?_getD, List.getElem?_take, if_pos (by omega)]

set_option maxRecDepth 100000 in
set_option maxHeartbeats 2000000 in
theorem tells2_core (hO : OfC) (A : Option Addr) (c n : Nat) (ps : List (Nat → Bool)) (w : World) (hT : Sts w w.heap.size A ps) (lc : n ≤ c) (mc : n ≤ maxLen) (hl : ps.length ≤ 1000000) (el : Hid (ps.length = min n 20)) :
    Calls Try.prog 3 #[.slice A n c] w fun e w' => e = .returned (.bool true) ∧ Below w.heap.size w w' := by
  have hg := guardSplit
  go_enter Try.func3, Try.ntmps3
  go_wp2_with fail
  refine (shown2_any hO _).mono ?_
  rintro e w1 ⟨rfl, hb1⟩
  go_wp2_with fail
  refine (few2_any A n c _ mc lc).mono ?_
  rintro e w2 ⟨rfl, rfl⟩
  rw [← el.out]
  go_wp2_with fail
  refine (hO A c ps _ ((hT.below hb1).more hb1.size) hl).mono ?_
  rintro e w2 ⟨rfl, hb2⟩
  have D2 := hb1.trans (hb2.mono hb1.size)
  go_wp2_with fail
  refine (few2_any A n c _ mc lc).mono ?_
  rintro e w3 ⟨rfl, rfl⟩
  rw [← el.out]
  go_wp2_with fail
  refine (rsplit_any A c ps _ ((hT.below D2).more D2.size) hl).mono ?_
  rintro e w3 ⟨rfl, hb3⟩
  have D3 := D2.trans (hb3.mono D2.size)
  clear hb1 hb2 hb3 D2 hT hO
  generalize (fun b => (clsOf (likeB ps) b : Int)) = F at *
  generalize ((frsts (likeB ps) 256).length : Int) = N at *
  have q := split_eql F N
  go_wp2
  go_ret
  exact ⟨rfl, D3⟩

theorem tells2_any (hO : OfC) (A : Option Addr) (c : Nat) (l : List (Nat → Bool)) (w : World) (hS : Sts w w.heap.size A l) (lc : l.length ≤ c) (mc : c ≤ maxLen) :
    Calls Try.prog 3 #[.slice A l.length c] w fun e w' => e = .returned (.bool true) ∧ Below w.heap.size w w' := by
  have el : (l.take 20).length = min l.length 20 := by rw [List.length_take]; omega
  exact tells2_core hO A c l.length (l.take 20) w (hS.cut 20) lc (by omega) (by omega) el

end Go.Proofs.Ytlfbjnmehdifeaa

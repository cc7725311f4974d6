/- The first sets (layer 2's own helper). -/
import Derived.Test.YtlfbjnmehdifeaaXm
namespace Go.Proofs.Ytlfbjnmehdifeaa
open Go.RowKit

set_option maxHeartbeats 400000 in
theorem few2_any (A : Option Addr) (n c : Nat) (w : World) (hn : n ≤ maxLen) (hc : n ≤ c) :
    Calls Try.prog 12 #[.slice A n c] w fun e w' => e = .returned (.slice A (min n 20) c) ∧ w = w' := by
  unfold maxLen at hn
  go_enter Try.func12, Try.ntmps12
  go_wp2
  · go_ret
    refine ⟨?_, rfl⟩
    rw [Nat.min_eq_right (by omega)]; rfl
  · go_ret
    refine ⟨?_, rfl⟩
    rw [Nat.min_eq_left (by omega)]; rfl

end Go.Proofs.Ytlfbjnmehdifeaa

/- What the calls of split are to tell (the contracts that its own walks have to prove), and the law SplitTells by them. -/
import Derived.Test.YtlfbjnmehdifeaaXh
import Derived.Test.YtlfbjnmehdifeaaXf
import Derived.Test.YtlfbjnmehdifeaaWh
import Derived.Lib.SlBytesConst
namespace Go.Proofs.Ytlfbjnmehdifeaa
open Go.RowKit

/-- Of: the classes of the sets. -/
def OfC : Prop := ∀ (A : Option Addr) (c : Nat) (ps : List (Nat → Bool)) (w : World), Sts w w.heap.size A ps → ps.length ≤ 1000000 →
  Calls Try.prog 11 #[.slice A ps.length c] w fun e w' => e = .returned (.agg (spC (fun b => (clsOf (likeB ps) b : Int)) (frsts (likeB ps) 256).length)) ∧ Below w.heap.size w w'
/-- Set: the bytes of a class. -/
def SetC : Prop := ∀ (f : Nat → Int) (m c : Int) (w : World), (∀ k, k < 256 → 0 ≤ f k ∧ f k ≤ 255) →
  Calls Try.prog 14 #[.agg (spC f m), .int .i64 c] w fun e w' => e = .returned (.agg #[.int .u64 (W (clsB f c) 0), .int .u64 (W (clsB f c) 1), .int .u64 (W (clsB f c) 2), .int .u64 (W (clsB f c) 3)]) ∧ Below w.heap.size w w'
/-- First: the least byte of each class. -/
def FirstC : Prop := ∀ (f : Nat → Int) (m : Int) (w : World), (∀ k, k < 256 → 0 ≤ f k ∧ f k ≤ 255) →
  Calls Try.prog 16 #[.agg (spC f m)] w fun e w' => ∃ A c, e = .returned (.slice A (frstM f m).length c) ∧ Bts w' w'.heap.size A (frstM f m) ∧ Below w.heap.size w w'
/-- Right: whether classes come in the order of their least bytes. -/
def RightC : Prop := ∀ (f : Nat → Int) (m : Int) (w : World), (∀ k, k < 256 → 0 ≤ f k ∧ f k ≤ 255) →
  Calls Try.prog 18 #[.agg (spC f m)] w fun e w' => e = .returned (.bool (decide (rightK f 256 = some m))) ∧ Below w.heap.size w w'

theorem rof1 (a : Int) (fz : Nat × Nat) (w : World) (a0 : 0 ≤ a) (a1 : a ≤ 255) :
    Calls Try.prog 26 #[.slice (some ⟨w.heap.size, 0, none⟩) 1 1] (w.alloc (.cells #[.int .u8 a] 5 fz)) fun e w' => e = .returned (.agg #[.int .u64 (W (inB [a]) 0), .int .u64 (W (inB [a]) 1), .int .u64 (W (inB [a]) 2), .int .u64 (W (inB [a]) 3)]) ∧ Below w.heap.size w w' := by
  have h := rof_any (some ⟨w.heap.size, 0, none⟩) 1 [a] (w.alloc (.cells #[.int .u8 a] 5 fz)) ⟨by simp; omega, fun _ => ⟨_, 0, rfl, by simp, fun i hi => by
    have : i = 0 := by simp at hi; omega
    subst this
    have hh := heap_new w (.cells #[.int .u8 a] 5 fz)
    simp only [World.cell?, Nat.add_zero]
    rw [hh]; rfl⟩⟩ (by simp)
  exact Calls.mono h fun _ _ h => ⟨h.1, bel1 h.2⟩

def shL : Nat → Nat → Bool := likeB [rngB 97 100, inB [98]]
theorem shL_vals : (frsts shL 256).length = 3 ∧ clsOf shL 97 = 1 ∧ clsOf shL 98 = 2 ∧ clsOf shL 99 = 1 ∧ clsOf shL 100 = 0 := by
  have h : ((frsts shL 256).length == 3 && clsOf shL 97 == 1 && clsOf shL 98 == 2 && clsOf shL 99 == 1 && clsOf shL 100 == 0) = true := by kernel_rfl
  simp only [Bool.and_eq_true, beq_iff_eq] at h
  exact ⟨h.1.1.1.1, h.1.1.1.2, h.1.1.2, h.1.2, h.2⟩

set_option maxRecDepth 100000 in
set_option maxHeartbeats 2000000 in
theorem shown2_any (hO : OfC) (w : World) :
    Calls Try.prog 10 #[] w fun e w' => e = .returned (.bool true) ∧ Below w.heap.size w w' := by
  go_enter Try.func10, Try.ntmps10
  go_wp2_with fail
  refine (rrange_any 97 99 _ (by omega) (by omega) (by omega) (by omega)).mono ?_
  rintro e w1 ⟨rfl, hb1⟩
  have hcv := Go.Lib.run_convert_bytes_const (P := Try.prog) w1 35 5 #[.int .u8 98] 1 1 Try.underlying35 Try.underlying5
  go_wp2_with fail
  refine (rof1 98 _ _ (by omega) (by omega)).mono ?_
  rintro e w2 ⟨rfl, hb2⟩
  have hb := hb1.trans (hb2.mono hb1.size)
  clear hb1 hb2
  go_wp2_with fail
  refine (hO _ 2 [rngB 97 100, inB [98]] _ (sts2 _ _ w2) (by simp)).mono ?_
  rintro e w3 ⟨rfl, hb3⟩
  have hbb := hb.trans ((bel1 hb3).mono hb.size)
  clear hb hb3 hcv
  have hz := split_zero
  obtain ⟨v0, v1, v2, v3, v4⟩ := shL_vals
  unfold shL at v0 v1 v2 v3 v4
  have k0 : ((frsts (likeB [rngB 97 100, inB [98]]) 256).length : Int) = 3 := by rw [v0]; rfl
  have k1 : (fun b => (clsOf (likeB [rngB 97 100, inB [98]]) b : Int)) 97 = 1 := by show (clsOf _ 97 : Int) = 1; rw [v1]; rfl
  have k2 : (fun b => (clsOf (likeB [rngB 97 100, inB [98]]) b : Int)) 98 = 2 := by show (clsOf _ 98 : Int) = 2; rw [v2]; rfl
  have k3 : (fun b => (clsOf (likeB [rngB 97 100, inB [98]]) b : Int)) 99 = 1 := by show (clsOf _ 99 : Int) = 1; rw [v3]; rfl
  have k4 : (fun b => (clsOf (likeB [rngB 97 100, inB [98]]) b : Int)) 100 = 0 := by show (clsOf _ 100 : Int) = 0; rw [v4]; rfl
  clear v0 v1 v2 v3 v4
  generalize (fun b => (clsOf (likeB [rngB 97 100, inB [98]]) b : Int)) = F at *
  generalize ((frsts (likeB [rngB 97 100, inB [98]]) 256).length : Int) = N at *
  subst k0
  have Z := RowS.new w3 (fun _ => 0) 0
  have hbd := bel_setRow (hbb.alloc hbb.size (.cells (spC (fun _ => 0) 0) 26)) w3.heap.size (spC F 3) hbb.size
  have R := Z.row F 3
  have m0 := R.many
  have m1 := R.at_ 97 (by omega)
  have m2 := R.at_ 98 (by omega)
  have m3 := R.at_ 99 (by omega)
  have m4 := R.at_ 100 (by omega)
  rw [k1] at m1
  rw [k2] at m2
  rw [k3] at m3
  rw [k4] at m4
  clear k1 k2 k3 k4
  go_wp2_with (refine wpList_store_row rfl 26 (.tmp 1) (.tmp 7) rfl w3.heap.size (spC F 3) rfl rfl 26 (spC (fun _ => 0) 0) Z (split_info _ _) (by rw [spC_size, spC_size]) (spC_one _ _) ?_)
  go_ret
  exact ⟨rfl, hbd⟩

end Go.Proofs.Ytlfbjnmehdifeaa

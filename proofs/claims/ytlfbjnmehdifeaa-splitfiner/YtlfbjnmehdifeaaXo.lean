/- The law SplitFirst, by what the calls of split tell. -/
import Derived.Test.YtlfbjnmehdifeaaXk
import Derived.Test.YtlfbjnmehdifeaaXn
namespace Go.Proofs.Ytlfbjnmehdifeaa
open Go.RowKit

theorem cls_byte (L : Nat → Nat → Bool) : ∀ k, k < 256 → 0 ≤ (clsOf L k : Int) ∧ (clsOf L k : Int) ≤ 255 := by
  intro k hk
  have h1 := cls_le L k
  have h2 := frsts_len L k
  omega
theorem eqB_all {p q : Nat → Bool} (h : eqB p q = true) : ∀ b, b < 256 → p b = q b := by
  unfold eqB at h
  obtain ⟨h0, h1, h2, h3⟩ := of_decide_eq_true h
  intro b hb
  have hi : b / 64 = 0 ∨ b / 64 = 1 ∨ b / 64 = 2 ∨ b / 64 = 3 := by omega
  have e : 64 * (b / 64) + b % 64 = b := by omega
  have hj : b % 64 < 64 := by omega
  rcases hi with hi | hi | hi | hi <;> rw [hi] at e
  · have := W_inj h0 (b % 64) hj; rw [e] at this; exact this
  · have := W_inj h1 (b % 64) hj; rw [e] at this; exact this
  · have := W_inj h2 (b % 64) hj; rw [e] at this; exact this
  · have := W_inj h3 (b % 64) hj; rw [e] at this; exact this
theorem set_neq_zero {p : Nat → Bool} (b : Nat) (hb : b < 256) (h : p b = true) (w : World) : (binOp .neq 33 (.agg #[.int .u64 (W (p) 0), .int .u64 (W (p) 1), .int .u64 (W (p) 2), .int .u64 (W (p) 3)]) (.agg #[.int .u64 0, .int .u64 0, .int .u64 0, .int .u64 0])).run Try.prog w = .ok (.bool true) w := by
  have hz := set_neq p noB w
  simp only [W_zero] at hz
  have : eqB p noB = false := by
    cases he : eqB p noB with
    | false => rfl
    | true =>
      exfalso
      have := eqB_all he b hb
      rw [h] at this
      cases this
  rw [this] at hz
  exact hz

set_option maxRecDepth 100000 in
set_option maxHeartbeats 4000000 in
theorem first2_core (hO : OfC) (hSe : SetC) (hFi : FirstC) (A : Option Addr) (c n y : Nat) (ps : List (Nat → Bool)) (w : World) (hT : Sts w w.heap.size A ps) (lc : n ≤ c) (mc : n ≤ maxLen) (hl : ps.length ≤ 1000000) (el : Hid (ps.length = min n 20)) (hy : y < 256) :
    Calls Try.prog 9 #[.slice A n c, .int .u8 (y : Int)] w fun e w' => e = .returned (.bool true) ∧ Below w.heap.size w w' := by
  have hE := like_eqv ps
  have f1 := first_eq hE
  have f2 := (cls_like hE y 256 hy).1
  have f3 := cls_least hE y 256 hy
  have f4 := cls_first (likeB ps) 256 (clsOf (likeB ps) y) f2
  have f5 := frsts_zero (L := likeB ps) 256 (by omega)
  have f7 : ∀ k, k < 256 → 0 ≤ (fun b => (clsOf (likeB ps) b : Int)) k ∧ (fun b => (clsOf (likeB ps) b : Int)) k ≤ 255 := cls_byte (likeB ps)
  have f8 := cls_byte (likeB ps) y hy
  have f9 := frsts_len (likeB ps) 256
  have q1 : (fun b => (clsOf (likeB ps) b : Int)) y = (clsOf (likeB ps) y : Int) := rfl
  have q2 : (fun b => (clsOf (likeB ps) b : Int)) ((frsts (likeB ps) 256).getD (clsOf (likeB ps) y) 0) = (clsOf (likeB ps) y : Int) := by show (clsOf (likeB ps) _ : Int) = _; rw [f4]
  have q3 : clsB (fun b => (clsOf (likeB ps) b : Int)) (clsOf (likeB ps) y : Int) y = true := by simp [clsB]
  have hO1 := fun w h => hO A c ps w h hl
  clear f4
  generalize (fun b => (clsOf (likeB ps) b : Int)) = F at *
  generalize clsOf (likeB ps) y = k at *
  generalize frsts (likeB ps) 256 = Fs at *
  have n1 := natI_len Fs
  have n2 := natI_at Fs k f2
  have n3 := natI_at Fs 0 f5.2
  rw [f5.1] at n3
  generalize Fs.getD k 0 = x at *
  generalize Fs.length = N at *
  obtain ⟨_, f6⟩ := f5
  have z1 := set_neq_zero y hy q3
  have hg := guard27
  clear hE q3
  go_enter Try.func9, Try.ntmps9
  go_wp2_with fail
  refine (shown2_any hO _).mono ?_
  rintro e w1 ⟨rfl, hb1⟩
  go_wp2_with fail
  refine (few2_any A n c _ mc lc).mono ?_
  rintro e w2 ⟨rfl, rfl⟩
  rw [← el.out]
  go_wp2_with fail
  refine (hO1 _ ((hT.below hb1).more hb1.size)).mono ?_
  rintro e w2 ⟨rfl, hb2⟩
  have D2 := hb1.trans (hb2.mono hb1.size)
  have hz := split_zero
  have Z := RowS.new w2 (fun _ => 0) 0
  have D3 := bel_setRow (D2.alloc D2.size (.cells (spC (fun _ => 0) 0) 26)) w2.heap.size (spC F N) D2.size
  have R := Z.row F (N : Int)
  clear hb1 hb2 hT
  go_wp2_with (first
    | refine wpList_store_row rfl 26 (.tmp 6) (.tmp 12) rfl w2.heap.size (spC F N) rfl rfl 26 (spC (fun _ => 0) 0) Z (split_info _ _) (by rw [spC_size, spC_size]) (spC_one _ _) ?_
    | refine wpList_load_row rfl 26 (.tmp 6) rfl w2.heap.size rfl 26 (spC F N) (0, 0) _ R Try.underlying26 rfl (split_info _ _) ?_)
  refine (hFi F N _ f7).mono ?_
  rintro e w3 ⟨A3, c3, rfl, hB3, hb3⟩
  rw [f1] at hB3 ⊢
  rw [n1]
  have R3 := R.below hb3 R.lt
  have D4 := D3.trans (hb3.mono D3.size)
  clear Z R D2 D3 hb3 hz
  obtain ⟨g, off, rfl, hg3, ha⟩ := hB3.2 (fun e => by rw [e] at n1; simp at n1; omega)
  have c1 := ha k (by rw [n1]; exact f2)
  have c0 := ha 0 (by rw [n1]; exact f6)
  rw [n2] at c1
  rw [n3, Nat.add_zero] at c0
  have r1 := R3.at_ y hy
  have r2 := R3.at_ x (by omega)
  rw [q1] at r1
  rw [q2] at r2
  have f7' := hidd f7
  clear ha hB3 n1 n2 n3 q1 q2 f1 f7
  go_wp2_with fail
  refine wp_load_row 26 (.tmp 6) rfl w2.heap.size rfl 26 (spC F N) (0, 0) _ R3 Try.underlying26 rfl (split_info _ _) ?_
  apply_assumption
  go_wp2_with fail
  refine (hSe F N k _ f7'.out).mono ?_
  rintro e w4 ⟨rfl, hb4⟩
  have c2 := (hb4.cell (p := ⟨g, off, none⟩) hg3).trans c0
  have D5 := D4.trans (hb4.mono D4.size)
  clear c0 c1 r1 r2 R3 hb4 D4
  go_wp2
  go_ret
  exact ⟨rfl, D5⟩

theorem first2_any (hO : OfC) (hSe : SetC) (hFi : FirstC) (A : Option Addr) (c : Nat) (l : List (Nat → Bool)) (b : Int) (w : World) (hS : Sts w w.heap.size A l) (lc : l.length ≤ c) (mc : c ≤ maxLen) (b0 : 0 ≤ b) (b1 : b ≤ 255) :
    Calls Try.prog 9 #[.slice A l.length c, .int .u8 b] w fun e w' => e = .returned (.bool true) ∧ Below w.heap.size w w' := by
  have el : (l.take 20).length = min l.length 20 := by rw [List.length_take]; omega
  obtain ⟨y, rfl⟩ : ∃ y : Nat, b = y := ⟨b.toNat, by omega⟩
  exact first2_core hO hSe hFi A c l.length y (l.take 20) w (hS.cut 20) lc (by omega) (by omega) el (by omega)

end Go.Proofs.Ytlfbjnmehdifeaa

/- The reference's reader: small methods. -/
import Derived.Test.YtaagkfiaccmepaaPHa
import Derived.Test.YtaagkfiaccmepaaPM2
import Derived.Test.YtaagkfiaccmepaaPM4
import Derived.BigQuiet
namespace Go.Proofs.Ytaagkfiaccmepaa.Sy.Rf
open Go.RowKit
set_option maxRecDepth 100000
set_option linter.unusedVariables false

section
variable {w w' : World} {b : Nat} {s : ByteArray} {v : Value} {d : Int}
theorem ends_no {i : Nat} (r : QR w b s i v d) (hi : i < s.size) : Calls Try.prog 47 #[.pointer (some ⟨b, 0, none⟩)] w fun e w' => e = .returned (.bool false) ∧ ∃ m, w' = w.drewN m := by
  obtain ⟨c0, c1, c2, c3, c4, c5⟩ := r.cells
  have h1 : decide (s.size ≤ i) = false := decide_eq_false (by omega)
  go_enter Try.func47, Try.ntmps47
  go_wp2
  go_quiet (fail)
  go_wp2
  go_ret
  exact ⟨rfl, _, rfl⟩
theorem ends_yes {i : Nat} (r : QR w b s i v d) (hi : i = s.size) : Calls Try.prog 47 #[.pointer (some ⟨b, 0, none⟩)] w fun e w' => e = .returned (.bool true) ∧ ∃ m, w' = w.drewN m := by
  obtain ⟨c0, c1, c2, c3, c4, c5⟩ := r.cells
  have h1 : decide (s.size ≤ i) = true := decide_eq_true (by omega)
  clear hi
  go_enter Try.func47, Try.ntmps47
  go_wp2
  go_quiet (fail)
  go_wp2
  go_ret
  exact ⟨rfl, _, rfl⟩
theorem QR.atOf {i : Nat} (r : QR w b s i v d) : atOf w b = i := by
  have h := r.cells.2.1
  unfold Sy.atOf
  rw [h]
  simp
theorem at_get {i : Nat} (h : i < s.size) : at_ (bs s) i = s[i].toNat := at_bs s i h
set_option maxHeartbeats 1000000 in
theorem number_one {i j x : Nat} (r : QR w b s i v d) (hj : j = i + 1) (hi : j < s.size) (hs : s.size ≤ 100000) (hd : digitB (at_ (bs s) i) = true) (hn : digitB (at_ (bs s) j) = false) (hx : at_ (bs s) i = x + 48) :
    Calls Try.prog 79 #[.pointer (some ⟨b, 0, none⟩)] w fun e w' => e = .returned (.int .i64 (x : Int)) ∧ QR w' b s (j : Int) v d ∧ Touch b b w w' := by
  have hx9 : x ≤ 9 := by unfold digitB at hd; simp at hd; omega
  have hi0 : i < s.size := by omega
  rw [at_get hi0] at hd hx
  rw [at_get hi] at hn
  have HD := hidd hd
  have HN := hidd hn
  obtain ⟨c0, c1, c2, c3, c4, c5⟩ := r.cells
  have HR := hidd r
  have HJ := hidd hj
  have hij : (i : Int) + 1 = (j : Int) := by omega
  have hji : (j : Int) - (i : Int) = 1 := by omega
  have hi48 : ((s[i].toNat : Int) == 48) = decide (x = 0) := by rw [hx]; by_cases h : x = 0 <;> simp [h] <;> omega
  have hsb : IntKind.u8.wrap ((s[i].toNat : Int) - 48) = (x : Int) := by rw [hx, IntKind.wrap_u8]; omega
  clear hd hn r hj hx
  go_enter Try.func79, Try.ntmps79
  go_wp2
  go_loopw [3] (fun s3 wr => (s3 = .int .i64 0 ∧ QR wr b s (i : Int) v d ∧ Touch b b w wr) ∨ (s3 = .int .i64 (x : Int) ∧ QR wr b s (j : Int) v d ∧ Touch b b w wr)) (fun _ wr => s.size - atOf wr b)
  case atStart => exact .inl ⟨rfl, HR.out, Touch.refl _ _ _⟩
  case round =>
    clear c0 c1 c2 c3 c4 c5
    rcases hrel with ⟨rfl, r1, T1⟩ | ⟨rfl, r1, T1⟩
    · obtain ⟨c0, c1, c2, c3, c4, c5⟩ := r1.cells
      have ht := r1.thawed
      have hE := fun m => ends_no (i := i) (r1.drewN m) hi0
      have hao : Hid (atOf wr b = i) := r1.atOf
      have HR1 := hidd r1
      have HT1 := hidd T1
      have hii : (i : Int) < (s.size : Int) := by omega
      have hD : ∀ u : World, Calls Try.prog 54 #[.int .u8 ((s[i].toNat : Nat) : Int)] u fun e w' => e = .returned (.bool true) ∧ w' = u := fun u => by
        have := rdigit_any s[i].toNat u
        rw [HD.out] at this
        exact this
      have hmn : min ((x : Int)) 1000000 = (x : Int) := by omega
      clear r1 T1
      go_wp2_with fail
      go_quiet (first | (go_at_call 47; exact Calls.quiet_of (hE _)) | (go_at_call 54; exact Calls.quiet_of_same (hD _)))
      go_wp2_with fail
      go_quiet (fail)
      go_wp2
      have R2 : ∀ m, QR ((wr.drewN m).setCell ⟨b, 1, none⟩ (.int .i64 (j : Int))) b s (j : Int) v d := fun m => (HR1.out.drewN m).atTo (j : Int)
      refine ⟨.inr ⟨rfl, R2 _, (HT1.out.drewN _).set1 1 _⟩, ?_⟩
      rw [hao.out, (R2 _).atOf]
      have := HJ.out
      omega
    · have hE := fun m => ends_no (i := j) (r1.drewN m) hi
      have hii : (j : Int) < (s.size : Int) := by omega
      have hii0 : (i : Int) < (s.size : Int) := by omega
      have hD : ∀ u : World, Calls Try.prog 54 #[.int .u8 ((s[j].toNat : Nat) : Int)] u fun e w' => e = .returned (.bool false) ∧ w' = u := fun u => by
        have := rdigit_any s[j].toNat u
        rw [HN.out] at this
        exact this
      obtain ⟨c0, c1, c2, c3, c4, c5⟩ := r1.cells
      have HR1 := hidd r1
      have HT1 := hidd T1
      clear r1 T1 hsb
      cases hx0 : decide (x = 0) with
      | true =>
        rw [hx0] at hi48
        go_wp2_with fail
        go_quiet (first | (go_at_call 47; exact Calls.quiet_of (hE _)) | (go_at_call 54; exact Calls.quiet_of_same (hD _)))
        go_wp2
        go_ret
        exact ⟨rfl, HR1.out, HT1.out.drewN _⟩
      | false =>
        rw [hx0] at hi48
        go_wp2_with fail
        go_quiet (first | (go_at_call 47; exact Calls.quiet_of (hE _)) | (go_at_call 54; exact Calls.quiet_of_same (hD _)))
        go_wp2
        go_ret
        exact ⟨rfl, HR1.out, HT1.out.drewN _⟩
end
end Go.Proofs.Ytaagkfiaccmepaa.Sy.Rf

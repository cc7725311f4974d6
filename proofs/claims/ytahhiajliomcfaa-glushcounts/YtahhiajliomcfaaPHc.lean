/- The reference's reader: small methods. -/
import Derived.Test.YtahhiajliomcfaaPHa
import Derived.Test.YtahhiajliomcfaaPM2
import Derived.Test.YtahhiajliomcfaaPM4
import Derived.BigQuiet
import Derived.Test.YtahhiajliomcfaaPM1
namespace Go.Proofs.Ytahhiajliomcfaa.Sy.Rf
open Go.RowKit
set_option maxRecDepth 100000
set_option linter.unusedVariables false

section
variable {w w' : World} {b : Nat} {s : ByteArray} {v : Value} {d : Int}
theorem ends_no {i : Nat} (r : QR w b s i v d) (hi : i < s.size) : Calls Try.prog 66 #[.pointer (some ⟨b, 0, none⟩)] w fun e w' => e = .returned (.bool false) ∧ ∃ m, w' = w.drewN m := by
  obtain ⟨c0, c1, c2, c3, c4, c5⟩ := r.cells
  have h1 : decide (s.size ≤ i) = false := decide_eq_false (by omega)
  go_enter Try.func66, Try.ntmps66
  go_wp2
  go_quiet (fail)
  go_wp2
  go_ret
  exact ⟨rfl, _, rfl⟩
theorem ends_yes {i : Nat} (r : QR w b s i v d) (hi : i = s.size) : Calls Try.prog 66 #[.pointer (some ⟨b, 0, none⟩)] w fun e w' => e = .returned (.bool true) ∧ ∃ m, w' = w.drewN m := by
  obtain ⟨c0, c1, c2, c3, c4, c5⟩ := r.cells
  have h1 : decide (s.size ≤ i) = true := decide_eq_true (by omega)
  clear hi
  go_enter Try.func66, Try.ntmps66
  go_wp2
  go_quiet (fail)
  go_wp2
  go_ret
  exact ⟨rfl, _, rfl⟩
theorem QR.atOf {i : Nat} (r : QR w b s i v d) : atOf w b = i := by
  have h := r.cells.2.1
  unfold Sy.atOf
  rw [h]
  simp
theorem at_get {i : Nat} (h : i < s.size) : at_ (bs s) i = s[i].toNat := at_bs s i h
set_option maxHeartbeats 1000000 in
theorem number_one {i j x : Nat} (r : QR w b s i v d) (hj : j = i + 1) (hi : j < s.size) (hs : s.size ≤ 100000) (hd : digitB (at_ (bs s) i) = true) (hn : digitB (at_ (bs s) j) = false) (hx : at_ (bs s) i = x + 48) :
    Calls Try.prog 101 #[.pointer (some ⟨b, 0, none⟩)] w fun e w' => e = .returned (.int .i64 (x : Int)) ∧ QR w' b s (j : Int) v d ∧ Touch b b w w' := by
  have hx9 : x ≤ 9 := by unfold digitB at hd; simp at hd; omega
  have hi0 : i < s.size := by omega
  rw [at_get hi0] at hd hx
  rw [at_get hi] at hn
  have HD := hidd hd
  have HN := hidd hn
  obtain ⟨c0, c1, c2, c3, c4, c5⟩ := r.cells
  have HR := hidd r
  have HJ := hidd hj
  have hij : (i : Int) + 1 = (j : Int) := by omega
  have hji : (j : Int) - (i : Int) = 1 := by omega
  have hi48 : ((s[i].toNat : Int) == 48) = decide (x = 0) := by rw [hx]; by_cases h : x = 0 <;> simp [h] <;> omega
  have hsb : IntKind.u8.wrap ((s[i].toNat : Int) - 48) = (x : Int) := by rw [hx, IntKind.wrap_u8]; omega
  clear hd hn r hj hx
  go_enter Try.func101, Try.ntmps101
  go_wp2
  go_loopw [3] (fun s3 wr => (s3 = .int .i64 0 ∧ QR wr b s (i : Int) v d ∧ Touch b b w wr) ∨ (s3 = .int .i64 (x : Int) ∧ QR wr b s (j : Int) v d ∧ Touch b b w wr)) (fun _ wr => s.size - atOf wr b)
  case atStart => exact .inl ⟨rfl, HR.out, Touch.refl _ _ _⟩
  case round =>
    clear c0 c1 c2 c3 c4 c5
    rcases hrel with ⟨rfl, r1, T1⟩ | ⟨rfl, r1, T1⟩
    · obtain ⟨c0, c1, c2, c3, c4, c5⟩ := r1.cells
      have ht := r1.thawed
      have hE := fun m => ends_no (i := i) (r1.drewN m) hi0
      have hao : Hid (atOf wr b = i) := r1.atOf
      have HR1 := hidd r1
      have HT1 := hidd T1
      have hii : (i : Int) < (s.size : Int) := by omega
      have hD : ∀ u : World, Calls Try.prog 79 #[.int .u8 ((s[i].toNat : Nat) : Int)] u fun e w' => e = .returned (.bool true) ∧ w' = u := fun u => by
        have := rdigit_any s[i].toNat u
        rw [HD.out] at this
        exact this
      have hmn : min ((x : Int)) 1000000 = (x : Int) := by omega
      clear r1 T1
      go_wp2_with fail
      go_quiet (first | (go_at_call 66; exact Calls.quiet_of (hE _)) | (go_at_call 79; exact Calls.quiet_of_same (hD _)))
      go_wp2_with fail
      go_quiet (fail)
      go_wp2
      have R2 : ∀ m, QR ((wr.drewN m).setCell ⟨b, 1, none⟩ (.int .i64 (j : Int))) b s (j : Int) v d := fun m => (HR1.out.drewN m).atTo (j : Int)
      refine ⟨.inr ⟨rfl, R2 _, (HT1.out.drewN _).set1 1 _⟩, ?_⟩
      rw [hao.out, (R2 _).atOf]
      have := HJ.out
      omega
    · have hE := fun m => ends_no (i := j) (r1.drewN m) hi
      have hii : (j : Int) < (s.size : Int) := by omega
      have hii0 : (i : Int) < (s.size : Int) := by omega
      have hD : ∀ u : World, Calls Try.prog 79 #[.int .u8 ((s[j].toNat : Nat) : Int)] u fun e w' => e = .returned (.bool false) ∧ w' = u := fun u => by
        have := rdigit_any s[j].toNat u
        rw [HN.out] at this
        exact this
      obtain ⟨c0, c1, c2, c3, c4, c5⟩ := r1.cells
      have HR1 := hidd r1
      have HT1 := hidd T1
      clear r1 T1 hsb
      cases hx0 : decide (x = 0) with
      | true =>
        rw [hx0] at hi48
        go_wp2_with fail
        go_quiet (first | (go_at_call 66; exact Calls.quiet_of (hE _)) | (go_at_call 79; exact Calls.quiet_of_same (hD _)))
        go_wp2
        go_ret
        exact ⟨rfl, HR1.out, HT1.out.drewN _⟩
      | false =>
        rw [hx0] at hi48
        go_wp2_with fail
        go_quiet (first | (go_at_call 66; exact Calls.quiet_of (hE _)) | (go_at_call 79; exact Calls.quiet_of_same (hD _)))
        go_wp2
        go_ret
        exact ⟨rfl, HR1.out, HT1.out.drewN _⟩
end
end Go.Proofs.Ytahhiajliomcfaa.Sy.Rf

namespace Go.Proofs.Ytahhiajliomcfaa.Sy.Rf
open Go.RowKit
set_option maxRecDepth 100000
set_option linter.unusedVariables false
section
variable {w w' : World} {b : Nat} {s : ByteArray} {v : Value} {d : Int}
theorem byte_is {i c : Nat} (h : i < s.size) (hc : at_ (bs s) i = c) (k : Nat) : ((s[i].toNat : Int) == (k : Int)) = decide (c = k) := by
  rw [← at_get h, hc]
  by_cases q : c = k
  · subst q; simp
  · have : ¬ (c : Int) = (k : Int) := by omega
    simp [q, this]
theorem byte_ne {i c : Nat} (h : i < s.size) (hc : at_ (bs s) i = c) (k : Int) {z : Bool} (e : (!decide ((c : Int) = k)) = z) : ((s[i].toNat : Int) != k) = z := by
  rw [← at_get h, hc, ← e]
  by_cases q : (c : Int) = k
  · simp [q]
  · simp [q]
/-- Behind the bounds. -/
def BndR (lo hi : Int) (j : Nat) (b : Nat) (s : ByteArray) (v : Value) (d : Int) (w : World) (e : Ending) (w' : World) : Prop := e = .returned (.tuple #[.int .i64 lo, .int .i64 hi]) ∧ QR w' b s (j : Int) v d ∧ Touch b b w w'
set_option maxHeartbeats 2000000 in
theorem bounds_1 {i i1 i2 j x : Nat} (r : QR w b s i v d) (h1 : i1 = i + 1) (h2 : i2 = i + 2) (hj : j = i + 3) (hlt : i2 < s.size) (hs : s.size ≤ 100000) (hd : digitB (at_ (bs s) i1) = true) (hx : at_ (bs s) i1 = x + 48) (hc : at_ (bs s) i2 = 125) (hx1 : 1 ≤ x) :
    Calls Try.prog 93 #[.pointer (some ⟨b, 0, none⟩)] w fun e w' => BndR x x j b s v d w e w' := by
  have hn : digitB (at_ (bs s) i2) = false := by rw [hc]; rfl
  have hx9 : x ≤ 9 := by unfold digitB at hd; simp at hd; omega
  obtain ⟨c0, c1, c2, c3, c4, c5⟩ := r.cells
  have ht := r.thawed
  have hi1 : (i : Int) + 1 = (i1 : Int) := by omega
  have hsl : (i : Int) < 100000 := by omega
  have H1 := hidd h1
  have H2 := hidd h2
  have HJ := hidd hj
  clear h1 h2 hj
  have HR1 := hidd (r.atTo (i1 : Int))
  have HT1 := hidd ((Touch.refl b b w).set1 1 (.int .i64 (i1 : Int)))
  go_enter Try.func93, Try.ntmps93
  go_wp2_with fail
  generalize w.setCell ⟨b, 1, none⟩ (.int .i64 (i1 : Int)) = w1 at *
  clear c0 c1 c2 c3 c4 c5 ht
  refine (number_one HR1.out (by have := H1.out; have := H2.out; omega : i2 = i1 + 1) hlt hs hd hn hx).mono ?_
  rintro e w2 ⟨rfl, r2, T2⟩
  have HT2 := hidd (HT1.out.trans T2)
  clear T2 HR1 HT1 hd hn hx
  generalize hX : (x : Int) = X
  have q1 : (X == 0) = false := by simp; omega
  have q2 : decide ((4096 : Int) < X) = false := decide_eq_false (by omega)
  have q3 : decide ((0 : Int) < X) = true := decide_eq_true (by omega)
  have q4 : decide (X < X) = false := decide_eq_false (by omega)
  have q5 : decide (X < 0) = false := decide_eq_false (by omega)
  have HXX := hidd hX
  clear hx1 hx9 hX
  have hE2 := fun m => ends_no (i := i2) (r2.drewN m) hlt
  have h44 : ((s[i2].toNat : Int) == 44) = false := (byte_is hlt hc 44).trans (by decide)
  have hii : (i2 : Int) < (s.size : Int) := by omega
  obtain ⟨c0, c1, c2, c3, c4, c5⟩ := r2.cells
  go_wp2_with fail
  go_quiet ((go_at_call 66; exact Calls.quiet_of (hE2 _)))
  have r3 := r2.drewN nq
  have HT3 := hidd (HT2.out.drewN nq)
  clear c0 c1 c2 c3 c4 c5 hE2 HT2 h44 r2
  generalize w2.drewN nq = w3 at *
  -- the closing brace at i2, in world w3, reader r3, all so far HT3
  have hEk := ends_no (i := i2) r3 hlt
  go_wp2_with fail
  refine hEk.mono ?_
  rintro e w8 ⟨rfl, m8, rfl⟩
  have r8 := r3.drewN m8
  have HT8 := hidd (HT3.out.drewN m8)
  clear hEk r3 HT3
  generalize w3.drewN m8 = w8 at *
  obtain ⟨c0, c1, c2, c3, c4, c5⟩ := r8.cells
  have ht8 := r8.thawed
  have hkk : (i2 : Int) < (s.size : Int) := by omega
  have h125 : ((s[i2].toNat : Int) != 125) = false := byte_ne hlt hc 125 rfl
  have hk1 : (i2 : Int) + 1 = (j : Int) := by have := HJ.out; have := H2.out;  omega
  have hsk : (i2 : Int) < 100000 := by omega
  go_wp2_with fail
  go_quiet (fail)
  clear hc h125
  have R9 : ∀ m, QR ((w8.drewN m).setCell ⟨b, 1, none⟩ (.int .i64 (j : Int))) b s (j : Int) v d := fun m => (r8.drewN m).atTo (j : Int)
  have T9 : ∀ m, Touch b b w ((w8.drewN m).setCell ⟨b, 1, none⟩ (.int .i64 (j : Int))) := fun m => (HT8.out.drewN m).set1 1 _
  go_wp2
  go_ret2
  exact ⟨by rw [HXX.out]; rfl, R9 _, T9 _⟩
set_option maxHeartbeats 2000000 in
theorem bounds_2 {i i1 i2 i3 j x : Nat} (r : QR w b s i v d) (h1 : i1 = i + 1) (h2 : i2 = i + 2) (h3 : i3 = i + 3) (hj : j = i + 4) (hl3 : i3 < s.size) (hs : s.size ≤ 100000) (hd : digitB (at_ (bs s) i1) = true) (hx : at_ (bs s) i1 = x + 48) (hc2 : at_ (bs s) i2 = 44) (hc : at_ (bs s) i3 = 125) :
    Calls Try.prog 93 #[.pointer (some ⟨b, 0, none⟩)] w fun e w' => BndR x (-1) j b s v d w e w' := by
  have hn : digitB (at_ (bs s) i2) = false := by rw [hc2]; rfl
  have hlt : i2 < s.size := by omega
  have hn3 : digitB (at_ (bs s) i3) = false := by rw [hc]; rfl
  have H3 := hidd h3
  clear h3
  have hx9 : x ≤ 9 := by unfold digitB at hd; simp at hd; omega
  obtain ⟨c0, c1, c2, c3, c4, c5⟩ := r.cells
  have ht := r.thawed
  have hi1 : (i : Int) + 1 = (i1 : Int) := by omega
  have hsl : (i : Int) < 100000 := by omega
  have H1 := hidd h1
  have H2 := hidd h2
  have HJ := hidd hj
  clear h1 h2 hj
  have HR1 := hidd (r.atTo (i1 : Int))
  have HT1 := hidd ((Touch.refl b b w).set1 1 (.int .i64 (i1 : Int)))
  go_enter Try.func93, Try.ntmps93
  go_wp2_with fail
  generalize w.setCell ⟨b, 1, none⟩ (.int .i64 (i1 : Int)) = w1 at *
  clear c0 c1 c2 c3 c4 c5 ht
  refine (number_one HR1.out (by have := H1.out; have := H2.out; omega : i2 = i1 + 1) hlt hs hd hn hx).mono ?_
  rintro e w2 ⟨rfl, r2, T2⟩
  have HT2 := hidd (HT1.out.trans T2)
  clear T2 HR1 HT1 hd hn hx
  generalize hX : (x : Int) = X
  have q2 : decide ((4096 : Int) < X) = false := decide_eq_false (by omega)
  have q5 : decide (X < 0) = false := decide_eq_false (by omega)
  have HXX := hidd hX
  clear hx9 hX
  have hE2 := fun m => ends_no (i := i2) (r2.drewN m) hlt
  have h44 : ((s[i2].toNat : Int) == 44) = true := (byte_is hlt hc2 44).trans (by decide)
  have hii : (i2 : Int) < (s.size : Int) := by omega
  have hi3 : (i2 : Int) + 1 = (i3 : Int) := by have := H2.out; have := H3.out; omega
  have hs2 : (i2 : Int) < 100000 := by omega
  obtain ⟨c0, c1, c2, c3, c4, c5⟩ := r2.cells
  have ht2 := r2.thawed
  have HR3 : ∀ m, QR ((w2.drewN m).setCell ⟨b, 1, none⟩ (.int .i64 (i3 : Int))) b s (i3 : Int) v d := fun m => (r2.drewN m).atTo (i3 : Int)
  have HT3 : ∀ m, Touch b b w ((w2.drewN m).setCell ⟨b, 1, none⟩ (.int .i64 (i3 : Int))) := fun m => (HT2.out.drewN m).set1 1 _
  go_wp2_with fail
  go_quiet ((go_at_call 66; exact Calls.quiet_of (hE2 _)))
  clear hE2 h44
  go_wp2_with fail
  have r4 := HR3 nq
  have HT4 := hidd (HT3 nq)
  clear c0 c1 c2 c3 c4 c5 HR3 HT3 HT2 r2 ht2
  generalize (w2.drewN nq).setCell ⟨b, 1, none⟩ (.int .i64 (i3 : Int)) = w4 at *
  have hE4 := fun m => ends_no (i := i3) (r4.drewN m) hl3
  have hD4 : ∀ u : World, Calls Try.prog 79 #[.int .u8 ((s[i3].toNat : Nat) : Int)] u fun e w' => e = .returned (.bool false) ∧ w' = u := fun u => by
    have := rdigit_any s[i3].toNat u
    rw [← at_get hl3, hn3] at this
    rw [← at_get hl3]
    exact this
  obtain ⟨c0, c1, c2, c3, c4, c5⟩ := r4.cells
  have hi3s : (i3 : Int) < (s.size : Int) := by omega
  go_quiet (first | (go_at_call 66; exact Calls.quiet_of (hE4 _)) | (go_at_call 79; exact Calls.quiet_of_same (hD4 _)))
  have r5 := r4.drewN nq
  have HT5 := hidd (HT4.out.drewN nq)
  clear c0 c1 c2 c3 c4 c5 hE4 hD4 HT4 r4
  generalize w4.drewN nq = w5 at *
  -- the closing brace at i3, in world w5, reader r5, all so far HT5
  have hEk := ends_no (i := i3) r5 hl3
  go_wp2_with fail
  refine hEk.mono ?_
  rintro e w8 ⟨rfl, m8, rfl⟩
  have r8 := r5.drewN m8
  have HT8 := hidd (HT5.out.drewN m8)
  clear hEk r5 HT5
  generalize w5.drewN m8 = w8 at *
  obtain ⟨c0, c1, c2, c3, c4, c5⟩ := r8.cells
  have ht8 := r8.thawed
  have hkk : (i3 : Int) < (s.size : Int) := by omega
  have h125 : ((s[i3].toNat : Int) != 125) = false := byte_ne hl3 hc 125 rfl
  have hk1 : (i3 : Int) + 1 = (j : Int) := by have := HJ.out; have := H2.out; have := H3.out; omega
  have hsk : (i3 : Int) < 100000 := by omega
  go_wp2_with fail
  go_quiet (fail)
  clear hc h125
  have R9 : ∀ m, QR ((w8.drewN m).setCell ⟨b, 1, none⟩ (.int .i64 (j : Int))) b s (j : Int) v d := fun m => (r8.drewN m).atTo (j : Int)
  have T9 : ∀ m, Touch b b w ((w8.drewN m).setCell ⟨b, 1, none⟩ (.int .i64 (j : Int))) := fun m => (HT8.out.drewN m).set1 1 _
  go_wp2
  go_ret2
  exact ⟨by rw [HXX.out]; rfl, R9 _, T9 _⟩
set_option maxHeartbeats 2000000 in
theorem bounds_3 {i i1 i2 i3 i4 j x y : Nat} (r : QR w b s i v d) (h1 : i1 = i + 1) (h2 : i2 = i + 2) (h3 : i3 = i + 3) (h4 : i4 = i + 4) (hj : j = i + 5) (hl4 : i4 < s.size) (hs : s.size ≤ 100000) (hd : digitB (at_ (bs s) i1) = true) (hx : at_ (bs s) i1 = x + 48) (hc2 : at_ (bs s) i2 = 44) (hd3 : digitB (at_ (bs s) i3) = true) (hy : at_ (bs s) i3 = y + 48) (hc : at_ (bs s) i4 = 125) (hy1 : 1 ≤ y) (hxy : x ≤ y) :
    Calls Try.prog 93 #[.pointer (some ⟨b, 0, none⟩)] w fun e w' => BndR x y j b s v d w e w' := by
  have hn : digitB (at_ (bs s) i2) = false := by rw [hc2]; rfl
  have hlt : i2 < s.size := by omega
  have hl3 : i3 < s.size := by omega
  have hn4 : digitB (at_ (bs s) i4) = false := by rw [hc]; rfl
  have hy9 : y ≤ 9 := by unfold digitB at hd3; simp at hd3; omega
  have H3 := hidd h3
  have H4 := hidd h4
  clear h3 h4
  have hx9 : x ≤ 9 := by unfold digitB at hd; simp at hd; omega
  obtain ⟨c0, c1, c2, c3, c4, c5⟩ := r.cells
  have ht := r.thawed
  have hi1 : (i : Int) + 1 = (i1 : Int) := by omega
  have hsl : (i : Int) < 100000 := by omega
  have H1 := hidd h1
  have H2 := hidd h2
  have HJ := hidd hj
  clear h1 h2 hj
  have HR1 := hidd (r.atTo (i1 : Int))
  have HT1 := hidd ((Touch.refl b b w).set1 1 (.int .i64 (i1 : Int)))
  go_enter Try.func93, Try.ntmps93
  go_wp2_with fail
  generalize w.setCell ⟨b, 1, none⟩ (.int .i64 (i1 : Int)) = w1 at *
  clear c0 c1 c2 c3 c4 c5 ht
  refine (number_one HR1.out (by have := H1.out; have := H2.out; omega : i2 = i1 + 1) hlt hs hd hn hx).mono ?_
  rintro e w2 ⟨rfl, r2, T2⟩
  have HT2 := hidd (HT1.out.trans T2)
  clear T2 HR1 HT1 hd hn hx
  generalize hX : (x : Int) = X
  have q2 : decide ((4096 : Int) < X) = false := decide_eq_false (by omega)
  have q5 : decide (X < 0) = false := decide_eq_false (by omega)
  have HXX := hidd hX
  have HXY := hidd hxy
  have HY1 := hidd hy1
  have HY9 := hidd hy9
  clear hx9 hX hxy hy1 hy9
  have hE2 := fun m => ends_no (i := i2) (r2.drewN m) hlt
  have h44 : ((s[i2].toNat : Int) == 44) = true := (byte_is hlt hc2 44).trans (by decide)
  have hii : (i2 : Int) < (s.size : Int) := by omega
  have hi3 : (i2 : Int) + 1 = (i3 : Int) := by have := H2.out; have := H3.out; omega
  have hs2 : (i2 : Int) < 100000 := by omega
  obtain ⟨c0, c1, c2, c3, c4, c5⟩ := r2.cells
  have ht2 := r2.thawed
  have HR3 : ∀ m, QR ((w2.drewN m).setCell ⟨b, 1, none⟩ (.int .i64 (i3 : Int))) b s (i3 : Int) v d := fun m => (r2.drewN m).atTo (i3 : Int)
  have HT3 : ∀ m, Touch b b w ((w2.drewN m).setCell ⟨b, 1, none⟩ (.int .i64 (i3 : Int))) := fun m => (HT2.out.drewN m).set1 1 _
  go_wp2_with fail
  go_quiet ((go_at_call 66; exact Calls.quiet_of (hE2 _)))
  clear hE2 h44
  go_wp2_with fail
  have r4 := HR3 nq
  have HT4 := hidd (HT3 nq)
  clear c0 c1 c2 c3 c4 c5 HR3 HT3 HT2 r2 ht2
  generalize (w2.drewN nq).setCell ⟨b, 1, none⟩ (.int .i64 (i3 : Int)) = w4 at *
  have hE4 := fun m => ends_no (i := i3) (r4.drewN m) hl3
  have hD4 : ∀ u : World, Calls Try.prog 79 #[.int .u8 ((s[i3].toNat : Nat) : Int)] u fun e w' => e = .returned (.bool true) ∧ w' = u := fun u => by
    have := rdigit_any s[i3].toNat u
    rw [← at_get hl3, hd3] at this
    rw [← at_get hl3]
    exact this
  obtain ⟨c0, c1, c2, c3, c4, c5⟩ := r4.cells
  have hi3s : (i3 : Int) < (s.size : Int) := by omega
  go_quiet (first | (go_at_call 66; exact Calls.quiet_of (hE4 _)) | (go_at_call 79; exact Calls.quiet_of_same (hD4 _)))
  have r5 := r4.drewN nq
  have HT5 := hidd (HT4.out.drewN nq)
  clear c0 c1 c2 c3 c4 c5 hE4 hD4 HT4 r4
  generalize w4.drewN nq = w5 at *
  go_wp2_with fail
  refine (number_one r5 (by have := H3.out; have := H4.out; omega : i4 = i3 + 1) hl4 hs hd3 hn4 hy).mono ?_
  rintro e w6 ⟨rfl, r6, T6⟩
  have HT6 := hidd (HT5.out.trans T6)
  clear T6 HT5 r5 hd3 hn4 hy
  generalize hY : (y : Int) = Y
  have p1 : (Y == 0) = false := by have := HY1.out; simp; omega
  have p2 : decide ((4096 : Int) < Y) = false := decide_eq_false (by have := HY9.out; omega)
  have p3 : decide ((0 : Int) < Y) = true := decide_eq_true (by have := HY1.out; omega)
  have p4 : decide (Y < X) = false := decide_eq_false (by have := HXY.out; have := HXX.out; omega)
  have p5 : decide (Y < 0) = false := decide_eq_false (by omega)
  have HYY := hidd hY
  clear hY
  -- the closing brace at i4, in world w6, reader r6, all so far HT6
  have hEk := ends_no (i := i4) r6 hl4
  go_wp2_with fail
  refine hEk.mono ?_
  rintro e w8 ⟨rfl, m8, rfl⟩
  have r8 := r6.drewN m8
  have HT8 := hidd (HT6.out.drewN m8)
  clear hEk r6 HT6
  generalize w6.drewN m8 = w8 at *
  obtain ⟨c0, c1, c2, c3, c4, c5⟩ := r8.cells
  have ht8 := r8.thawed
  have hkk : (i4 : Int) < (s.size : Int) := by omega
  have h125 : ((s[i4].toNat : Int) != 125) = false := byte_ne hl4 hc 125 rfl
  have hk1 : (i4 : Int) + 1 = (j : Int) := by have := HJ.out; have := H2.out; have := H4.out; omega
  have hsk : (i4 : Int) < 100000 := by omega
  go_wp2_with fail
  go_quiet (fail)
  clear hc h125
  have R9 : ∀ m, QR ((w8.drewN m).setCell ⟨b, 1, none⟩ (.int .i64 (j : Int))) b s (j : Int) v d := fun m => (r8.drewN m).atTo (j : Int)
  have T9 : ∀ m, Touch b b w ((w8.drewN m).setCell ⟨b, 1, none⟩ (.int .i64 (j : Int))) := fun m => (HT8.out.drewN m).set1 1 _
  go_wp2
  go_ret2
  exact ⟨by rw [HXX.out, HYY.out]; rfl, R9 _, T9 _⟩
set_option maxHeartbeats 400000 in
/-- A byte that stands for itself. -/
theorem one_plain {i j c : Nat} (r : QR w b s i v d) (hj : j = i + 1) (hi : i < s.size) (hs : s.size ≤ 100000) (hc : at_ (bs s) i = c) (h92 : c ≠ 92) :
    Calls Try.prog 100 #[.pointer (some ⟨b, 0, none⟩)] w fun e w' => e = .returned (.int .u8 (c : Int)) ∧ QR w' b s (j : Int) v d ∧ Touch b b w w' := by
  obtain ⟨c0, c1, c2, c3, c4, c5⟩ := r.cells
  have ht := r.thawed
  have hii : (i : Int) < (s.size : Int) := by omega
  have hij : (i : Int) + 1 = (j : Int) := by omega
  have hsi : (i : Int) < 100000 := by omega
  have hv : s[i].toNat = c := by rw [← at_get hi]; exact hc
  have hne : ((c : Int) != 92) = true := by simp; omega
  have R9 : ∀ m, QR ((w.drewN m).setCell ⟨b, 1, none⟩ (.int .i64 (j : Int))) b s (j : Int) v d := fun m => (r.drewN m).atTo (j : Int)
  have T9 : ∀ m, Touch b b w ((w.drewN m).setCell ⟨b, 1, none⟩ (.int .i64 (j : Int))) := fun m => ((Touch.refl b b w).drewN m).set1 1 _
  clear hj hc h92
  go_enter Try.func100, Try.ntmps100
  go_wp2
  go_quiet (fail)
  go_wp2
  go_ret
  exact ⟨rfl, R9 _, T9 _⟩
abbrev spcA : ByteArray := { data := #[124, 42, 43, 63, 123, 125, 40, 41, 91, 93, 46, 92, 47, 36, 94, 34] }
set_option maxHeartbeats 1000000 in
/-- A byte that is none of those that must be escaped. -/
theorem in_no {c : Nat} (h : specialB c = false) (w : World) : Calls Try.prog 98 #[.int .u8 (c : Int), .string spcA] w fun e w' => e = .returned (.bool false) ∧ w' = w := by
  have hne : ∀ k, k < 16 → ((spcA[k]!).toNat : Int) ≠ (c : Int) := fun k hk e => by
    have h2 : ∀ k, k < 16 → specialB (spcA[k]!).toNat = true := by decide
    have h3 := h2 k hk
    have e2 : (spcA[k]!).toNat = c := by omega
    rw [e2, h] at h3
    cases h3
  go_enter Try.func98, Try.ntmps98
  go_wp2
  go_loopw [5] (fun s5 wr => ∃ k : Nat, s5 = .int .i64 (k : Int) ∧ k ≤ 16 ∧ wr = w) (fun s5 _ => 16 - (intOf s5).toNat)
  case atStart => exact ⟨0, rfl, Nat.zero_le _, rfl⟩
  case round =>
    obtain ⟨k, rfl, hk, rfl⟩ := hrel
    by_cases hlt : k < 16
    · have hki : (k : Int) < 16 := by omega
      have hkl : k < spcA.size := hlt
      have hx : ((spcA[k].toNat : Int) == (c : Int)) = false := by
        have := hne k hlt
        rw [getElem!_pos spcA k hkl] at this
        simpa using this
      clear hne
      go_wp2
      exact ⟨⟨k + 1, rfl, by omega, by first | trivial | rfl⟩, by simp [intOf]; omega⟩
    · have hke : k = 16 := by omega
      subst hke
      go_wp2
      go_ret
      exact ⟨rfl, rfl⟩
theorem special_any (w : World) : Calls Try.prog 99 #[] w fun e w' => e = .returned (.string spcA) ∧ w' = w := by
  go_enter Try.func99, Try.ntmps99
  go_wp2
  go_ret
  exact ⟨rfl, rfl⟩
end
end Go.Proofs.Ytahhiajliomcfaa.Sy.Rf

/- The reference's class of two letters. -/
import Derived.Test.YtahhiajliomcfaaPHi
namespace Go.Proofs.Ytahhiajliomcfaa.Sy.Rf
open Go.RowKit
set_option maxRecDepth 100000
set_option linter.unusedVariables false
section
variable {w w' : World} {b : Nat} {s : ByteArray} {v : Value} {d : Int} {l : List NR}

theorem set_some {p : Nat → Bool} {x : Nat} (h : x < 256) (hp : p x = true) : eqB p noB = false := by
  cases q : eqB p noB with
  | false => rfl
  | true =>
    unfold eqB at q
    rw [decide_eq_true_eq] at q
    have h1 : W p (x / 64) = W noB (x / 64) := by
      have : x / 64 < 4 := by omega
      match h : x / 64, this with
      | 0, _ => exact q.1
      | 1, _ => exact q.2.1
      | 2, _ => exact q.2.2.1
      | 3, _ => exact q.2.2.2
    have h3 := W_inj h1 (x % 64) (by omega)
    rw [show 64 * (x / 64) + x % 64 = x from by omega, hp] at h3
    cases h3
/-- The sets so far: none, the first, both. -/
def Cl2R (w : World) (b : Nat) (s : ByteArray) (v : Value) (d : Int) (i1 i2 i3 : Nat) (p q : Nat → Bool) (s4 : Value) (wr : World) : Prop :=
  Touch b b w wr ∧ ((∃ g, s4 = .slice (some ⟨g, 0, none⟩) 0 0 ∧ QR wr b s (i1 : Int) v d ∧ wr.ownsRow w.heap.size 40 4 s4 0 []) ∨ (∃ g c, s4 = .slice (some ⟨g, 0, none⟩) 1 c ∧ QR wr b s (i2 : Int) v d ∧ wr.ownsRow w.heap.size 40 4 s4 1 (sw p)) ∨ (∃ g c, s4 = .slice (some ⟨g, 0, none⟩) 2 c ∧ QR wr b s (i3 : Int) v d ∧ wr.ownsRow w.heap.size 40 4 s4 2 (sw p ++ sw q)))
theorem cl_b {a b c : Prop} (h : b) : a ∨ b ∨ c := .inr (.inl h)
theorem cl_c {a b c : Prop} (h : c) : a ∨ b ∨ c := .inr (.inr h)
structure Cl2At (s : ByteArray) (i : Nat) : Prop where
  lt : i + 3 < s.size
  a : specialB (at_ (bs s) (i + 1)) = false
  a45 : at_ (bs s) (i + 1) ≠ 45
  b : specialB (at_ (bs s) (i + 2)) = false
  b45 : at_ (bs s) (i + 2) ≠ 45
  shut : at_ (bs s) (i + 3) = 93
set_option maxHeartbeats 4000000 in
theorem class_two {i i1 i2 i3 i4 lo hi : Nat} (p : QS w b s (i : Int) d v l) (h1 : i1 = i + 1) (h2 : i2 = i + 2) (h3 : i3 = i + 3) (h4 : i4 = i + 4) (hC : Cl2At s i) (hlo : at_ (bs s) i1 = lo) (hhi : at_ (bs s) i2 = hi) (hs : s.size ≤ 100000) (hl : l.length ≤ 100000) :
    Calls Try.prog 95 #[.pointer (some ⟨b, 0, none⟩)] w fun e w' => e = .returned (.int .i64 (l.length : Int)) ∧ ∃ v', QS w' b s (i4 : Int) d v' (l ++ [(setG (anyB [rngB lo ((lo : Int) + 1), rngB hi ((hi : Int) + 1)]), none, 0)]) ∧ Fr b v v' w w' := by
  obtain ⟨i0, hi0, hz0, hz1, hz2⟩ := info_parts set_info
  have hlt := hC.lt
  have h12 : i1 < s.size := by omega
  have h22 : i2 < s.size := by omega
  have h32 : i3 < s.size := by omega
  have ha := hC.a
  have ha45 := hC.a45
  have hb0 := hC.b
  have hb45 := hC.b45
  rw [← h1] at ha ha45
  rw [← h2] at hb0 hb45
  rw [hlo] at ha ha45
  rw [hhi] at hb0 hb45
  have lo255 : lo ≤ 255 := by have := at_lt (bs_lt s) i1; omega
  have hi255 : hi ≤ 255 := by have := at_lt (bs_lt s) i2; omega
  have hv1 : s[i1].toNat = lo := by rw [← at_get h12]; exact hlo
  have hv2 : s[i2].toNat = hi := by rw [← at_get h22]; exact hhi
  have hv3 : s[i3].toNat = 93 := by rw [← at_get h32, h3]; exact hC.shut
  have n94 : ((lo : Int) == 94) = false := by
    have : lo ≠ 94 := fun e => by rw [e] at ha; cases ha
    simp; omega
  have n45 : ((hi : Int) == 45) = false := by simp; omega
  have n93 : ((hi : Int) != 93) = true := by
    have : hi ≠ 93 := fun e => by rw [e] at hb0; cases hb0
    simp; omega
  have hmem1 : ∀ (u : World), QR u b s (i1 : Int) v d → Calls Try.prog 102 #[.pointer (some ⟨b, 0, none⟩)] u fun e w' => e = .returned (.int .u8 (lo : Int)) ∧ QR w' b s (i2 : Int) v d ∧ Touch b b u w' := fun u r => member_plain r (by omega) h12 hs hlo ha ha45
  have hmem2 : ∀ (u : World), QR u b s (i2 : Int) v d → Calls Try.prog 102 #[.pointer (some ⟨b, 0, none⟩)] u fun e w' => e = .returned (.int .u8 (hi : Int)) ∧ QR w' b s (i3 : Int) v d ∧ Touch b b u w' := fun u r => member_plain r (by omega) h22 hs hhi hb0 hb45
  have HM1 := hidd hmem1
  have HM2 := hidd hmem2
  have hii : (i : Int) + 1 = (i1 : Int) := by omega
  have hi34 : (i3 : Int) + 1 = (i4 : Int) := by omega
  have HRS : Hid (eqB (anyB [rngB lo ((lo : Int) + 1), rngB hi ((hi : Int) + 1)]) noB = false) := set_some (x := lo) (by omega) (by simp [anyB, rngB]; omega)
  have HRG1 : Hid (∀ u : World, Calls Try.prog 103 #[.int .u8 (lo : Int), .int .u8 (lo : Int)] u fun e w' => e = .returned (.agg #[.int .u64 (W (rngB (lo : Int) ((lo : Int) + 1)) 0), .int .u64 (W (rngB (lo : Int) ((lo : Int) + 1)) 1), .int .u64 (W (rngB (lo : Int) ((lo : Int) + 1)) 2), .int .u64 (W (rngB (lo : Int) ((lo : Int) + 1)) 3)]) ∧ Below u.heap.size u w') := fun u => rrange_any (lo : Int) (lo : Int) u (by omega) (by omega) (by omega) (by omega)
  have HRG2 : Hid (∀ u : World, Calls Try.prog 103 #[.int .u8 (hi : Int), .int .u8 (hi : Int)] u fun e w' => e = .returned (.agg #[.int .u64 (W (rngB (hi : Int) ((hi : Int) + 1)) 0), .int .u64 (W (rngB (hi : Int) ((hi : Int) + 1)) 1), .int .u64 (W (rngB (hi : Int) ((hi : Int) + 1)) 2), .int .u64 (W (rngB (hi : Int) ((hi : Int) + 1)) 3)]) ∧ Below u.heap.size u w') := fun u => rrange_any (hi : Int) (hi : Int) u (by omega) (by omega) (by omega) (by omega)
  have hll : ¬ ((lo : Int) < (lo : Int)) := by omega
  have hhh : ¬ ((hi : Int) < (hi : Int)) := by omega
  generalize rngB (lo : Int) ((lo : Int) + 1) = p1 at *
  generalize rngB (hi : Int) ((hi : Int) + 1) = q1 at *
  have h23 : i2 < i3 := by omega
  clear hmem1 hmem2 h1 h2 h3 h4 hC hlo hhi ha ha45 hb0 hb45
  have HP := hidd p
  obtain ⟨c0, c1, c2, c3, c4, c5⟩ := p.pr.cells
  have hth := p.pr.thawed
  have R1 := p.pr.atTo (i1 : Int)
  have T1 := (Touch.refl b b w).set1 1 (.int .i64 (i1 : Int))
  have hbl := p.pr.lt
  clear p
  go_enter Try.func95, Try.ntmps95
  go_upto_region 2 with fail
  generalize w.setCell ⟨b, 1, none⟩ (.int .i64 (i1 : Int)) = w1 at *
  clear c0 c1 c2 c3 c4 c5 hth
  obtain ⟨c0, c1, c2, c3, c4, c5⟩ := R1.cells
  have hE := fun m => ends_no (i := i1) (R1.drewN m) h12
  have hi1s : (i1 : Int) < (s.size : Int) := by omega
  go_wp2_with fail
  go_quiet ((go_at_call 66; exact Calls.quiet_of (hE _)))
  have R2 := R1.drewN nq
  have T2 := T1.drewN nq
  clear c0 c1 c2 c3 c4 c5 hE R1 T1
  generalize w1.drewN nq = w2 at *
  have hsz2 := T2.size
  have HS0 : Hid (Cl2R w b s v d i1 i2 i3 p1 q1 (.slice (some ⟨w2.heap.size, 0, none⟩) 0 0) (w2.alloc (.cells #[] 40))) :=
    ⟨T2.alloc _, .inl ⟨_, rfl, R2.alloc _, ⟨rfl, .inr ⟨w2.heap.size, 0, #[], rfl, hsz2, heap_new w2 _, Nat.le_refl _, Nat.zero_le _, rfl, rfl⟩⟩⟩⟩
  clear R2 T2
  go_wp2
  go_loopw [4] (fun s4 wr => Cl2R w b s v d i1 i2 i3 p1 q1 s4 wr) (fun s4 _ => match s4 with | .slice _ n _ => 2 - n | _ => 0)
  case atStart => exact HS0.out
  case round =>
    clear HS0
    obtain ⟨T3, h | h | h⟩ := hrel
    · obtain ⟨g, rfl, R3, o3⟩ := h
      obtain ⟨c0, c1, c2, c3, c4, c5⟩ := R3.cells
      go_wp2_with fail
      go_quiet (fail)
      have R4 := R3.drewN nq
      have T4 := T3.drewN nq
      have HO4 : Hid ((wr.drewN nq).ownsRow w.heap.size 40 4 (.slice (some ⟨g, 0, none⟩) 0 0) 0 []) := o3
      clear c0 c1 c2 c3 c4 c5 R3 T3 o3
      generalize wr.drewN nq = w4 at *
      have hi2s : (i2 : Int) < (s.size : Int) := by omega
      go_wp2_with fail
      refine (HM1.out _ R4).mono ?_
      rintro e w5 ⟨rfl, R5, T5⟩
      have HO5 := hidd (own_touch HO4.out T5 hbl)
      have T5' := T4.trans T5
      clear HO4 T4 T5 R4
      obtain ⟨c0, c1, c2, c3, c4, c5⟩ := R5.cells
      have hE := fun m => ends_no (i := i2) (R5.drewN m) h22
      go_wp2_with fail
      go_quiet ((go_at_call 66; exact Calls.quiet_of (hE _)))
      have R7 := R5.drewN nq
      have T7' := T5'.drewN nq
      have HO7 : Hid ((w5.drewN nq).ownsRow w.heap.size 40 4 (.slice (some ⟨g, 0, none⟩) 0 0) 0 []) := HO5.out
      clear c0 c1 c2 c3 c4 c5 hE R5 T5' HO5
      generalize w5.drewN nq = w8 at *
      go_wp2_with fail
      refine (HRG1.out _).mono ?_
      rintro e w9 ⟨rfl, b9⟩
      have HO9 := hidd (own_below HO7.out b9 (Nat.le_refl _))
      have R9 := R7.below b9 R7.lt
      have T9 := T7'.below b9
      clear HO7 b9 R7 T7'
      have hown := HO9.out.alloc (.cells #[.int .u64 (W p1 0), .int .u64 (W p1 1), .int .u64 (W p1 2), .int .u64 (W p1 3)] 40)
      have hnews : ∀ j u, (sw p1)[j]? = some u → (w9.alloc (.cells #[.int .u64 (W p1 0), .int .u64 (W p1 1), .int .u64 (W p1 2), .int .u64 (W p1 3)] 40)).cell? ((⟨w9.heap.size, 0, none⟩ : Addr).add j) = some u := World.news_of_block (RowA.new w9 40 #[.int .u64 (W p1 0), .int .u64 (W p1 1), .int .u64 (W p1 2), .int .u64 (W p1 3)])
      have hH : (w9.alloc (.cells #[.int .u64 (W p1 0), .int .u64 (W p1 1), .int .u64 (W p1 2), .int .u64 (W p1 3)] 40)).heap.size = w9.heap.size + 1 := World.size_alloc ..
      have hbase : w.heap.size ≤ (w9.alloc (.cells #[.int .u64 (W p1 0), .int .u64 (W p1 1), .int .u64 (W p1 2), .int .u64 (W p1 3)] 40)).heap.size := by have := T9.size; rw [hH]; omega
      have R10 := R9.alloc (.cells #[.int .u64 (W p1 0), .int .u64 (W p1 1), .int .u64 (W p1 2), .int .u64 (W p1 3)] 40)
      have T10 := T9.alloc (.cells #[.int .u64 (W p1 0), .int .u64 (W p1 1), .int .u64 (W p1 2), .int .u64 (W p1 3)] 40)
      clear HO9 R9 T9
      go_wp2_with (at_builtin; refine wpList_append_lies _ rfl _ _ _ rfl w.heap.size 40 i0 (.agg #[.int .u64 0, .int .u64 0, .int .u64 0, .int .u64 0]) 4 32 Try.underlying129 hi0 hz0 hz1 hz2 rfl (by omega) _ 0 [] rfl hown ⟨w9.heap.size, 0, none⟩ 1 1 (sw p1) rfl rfl hnews (by simp [sw, Value.oneCell']) (by omega) (by simp [maxLen]) (by omega) hbase (w9.heap.size + 1) hH ?_; intro gg cap w11 hown11 hgrow hat hlt11; refine Hid.out ?_)
      have HREL : Hid (Cl2R w b s v d i1 i2 i3 p1 q1 (.slice (some ⟨gg, 0, none⟩) (0 + 1) cap) w11) :=
        ⟨touch_row T10 hgrow (fun k hk => (hown.lt k hk).1), cl_b ⟨gg, cap, rfl, qr_row R10 hgrow (fun e => by have := (hown.lt b e).1; omega), hown11⟩⟩
      clear hown11 hgrow hat hlt11 hown hnews hH hbase R10 T10
      refine Lib.hid ?_
      go_wp2
      exact ⟨HREL.out, by simp⟩
    · obtain ⟨g, cc, rfl, R3, o3⟩ := h
      obtain ⟨c0, c1, c2, c3, c4, c5⟩ := R3.cells
      have hE := fun m => ends_no (i := i2) (R3.drewN m) h22
      have hi2s : (i2 : Int) < (s.size : Int) := by omega
      go_wp2_with fail
      go_quiet ((go_at_call 66; exact Calls.quiet_of (hE _)))
      have R4 := R3.drewN nq
      have T4 := T3.drewN nq
      have HO4 : Hid ((wr.drewN nq).ownsRow w.heap.size 40 4 (.slice (some ⟨g, 0, none⟩) 1 cc) 1 (sw p1)) := o3
      clear c0 c1 c2 c3 c4 c5 R3 T3 o3 hE
      generalize wr.drewN nq = w4 at *
      have hi3s : (i3 : Int) < (s.size : Int) := by omega
      go_wp2_with fail
      refine (HM2.out _ R4).mono ?_
      rintro e w5 ⟨rfl, R5, T5⟩
      have HO5 := hidd (own_touch HO4.out T5 hbl)
      have T5' := T4.trans T5
      clear HO4 T4 T5 R4
      obtain ⟨c0, c1, c2, c3, c4, c5⟩ := R5.cells
      have hE := fun m => ends_no (i := i3) (R5.drewN m) h32
      go_wp2_with fail
      go_quiet ((go_at_call 66; exact Calls.quiet_of (hE _)))
      have R7 := R5.drewN nq
      have T7' := T5'.drewN nq
      have HO7 : Hid ((w5.drewN nq).ownsRow w.heap.size 40 4 (.slice (some ⟨g, 0, none⟩) 1 cc) 1 (sw p1)) := HO5.out
      clear c0 c1 c2 c3 c4 c5 hE R5 T5' HO5
      generalize w5.drewN nq = w8 at *
      go_wp2_with fail
      refine (HRG2.out _).mono ?_
      rintro e w9 ⟨rfl, b9⟩
      have HO9 := hidd (own_below HO7.out b9 (Nat.le_refl _))
      have R9 := R7.below b9 R7.lt
      have T9 := T7'.below b9
      clear HO7 b9 R7 T7'
      have hown := HO9.out.alloc (.cells #[.int .u64 (W q1 0), .int .u64 (W q1 1), .int .u64 (W q1 2), .int .u64 (W q1 3)] 40)
      have hnews : ∀ j u, (sw q1)[j]? = some u → (w9.alloc (.cells #[.int .u64 (W q1 0), .int .u64 (W q1 1), .int .u64 (W q1 2), .int .u64 (W q1 3)] 40)).cell? ((⟨w9.heap.size, 0, none⟩ : Addr).add j) = some u := World.news_of_block (RowA.new w9 40 #[.int .u64 (W q1 0), .int .u64 (W q1 1), .int .u64 (W q1 2), .int .u64 (W q1 3)])
      have hH : (w9.alloc (.cells #[.int .u64 (W q1 0), .int .u64 (W q1 1), .int .u64 (W q1 2), .int .u64 (W q1 3)] 40)).heap.size = w9.heap.size + 1 := World.size_alloc ..
      have hbase : w.heap.size ≤ (w9.alloc (.cells #[.int .u64 (W q1 0), .int .u64 (W q1 1), .int .u64 (W q1 2), .int .u64 (W q1 3)] 40)).heap.size := by have := T9.size; rw [hH]; omega
      have R10 := R9.alloc (.cells #[.int .u64 (W q1 0), .int .u64 (W q1 1), .int .u64 (W q1 2), .int .u64 (W q1 3)] 40)
      have T10 := T9.alloc (.cells #[.int .u64 (W q1 0), .int .u64 (W q1 1), .int .u64 (W q1 2), .int .u64 (W q1 3)] 40)
      clear HO9 R9 T9
      go_wp2_with (at_builtin; refine wpList_append_lies _ rfl _ _ _ rfl w.heap.size 40 i0 (.agg #[.int .u64 0, .int .u64 0, .int .u64 0, .int .u64 0]) 4 32 Try.underlying129 hi0 hz0 hz1 hz2 rfl (by omega) _ 1 (sw p1) rfl hown ⟨w9.heap.size, 0, none⟩ 1 1 (sw q1) rfl rfl hnews (by simp [sw, Value.oneCell']) (by omega) (by simp [maxLen]) (by omega) hbase (w9.heap.size + 1) hH ?_; intro gg cap w11 hown11 hgrow hat hlt11; refine Hid.out ?_)
      have HREL : Hid (Cl2R w b s v d i1 i2 i3 p1 q1 (.slice (some ⟨gg, 0, none⟩) (1 + 1) cap) w11) :=
        ⟨touch_row T10 hgrow (fun k hk => (hown.lt k hk).1), cl_c ⟨gg, cap, rfl, qr_row R10 hgrow (fun e => by have := (hown.lt b e).1; omega), hown11⟩⟩
      clear hown11 hgrow hat hlt11 hown hnews hH hbase R10 T10
      refine Lib.hid ?_
      go_wp2
      exact ⟨HREL.out, by simp⟩
    · obtain ⟨g, cc, rfl, R3, o3⟩ := h
      obtain ⟨c0, c1, c2, c3, c4, c5⟩ := R3.cells
      have hE := fun m => ends_no (i := i3) (R3.drewN m) h32
      have hi3s : (i3 : Int) < (s.size : Int) := by omega
      go_wp2_with fail
      go_quiet ((go_at_call 66; exact Calls.quiet_of (hE _)))
      have R4 := R3.drewN nq
      have T4 := T3.drewN nq
      have HO4 : Hid ((wr.drewN nq).ownsRow w.heap.size 40 4 (.slice (some ⟨g, 0, none⟩) 2 cc) 2 (sw p1 ++ sw q1)) := o3
      clear c0 c1 c2 c3 c4 c5 R3 T3 o3 hE
      generalize wr.drewN nq = w4 at *
      obtain ⟨c0, c1, c2, c3, c4, c5⟩ := R4.cells
      obtain ⟨A5, c5', e5, hst⟩ := Sts.of_own (ps := [p1, q1]) HO4.out
      cases e5
      have hor := ror_any (some ⟨g, 0, none⟩) cc [p1, q1] w4 hst (by simp)
      clear hst HO4
      go_wp2_with fail
      refine hor.mono ?_
      rintro e w5 ⟨rfl, b5⟩
      have R5 := R4.below b5 R4.lt
      have T5 := T4.below b5
      clear hor b5 R4 T4 c0 c1 c2 c3 c4 c5
      have heq : ∀ u, (binOp .eql 40 (.agg #[.int .u64 (W (anyB [p1, q1]) 0), .int .u64 (W (anyB [p1, q1]) 1), .int .u64 (W (anyB [p1, q1]) 2), .int .u64 (W (anyB [p1, q1]) 3)]) (.agg #[.int .u64 (W (noB) 0), .int .u64 (W (noB) 1), .int .u64 (W (noB) 2), .int .u64 (W (noB) 3)])).run Try.prog u = .ok (.bool false) u := fun u => by rw [set_eql, HRS.out]
      rw [W_zero, W_zero, W_zero, W_zero] at heq
      generalize hz : anyB [p1, q1] = z at *
      have HZ := hidd hz
      clear hz
      have R6 := (R5.atTo (i4 : Int)).alloc (.cells #[.int .u64 (W z 0), .int .u64 (W z 1), .int .u64 (W z 2), .int .u64 (W z 3)] 40)
      have T6 := (T5.set1 1 (.int .i64 (i4 : Int))).alloc (.cells #[.int .u64 (W z 0), .int .u64 (W z 1), .int .u64 (W z 2), .int .u64 (W z 3)] 40)
      have p6 := HP.out.read T6 R6
      have f6 := Fr.of T6 v
      have ha := Ad.add_any p6 (setG z) none 0 (fun h => absurd rfl h) hl
      unfold gdL setG at ha
      have HA := hidd ha
      have HF6 := hidd f6
      have Z6 := Row4.new w5 z
      have hbz : b < w5.heap.size := R5.lt
      obtain ⟨c0, c1, c2, c3, c4, c5⟩ := R5.cells
      have hth := R5.thawed
      clear T5 R6 T6 p6 f6 ha Z6
      go_wp2_with fail
      refine HA.out.mono ?_
      rintro e w8 ⟨rfl, v8, p8, f8⟩
      have HP8 := hidd p8
      have HF8 := hidd (HF6.out.trans f8)
      clear HA p8 f8 HF6 c0 c1 c2 c3 c4 c5 hth
      go_wp2
      go_ret
      exact ⟨rfl, v8, by rw [HZ.out]; exact HP8.out, HF8.out⟩
end
end Go.Proofs.Ytahhiajliomcfaa.Sy.Rf

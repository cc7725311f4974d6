/- split as it landed: cut. -/
import Derived.Test.YtlfbjnmehdifeaaYc
namespace Go.Proofs.Ytlfbjnmehdifeaa
open Go.RowKit

theorem nums_zero_info : (Try.prog.info? 53).map (·.zero) = some (some (.agg (fnC 512 fun _ => .int .i64 0))) := by kernel_rfl
theorem nums_zero (w : World) : (zeroValue 53).run Try.prog w = .ok (.agg (fnC 512 fun _ => .int .i64 0)) w := by
  have h := nums_zero_info
  cases hi : Try.prog.info? 53 with
  | none => rw [hi] at h; cases h
  | some i =>
    rw [hi] at h
    have hz : i.zero = some (.agg (fnC 512 fun _ => .int .i64 0)) := by simpa using h
    simp [zeroValue, typeInfo, hi, hz]

/-- The number behind one byte more. -/
def numC (L : Nat → Nat → Bool) (p : Nat → Bool) (b i : Nat) : Value := .int .i64 (num L p (i / 2) (decide (i % 2 = 1)) b)
theorem numC_step (L : Nat → Nat → Bool) (p : Nat → Bool) (b c k : Nat) (q : Bool) (hc : clsOf L b = c) (hq : p b = q) (hk : k = c * 2 + q.toNat) (i : Nat) :
    (if i = k then Value.int .i64 ((clsOf (cutL L p) b : Int) + 1) else numC L p b i) = numC L p (b + 1) i := by
  unfold numC
  rw [num]
  by_cases h : i = k
  · subst h
    have h1 : clsOf L b = i / 2 := by cases q <;> simp at hk <;> omega
    have h2 : p b = decide (i % 2 = 1) := by
      rw [hq]; cases q <;> simp at hk <;> simp <;> omega
    rw [if_pos rfl, if_pos ⟨h1, h2⟩]
  · rw [if_neg h, if_neg]
    rintro ⟨h1, h2⟩
    apply h
    rw [hq] at h2
    cases q
    · have : ¬ i % 2 = 1 := by simpa using h2.symm
      simp at hk
      omega
    · have : i % 2 = 1 := by simpa using h2.symm
      simp at hk
      omega
theorem numC_at (L : Nat → Nat → Bool) (p : Nat → Bool) (b c k : Nat) (q : Bool) (hc : clsOf L b = c) (hq : p b = q) (hk : k = c * 2 + q.toNat) : numC L p b k = .int .i64 (num L p (clsOf L b) (p b) b) := by
  unfold numC
  have h1 : k / 2 = clsOf L b := by cases q <;> simp at hk <;> omega
  have h2 : decide (k % 2 = 1) = p b := by
    rw [hq]; cases q <;> simp at hk <;> simp <;> omega
  rw [h1, h2]
theorem numC_zero (L : Nat → Nat → Bool) (p : Nat → Bool) (i : Nat) : numC L p 0 i = .int .i64 0 := rfl

/-- The classes so far. -/
def soFar (L : Nat → Nat → Bool) (b i : Nat) : Int := if i < b then (clsOf L i : Int) else 0
theorem soFar_step (L : Nat → Nat → Bool) (b : Nat) (x : Int) (hx : (clsOf L b : Int) = x) (i : Nat) : (if i = b then x else soFar L b i) = soFar L (b + 1) i := by
  unfold soFar
  by_cases h1 : i = b
  · subst h1; rw [if_pos rfl, if_pos (by omega), hx]
  · rw [if_neg h1]
    by_cases h2 : i < b
    · rw [if_pos h2, if_pos (by omega)]
    · rw [if_neg h2, if_neg (by omega)]


set_option maxRecDepth 100000 in
set_option maxHeartbeats 2000000 in
theorem cut_any (L : Nat → Nat → Bool) (E : Eqv L) (p : Nat → Bool) (m : Int) (w : World) :
    Calls Try.prog 27 #[.agg (spC (fun b => (clsOf L b : Int)) m), .agg #[.int .u64 (W (p) 0), .int .u64 (W (p) 1), .int .u64 (W (p) 2), .int .u64 (W (p) 3)]] w fun e w' => e = .returned (.agg (spC (fun b => (clsOf (cutL L p) b : Int)) (frsts (cutL L p) 256).length)) ∧ Below w.heap.size w w' := by
  go_enter Try.func27, Try.ntmps27
  have hz := split_zero
  have hz2 := nums_zero
  generalize hcf : (fun b => (clsOf L b : Int)) = f
  have Z0 := ((((RowS.new w f m).alloc (.cells (#[.int .u64 (W (p) 0), .int .u64 (W (p) 1), .int .u64 (W (p) 2), .int .u64 (W (p) 3)]) 33)).alloc (.cells (spC (fun _ => 0) 0) 26)).alloc (.cells (spC (fun _ => 0) 0) 26)).alloc (.cells (fnC 512 fun _ => .int .i64 0) 53)
  go_wp2_with (refine wpList_load_mid rfl 24 (.tmp 10) rfl w.heap.size 0 rfl (clsC f) _ Z0.range Try.underlying24 rfl (cls_info f) ?_)
  go_loopw [12] (fun i wr => ∃ b : Nat, b ≤ 256 ∧ i = .int .i64 b ∧ Row4 wr (w.heap.size + 1) p ∧ RowS wr (w.heap.size + 2) (fun _ => 0) 0 ∧ RowS wr (w.heap.size + 3) (soFar (cutL L p) b) (frsts (cutL L p) b).length ∧
    RowF wr (w.heap.size + 4) 53 512 (numC L p b) ∧ Below w.heap.size w wr) (fun i _ => 256 - (intOf i).toNat)
  case atStart =>
    have R1 := ((((Row4.new (w.alloc (.cells (spC f m) 26)) p).alloc (.cells (spC (fun _ => 0) 0) 26)).alloc (.cells (spC (fun _ => 0) 0) 26)).alloc (.cells (fnC 512 fun _ => .int .i64 0) 53))
    have R2 := ((RowS.new ((w.alloc (.cells (spC f m) 26)).alloc (.cells (#[.int .u64 (W (p) 0), .int .u64 (W (p) 1), .int .u64 (W (p) 2), .int .u64 (W (p) 3)]) 33)) (fun _ => 0) 0).alloc (.cells (spC (fun _ => 0) 0) 26)).alloc (.cells (fnC 512 fun _ => .int .i64 0) 53)
    have R3 := (RowS.new (((w.alloc (.cells (spC f m) 26)).alloc (.cells (#[.int .u64 (W (p) 0), .int .u64 (W (p) 1), .int .u64 (W (p) 2), .int .u64 (W (p) 3)]) 33)).alloc (.cells (spC (fun _ => 0) 0) 26)) (fun _ => 0) 0).alloc (.cells (fnC 512 fun _ => .int .i64 0) 53)
    have R4 := RowF.new ((((w.alloc (.cells (spC f m) 26)).alloc (.cells (#[.int .u64 (W (p) 0), .int .u64 (W (p) 1), .int .u64 (W (p) 2), .int .u64 (W (p) 3)]) 33)).alloc (.cells (spC (fun _ => 0) 0) 26)).alloc (.cells (spC (fun _ => 0) 0) 26)) 53 512 (fun _ => .int .i64 0)
    simp only [World.size_alloc] at R1 R2 R3 R4
    exact ⟨0, Nat.zero_le _, rfl, R1, R2, R3.congr (fun i _ => by simp [soFar]), R4.congr (fun i _ => (numC_zero L p i).symm),
      (((((Below.refl _ _).alloc (Nat.le_refl _) _).alloc (by simp) _).alloc (by simp; omega) _).alloc (by simp; omega) _).alloc (by simp; omega) _⟩
  case round =>
    obtain ⟨b, hb0, rfl, R1, R2, R3, R4, hb⟩ := hrel
    by_cases hlt : b < 256
    · have hix := cls_index f b hlt
      have hfb : f b = (clsOf L b : Int) := by rw [← hcf]
      have hcb : clsOf L b ≤ b := Nat.le_trans (cls_le L b) (frsts_len L b)
      have hCb : clsOf (cutL L p) b ≤ b := Nat.le_trans (cls_le _ b) (frsts_len _ b)
      have hFb := frsts_len (cutL L p) b
      rw [hfb] at hix
      have HNew := hidd (num_new (p := p) E b)
      have HOldN := hidd (num_old (p := p) E b)
      have HSo := hidd (soFar_step (cutL L p) b (clsOf (cutL L p) b : Int) rfl)
      have HOld := hidd (frsts_old (cutL L p) b)
      have HNw := hidd (frsts_new (cutL L p) b)
      have HStep : Hid (∀ (k : Nat) (q : Bool), p b = q → k = clsOf L b * 2 + q.toNat → ∀ i, (if i = k then Value.int .i64 ((clsOf (cutL L p) b : Int) + 1) else numC L p b i) = numC L p (b + 1) i) := fun k q hq hk => numC_step L p b _ k q rfl hq hk
      have HAt : Hid (∀ (k : Nat) (q : Bool), p b = q → k = clsOf L b * 2 + q.toNat → numC L p b k = .int .i64 (num L p (clsOf L b) (p b) b)) := fun k q hq hk => numC_at L p b _ k q rfl hq hk
      generalize clsOf L b = c at *
      generalize clsOf (cutL L p) b = C at *
      obtain ⟨c0, c1, c2, c3⟩ := R1.cells
      have hb3 : (b : Int) < 256 := by omega
      have hc3 : (c : Int) < 256 := by omega
      go_wp2_with fail
      refine (has_any p (b : Int) _ (by omega) (by omega)).mono ?_
      rintro e w1 ⟨rfl, hb1⟩
      rw [Int.toNat_natCast]
      have S1 := R1.below hb1 R1.lt
      have S2 := R2.below hb1 R2.lt
      have S3 := R3.below hb1 R3.lt
      have S4 := R4.below hb1 R4.lt
      have hbb := hb.trans (hb1.mono hb.size)
      clear R1 R2 R3 R4 hb hb1 c0 c1 c2 c3
      cases hp : p b with
      | true =>
        rw [hp] at HNew HOldN HAt HStep
        have HA : Hid (∀ k, k = c * 2 + 1 → numC L p b k = .int .i64 (num L p c true b)) := fun k hk => HAt.out k true rfl hk
        have HSt : Hid (∀ k, k = c * 2 + 1 → ∀ i, (if i = k then Value.int .i64 ((C : Int) + 1) else numC L p b i) = numC L p (b + 1) i) := fun k hk => HStep.out k true rfl hk
        clear HAt HStep hp
        by_cases HZ : num L p c true b = 0
        · skip
          have hc0 := S4.at_ (c * 2 + 1) (by omega)
          rw [HA.out (c * 2 + 1) (by simp), HZ] at hc0
          have HCC := hidd (HNew.out HZ)
          have HZZ := hidd HZ
          clear HZ
          have hth3 := S3.thawed
          have hm3 := S3.many
          go_wp2
          have T1 := S1.far (a := ⟨w.heap.size + 3, 256, none⟩) (by simp) (.int .i64 (((frsts (cutL L p) b).length : Int) + 1))
          have T2 := S2.far (a := ⟨w.heap.size + 3, 256, none⟩) (by simp) (.int .i64 (((frsts (cutL L p) b).length : Int) + 1))
          have T3 := S3.putMany (((frsts (cutL L p) b).length : Int) + 1)
          have T4 := S4.far (a := ⟨w.heap.size + 3, 256, none⟩) (by simp) (.int .i64 (((frsts (cutL L p) b).length : Int) + 1))
          have hb2 := hbb.setCell (p := ⟨w.heap.size + 3, 256, none⟩) (by simp) (.int .i64 (((frsts (cutL L p) b).length : Int) + 1))
          have hc4 := T4.at_ (c * 2 + 1) (by omega)
          clear S1 S2 S3 S4 hbb hth3 hm3 hc0
          generalize w1.setCell ⟨w.heap.size + 3, 256, none⟩ (.int .i64 (((frsts (cutL L p) b).length : Int) + 1)) = w2 at *
          have hm3 := T3.many
          have hth := T3.thawed
          have hth4 := T4.thawed
          have hx3 := T3.at_ b hlt
          have HLen := HCC.out
          generalize hN : (frsts (cutL L p) b).length = N at *
          subst HLen
          have hC5 : (C : Int) < 256 := by omega
          go_region
          go_wp2
          refine ⟨⟨b + 1, by omega, rfl, ((T1.far (by simp) _).drew).far (by simp) _, ((T2.far (by simp) _).drew).far (by simp) _, ?_, (((T4.put (c * 2 + 1) (.int .i64 ((C : Int) + 1))).congr (fun i _ => HSt.out (c * 2 + 1) (by simp) i)).drew).far (by simp) _, ((hb2.setCell (by simp; omega) _).drew).setCell (by simp; omega) _⟩, by simp [intOf]; omega⟩
          rw [HNw.out rfl, List.length_append, hN]
          exact (((T3.far (by simp) _).drew).put b (C : Int) hlt).congr (fun i _ => HSo.out i)
        · have HO := HOldN.out HZ
          -- numbers[k][in] is there
          have hc0 := S4.at_ (c * 2 + 1) (by omega)
          rw [HA.out (c * 2 + 1) (by simp), HO.1] at hc0
          have HOO := hidd HO
          clear HO
          have hth := S3.thawed
          have hx3 := S3.at_ b hlt
          have hnz : ¬ ((C : Int) + 1 = 0) := by omega
          have hC5 : (C : Int) < 256 := by omega
          go_wp2
          refine ⟨⟨b + 1, by omega, rfl, S1.far (by simp) _, S2.far (by simp) _, ?_, (S4.far (by simp) _).congr (fun i _ => ?_), hbb.setCell (by simp; omega) _⟩, by simp [intOf]; omega⟩
          · rw [HOld.out HOO.out.2]
            exact (S3.put b (C : Int) hlt).congr (fun i _ => HSo.out i)
          · rw [← HSt.out (c * 2 + 1) (by simp) i]
            by_cases hi : i = c * 2 + 1
            · subst hi
              rw [if_pos rfl, HA.out (c * 2 + 1) (by simp), HOO.out.1]
            · rw [if_neg hi]
      | false =>
        rw [hp] at HNew HOldN HAt HStep
        have HA : Hid (∀ k, k = c * 2 → numC L p b k = .int .i64 (num L p c false b)) := fun k hk => HAt.out k false rfl hk
        have HSt : Hid (∀ k, k = c * 2 → ∀ i, (if i = k then Value.int .i64 ((C : Int) + 1) else numC L p b i) = numC L p (b + 1) i) := fun k hk => HStep.out k false rfl hk
        clear HAt HStep hp
        by_cases HZ : num L p c false b = 0
        · skip
          have hc0 := S4.at_ (c * 2) (by omega)
          rw [HA.out (c * 2) (by simp), HZ] at hc0
          have HCC := hidd (HNew.out HZ)
          have HZZ := hidd HZ
          clear HZ
          have hth3 := S3.thawed
          have hm3 := S3.many
          go_wp2
          have T1 := S1.far (a := ⟨w.heap.size + 3, 256, none⟩) (by simp) (.int .i64 (((frsts (cutL L p) b).length : Int) + 1))
          have T2 := S2.far (a := ⟨w.heap.size + 3, 256, none⟩) (by simp) (.int .i64 (((frsts (cutL L p) b).length : Int) + 1))
          have T3 := S3.putMany (((frsts (cutL L p) b).length : Int) + 1)
          have T4 := S4.far (a := ⟨w.heap.size + 3, 256, none⟩) (by simp) (.int .i64 (((frsts (cutL L p) b).length : Int) + 1))
          have hb2 := hbb.setCell (p := ⟨w.heap.size + 3, 256, none⟩) (by simp) (.int .i64 (((frsts (cutL L p) b).length : Int) + 1))
          have hc4 := T4.at_ (c * 2) (by omega)
          clear S1 S2 S3 S4 hbb hth3 hm3 hc0
          generalize w1.setCell ⟨w.heap.size + 3, 256, none⟩ (.int .i64 (((frsts (cutL L p) b).length : Int) + 1)) = w2 at *
          have hm3 := T3.many
          have hth := T3.thawed
          have hth4 := T4.thawed
          have hx3 := T3.at_ b hlt
          have HLen := HCC.out
          generalize hN : (frsts (cutL L p) b).length = N at *
          subst HLen
          have hC5 : (C : Int) < 256 := by omega
          go_region
          go_wp2
          refine ⟨⟨b + 1, by omega, rfl, ((T1.far (by simp) _).drew).far (by simp) _, ((T2.far (by simp) _).drew).far (by simp) _, ?_, (((T4.put (c * 2) (.int .i64 ((C : Int) + 1))).congr (fun i _ => HSt.out (c * 2) (by simp) i)).drew).far (by simp) _, ((hb2.setCell (by simp; omega) _).drew).setCell (by simp; omega) _⟩, by simp [intOf]; omega⟩
          rw [HNw.out rfl, List.length_append, hN]
          exact (((T3.far (by simp) _).drew).put b (C : Int) hlt).congr (fun i _ => HSo.out i)
        · have HO := HOldN.out HZ
          -- numbers[k][in] is there
          have hc0 := S4.at_ (c * 2) (by omega)
          rw [HA.out (c * 2) (by simp), HO.1] at hc0
          have HOO := hidd HO
          clear HO
          have hth := S3.thawed
          have hx3 := S3.at_ b hlt
          have hnz : ¬ ((C : Int) + 1 = 0) := by omega
          have hC5 : (C : Int) < 256 := by omega
          go_wp2
          refine ⟨⟨b + 1, by omega, rfl, S1.far (by simp) _, S2.far (by simp) _, ?_, (S4.far (by simp) _).congr (fun i _ => ?_), hbb.setCell (by simp; omega) _⟩, by simp [intOf]; omega⟩
          · rw [HOld.out HOO.out.2]
            exact (S3.put b (C : Int) hlt).congr (fun i _ => HSo.out i)
          · rw [← HSt.out (c * 2) (by simp) i]
            by_cases hi : i = c * 2
            · subst hi
              rw [if_pos rfl, HA.out (c * 2) (by simp), HOO.out.1]
            · rw [if_neg hi]
    · have hb5 : b = 256 := by omega
      subst hb5
      have Q1 := R3.congr (f' := fun i => (clsOf (cutL L p) i : Int)) (fun i hi => by simp [soFar, hi])
      go_wp2_with (first
        | refine wpList_load_row rfl 26 (.tmp 5) rfl (w.heap.size + 3) rfl 26 (spC (fun i => (clsOf (cutL L p) i : Int)) (frsts (cutL L p) 256).length) (0, 0) _ Q1 Try.underlying26 rfl (split_info _ _) ?_
        | refine wpList_store_row rfl 26 (.tmp 4) (.tmp 47) rfl (w.heap.size + 2) (spC (fun i => (clsOf (cutL L p) i : Int)) (frsts (cutL L p) 256).length) rfl rfl 26 (spC (fun _ => 0) 0) R2 (split_info _ _) (by rw [spC_size, spC_size]) (spC_one _ _) ?_)
      exact ret_split Try.results27 rfl (R2.row _ _) rfl ⟨rfl, bel_setRow hb _ _ (by omega)⟩

end Go.Proofs.Ytlfbjnmehdifeaa

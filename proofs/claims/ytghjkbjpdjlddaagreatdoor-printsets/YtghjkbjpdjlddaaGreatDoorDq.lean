/- PrintSets: its walk. -/
import Derived.Test.YtghjkbjpdjlddaaGreatDoorDp
namespace Go.Proofs.YtghjkbjpdjlddaaGreatDoor.Sy.Pn
open Go.RowKit
set_option maxRecDepth 100000
set_option linter.unusedVariables false

theorem node1_cells {w : World} {b : Nat} {p : Nat → Bool} (r : RowA w b 38 (setC p)) :
    w.cell? ⟨b, 1, none⟩ = some (.int .u64 (W p 0)) ∧ w.cell? ⟨b, 2, none⟩ = some (.int .u64 (W p 1)) ∧ w.cell? ⟨b, 3, none⟩ = some (.int .u64 (W p 2)) ∧ w.cell? ⟨b, 4, none⟩ = some (.int .u64 (W p 3)) :=
  ⟨r.at_ rfl, r.at_ rfl, r.at_ rfl, r.at_ rfl⟩
theorem one_w (c : Nat) (i : Nat) : W (inB [(c : Int)]) i = W (oneS c) i := by
  rw [one_words, Int.toNat_natCast]
theorem parse_long {s : List Nat} (h : 1024 < s.length) : parse s = .error (3, 0) := by
  unfold parse
  rw [if_pos h]
set_option maxHeartbeats 4000000 in
theorem sets_any (p : Nat → Bool) (c : Nat) (hc : c ≤ 255) (w : World) (hE : EV w) (hT : TV w) :
    Calls Tryz.prog 5 #[.agg #[.int .u64 (W (p) 0), .int .u64 (W (p) 1), .int .u64 (W (p) 2), .int .u64 (W (p) 3)], .int .u8 (c : Int)] w fun e w' => e = .returned (.bool true) ∧ Below w.heap.size w w' := by
  have b0 := (Below.refl w.heap.size w).alloc (Nat.le_refl _) (.cells (#[.int .u64 (W (p) 0), .int .u64 (W (p) 1), .int .u64 (W (p) 2), .int .u64 (W (p) 3)]) 34)
  have R0 := Row4.new w p
  go_enter Tryz.func5, Tryz.ntmps5
  go_wp2_with fail
  generalize w.alloc (.cells (#[.int .u64 (W (p) 0), .int .u64 (W (p) 1), .int .u64 (W (p) 2), .int .u64 (W (p) 3)]) 34) = w0 at *
  refine (shown5_any w0 (hT.below b0)).mono ?_
  rintro e w1 ⟨rfl, b1⟩
  have R1 := R0.below b1 R0.lt
  have D1 := hidd (b0.trans (b1.mono b0.size))
  have HE1 := hidd ((hE.below b0).below b1)
  obtain ⟨r0, r1, r2, r3⟩ := R1.cells
  have HR1 := hidd R1
  have hz := set_zero p
  clear R0 b0 b1 hE hT R1
  cases hq : eqB p noB with
  | true =>
    rw [hq] at hz
    have HP : Hid (setT p = [91, 93]) := by
      show _ = _
      rw [setT_congr (q := noS) (fun b hb => by rw [(eqB_iff p noB).1 hq b hb]; rfl), setT_no]
    clear hq
    go_wp2_with fail
    refine (pset_any p w1).mono ?_
    rintro e w2 ⟨x, rfl, hx, b2⟩
    have hxx : x = { data := #[91, 93] } := bs_inj (by rw [hx, HP.out]; rfl)
    subst hxx
    have D2 := hidd (D1.out.trans (b2.mono D1.out.size))
    clear hx b2 D1 HP
    go_wp2
    go_ret
    exact ⟨rfl, D2.out⟩
  | false =>
    rw [hq] at hz
    have HS : Hid (emptyS p = false) := by
      show _ = _
      rw [Bool.eq_false_iff]
      intro h
      rw [Bool.eq_false_iff] at hq
      exact hq ((eqB_iff p noB).2 (fun b hb => (emptyS_at h b hb)))
    clear hq
    have hB := bts_one (w1.alloc (.cells (setC p) 38)) (c : Int) (by omega) (by omega)
    have hsz : (w1.alloc (.cells (setC p) 38)).heap.size = w1.heap.size + 1 := World.size_alloc ..
    rw [hsz] at hB
    have V2 := (RowA.new w1 38 (setC p)).alloc (.cells #[.int .u8 (c : Int)] 5)
    have b2 : Below w1.heap.size w1 ((w1.alloc (.cells (setC p) 38)).alloc (.cells #[.int .u8 (c : Int)] 5)) := ((Below.refl _ _).alloc (Nat.le_refl _) _).alloc (by rw [hsz]; omega) _
    clear hsz
    go_wp2_with fail
    generalize (w1.alloc (.cells (setC p) 38)).alloc (.cells #[.int .u8 (c : Int)] 5) = w2 at *
    refine (rof_any (some ⟨w1.heap.size + 1, 0, none⟩) 1 [(c : Int)] w2 hB (by simp)).mono ?_
    rintro e w3 ⟨rfl, b3⟩
    rw [one_w, one_w, one_w, one_w]
    have V3 := V2.below b3 V2.lt
    have b4 : Below w3.heap.size w3 (w3.alloc (.cells (setC (oneS c)) 38)) := (Below.refl _ _).alloc (Nat.le_refl _) _
    have Q4 := RowA.new w3 38 (setC (oneS c))
    have V4 := V3.below b4 V3.lt
    have B14 := b2.trans ((b3.trans (b4.mono b3.size)).mono b2.size)
    clear hB V2 b2 b3 V3 b4 hz r0 r1 r2 r3
    go_wp2_with fail
    generalize w3.alloc (.cells (setC (oneS c)) 38) = w4 at *
    generalize w3.heap.size = q3 at *
    have HB14 := hidd B14
    have HQ4 := hidd Q4
    have HV4 := hidd V4
    clear B14 Q4 V4
    refine (pbyte_any c hc w4).mono ?_
    rintro e w5 ⟨x, rfl, hx, b5⟩
    have B15 := HB14.out.trans (b5.mono HB14.out.size)
    have hpa := parse_setM (one_full hc) x (hx.trans (setT_one c (by omega)).symm) (by rw [← bs_len, hx]; have := (byteT_fit c (by omega)).2.2; omega) w5 (HE1.out.below B15)
    have Q5 := hidd (HQ4.out.below b5 HQ4.out.lt)
    have V5 := hidd (HV4.out.below b5 HV4.out.lt)
    have HB15 := hidd B15
    clear hx b5 B15 HQ4 HV4 HB14
    go_wp2_with fail
    refine hpa.mono ?_
    rintro e w6 ⟨A6, c6, gs6, rfl, hN6, hG6, b6⟩
    have HN6 := hidd hN6
    have HG6 := hidd hG6
    have HB16 := hidd (HB15.out.trans (b6.mono HB15.out.size))
    have Q6 := hidd (Q5.out.below b6 Q5.out.lt)
    have V6 := hidd (V5.out.below b6 V5.out.lt)
    obtain ⟨r0, r1, r2, r3⟩ := (HR1.out.below HB16.out HR1.out.lt).cells
    clear hpa hN6 hG6 b6 Q5 V5 HB15
    go_wp2_with fail
    refine (pset_any p w6).mono ?_
    rintro e w7 ⟨y, rfl, hy, b7⟩
    have HB17 := hidd (HB16.out.trans (b7.mono HB16.out.size))
    have Q7 := hidd (Q6.out.below b7 Q6.out.lt)
    have V7 := hidd (V6.out.below b7 V6.out.lt)
    have HB67 := hidd b7
    have HY := hidd hy
    clear hy b7 Q6 V6 HB16 r0 r1 r2 r3
    by_cases hlong : 1024 < y.size
    · have hpb := parseC.bad (s := y) (by rw [← bs_len, HY.out]; have := (setT_fit p).2; omega) (parse_long (by rw [bs_len]; exact hlong)) w7 (HE1.out.below HB17.out)
      have hli : (1024 : Int) < (y.size : Int) := by omega
      clear HY hlong
      go_wp2_with fail
      refine hpb.mono ?_
      rintro e w8 ⟨A8, c8, rfl, b8⟩
      have D8 := hidd (D1.out.trans ((HB17.out.trans (b8.mono HB17.out.size)).mono D1.out.size))
      have B68 := hidd (HB67.out.trans (b8.mono HB67.out.size))
      have Q8 := Q7.out.below b8 Q7.out.lt
      have V8 := hidd (V7.out.below b8 V7.out.lt)
      clear hpb b8 Q7 V7 HB17 HB67 HE1 HR1 D1
      go_wp2_with fail
      refine (same_set HG6.out A6 (some ⟨q3, 0, none⟩) c6 1 w8 ((HN6.out.below B68.out).more B68.out.size) (nds_row Q8)).mono ?_
      rintro e w9 ⟨rfl, b9⟩
      have Q9 := Q8.below b9 Q8.lt
      have V9 := hidd (V8.out.below b9 V8.out.lt)
      have D9 := hidd (D8.out.trans (b9.mono D8.out.size))
      have HB9 := hidd b9
      obtain ⟨n0, n1, n2, n3⟩ := node1_cells Q9
      clear Q8 V8 D8 b9 Q9 HG6 HN6 B68
      go_wp2_with fail
      refine (pset_any (oneS c) w9).mono ?_
      rintro e w10 ⟨z, rfl, hz1, b10⟩
      have V10 := hidd (V9.out.below b10 V9.out.lt)
      have D10 := hidd (D9.out.trans (b10.mono D9.out.size))
      have HB10 := hidd (HB9.out.trans (b10.mono HB9.out.size))
      have HZ := hidd hz1
      clear V9 D9 HB9 b10 hz1 n0 n1 n2 n3
      go_wp2_with fail
      refine (pbyte_any c hc w10).mono ?_
      rintro e w11 ⟨z2, rfl, hz2, b11⟩
      have V11 := hidd (V10.out.below b11 V10.out.lt)
      have D11 := hidd (D10.out.trans (b11.mono D10.out.size))
      have HB11 := hidd (HB10.out.trans (b11.mono HB10.out.size))
      have hzz : z2 = z := bs_inj (by rw [hz2, HZ.out, setT_one c (by omega)])
      subst hzz
      clear V10 D10 HB10 b11 hz2 HZ
      go_wp2
      go_ret
      exact ⟨rfl, D11.out⟩
    · have hpg := parse_setM HS.out y HY.out (by omega) w7 (HE1.out.below HB17.out)
      clear HY hlong
      go_wp2_with fail
      refine hpg.mono ?_
      rintro e w8 ⟨A8, c8, gs8, rfl, hN8, hG8, b8⟩
      have D8 := hidd (D1.out.trans ((HB17.out.trans (b8.mono HB17.out.size)).mono D1.out.size))
      have B68 := hidd (HB67.out.trans (b8.mono HB67.out.size))
      have Q8 := Q7.out.below b8 Q7.out.lt
      have V8 := hidd (V7.out.below b8 V7.out.lt)
      have HN8 := hidd hN8
      have HG8 := hidd hG8
      clear hpg b8 Q7 V7 HB17 HB67 HE1 HR1 D1 hN8 hG8
      go_wp2_with fail
      refine (same_set HG6.out A6 (some ⟨q3, 0, none⟩) c6 1 w8 ((HN6.out.below B68.out).more B68.out.size) (nds_row Q8)).mono ?_
      rintro e w9 ⟨rfl, b9⟩
      have Q9 := Q8.below b9 Q8.lt
      have V9 := hidd (V8.out.below b9 V8.out.lt)
      have D9 := hidd (D8.out.trans (b9.mono D8.out.size))
      have HB9 := hidd b9
      obtain ⟨n0, n1, n2, n3⟩ := node1_cells Q9
      clear Q8 V8 D8 b9 Q9 HG6 HN6 B68
      go_wp2_with fail
      refine (pset_any (oneS c) w9).mono ?_
      rintro e w10 ⟨z, rfl, hz1, b10⟩
      have V10 := hidd (V9.out.below b10 V9.out.lt)
      have D10 := hidd (D9.out.trans (b10.mono D9.out.size))
      have HB10 := hidd (HB9.out.trans (b10.mono HB9.out.size))
      have HZ := hidd hz1
      clear V9 D9 HB9 b10 hz1 n0 n1 n2 n3
      go_wp2_with fail
      refine (pbyte_any c hc w10).mono ?_
      rintro e w11 ⟨z2, rfl, hz2, b11⟩
      have V11 := hidd (V10.out.below b11 V10.out.lt)
      have D11 := hidd (D10.out.trans (b11.mono D10.out.size))
      have HB11 := hidd (HB10.out.trans (b11.mono HB10.out.size))
      have hzz : z2 = z := bs_inj (by rw [hz2, HZ.out, setT_one c (by omega)])
      subst hzz
      clear V10 D10 HB10 b11 hz2 HZ
      go_wp2_with fail
      refine (same_set HG8.out A8 (some ⟨w1.heap.size, 0, none⟩) c8 1 w11 ((HN8.out.below HB11.out).more HB11.out.size) (nds_row V11.out)).mono ?_
      rintro e w12 ⟨rfl, b12⟩
      have D12 := hidd (D11.out.trans (b12.mono D11.out.size))
      clear b12 D11 HB11 V11 HN8 HG8
      go_wp2
      go_ret
      exact ⟨rfl, D12.out⟩
end Go.Proofs.YtghjkbjpdjlddaaGreatDoor.Sy.Pn

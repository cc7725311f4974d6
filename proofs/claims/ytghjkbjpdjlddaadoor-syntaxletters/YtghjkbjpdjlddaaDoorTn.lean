/- The landed parser: a class. -/
import Derived.Test.YtghjkbjpdjlddaaDoorTm
namespace Go.Proofs.YtghjkbjpdjlddaaDoor.Sy
open Go.RowKit
set_option maxRecDepth 100000
set_option linter.unusedVariables false

theorem class_of {t : List Nat} {i : Nat} : class_ t i = match parts t (t.length + 1) false noS (if is t (i + 1) 94 then i + 1 + 1 else i + 1) with
    | .error e => .error e
    | .ok (p, j) => if emptyS (negS (is t (i + 1) 94) p) then .error (44, j) else .ok (negS (is t (i + 1) 94) p, j + 1) := rfl
theorem classR_bad {t : List Nat} {i x p : Nat} (h : parts t (t.length + 1) false noS (if is t (i + 1) 94 then i + 1 + 1 else i + 1) = .error (x, p)) : classR t i = .error (x, p) := by
  unfold classR; rw [class_of, h]
theorem classR_none {t : List Nat} {i j : Nat} {q : Nat → Bool} (h : parts t (t.length + 1) false noS (if is t (i + 1) 94 then i + 1 + 1 else i + 1) = .ok (q, j)) (h2 : emptyS (negS (is t (i + 1) 94) q) = true) : classR t i = .error (44, j) := by
  unfold classR; rw [class_of, h]; simp only [h2, if_true]
theorem classR_ok {t : List Nat} {i j : Nat} {q : Nat → Bool} (h : parts t (t.length + 1) false noS (if is t (i + 1) 94 then i + 1 + 1 else i + 1) = .ok (q, j)) (h2 : emptyS (negS (is t (i + 1) 94) q) = false) : classR t i = .ok (ndBytes (negS (is t (i + 1) 94) q), j + 1) := by
  unfold classR; rw [class_of, h]; simp only [h2]; rfl

section
variable {w w' : World} {b : Nat} {s : ByteArray} {v : Value} {d : Int} {l : List NR}
set_option maxHeartbeats 4000000 in
theorem pclass_any {i : Nat} (p : PS w b s i 0 0 d v l) (hi : i < s.size) (hs : s.size ≤ 100000) (hl : l.length ≤ 100000) :
    Calls Tryd.prog 86 #[.pointer (some ⟨b, 0, none⟩)] w fun e w' => GotL w b s d v l (classR (bs s) i) e w' := by
  have hbl := bs_len s
  have hbw := p.pr.lt
  obtain ⟨c0, c1, c2, c3, c4, c5⟩ := p.pr.cells
  have ht := p.pr.thawed
  have R1 := p.pr.atTo ((i : Int) + 1)
  have T1 := (Touch.refl b b w).set1 1 (.int .i64 ((i : Int) + 1))
  go_enter Tryd.func86, Tryd.ntmps86
  go_wp2_with fail
  generalize w.setCell ⟨b, 1, none⟩ (.int .i64 ((i : Int) + 1)) = w1 at *
  rw [show (i : Int) + 1 = ((i + 1 : Nat) : Int) from by omega] at R1
  clear c0 c1 c2 c3 c4 c5 ht
  refine (takes_any (c := 94) R1 hi hs).mono ?_
  rintro e w2 ⟨rfl, R2, T2⟩
  have T12 := T1.trans T2
  have hi0 : (if is (bs s) (i + 1) 94 then i + 1 + 1 else i + 1 : Nat) ≤ s.size := by
    split
    · rename_i h
      have := (is_lt h).1
      rw [hbl] at this
      omega
    · exact hi
  clear R1 T1 T2
  go_wp2_with fail
  refine (span_u R2 hi0 hs).mono ?_
  rintro e w3 ⟨z, q, rfl, T3, hsp⟩
  have T13 := T12.trans T3
  have hcl : ClsR w b s v d (if is (bs s) (i + 1) 94 then i + 1 + 1 else i + 1) w3.heap.size (.bool z) (w3.alloc (.cells (#[.int .u64 (W (q) 0), .int .u64 (W (q) 1), .int .u64 (W (q) 2), .int .u64 (W (q) 3)]) 28)) := by
    refine cls_first ?_ (T13.alloc _) (Row4.new w3 q)
    rcases hsp with ⟨hz, lo, hi, j, h1, h2, h3, h3', h4⟩ | ⟨hz, x, pp, j, h1, h4⟩
    · exact .inl ⟨hz, lo, hi, j, h1, h2, h3, h3', h4.alloc _⟩
    · exact .inr ⟨hz, x, pp, j, h1, h4.alloc _⟩
  have hq5 : w.heap.size ≤ w3.heap.size := T13.size
  clear T12 T3 T13 R2 hsp hi0
  have HC := hidd hcl
  clear hcl
  go_wp2
  generalize hneg : is (bs s) (i + 1) 94 = neg at *
  generalize hq5e : w3.heap.size = q5 at *
  have hbq : b ≠ q5 := by omega
  have HN := hidd hneg
  clear hneg hq5e
  go_loopw [6] (fun s6 wr => ClsR w b s v d (if neg then i + 1 + 1 else i + 1) q5 s6 wr) (fun s6 wr => clsM b s s6 wr)
  case atStart => exact HC.out
  case round =>
    obtain ⟨z1, q1, rfl, Z, T, hc⟩ := hrel
    clear HC
    rcases hc with ⟨hz, j, f, hpa, hf, hj, R⟩ | ⟨hz, x, pp, j, hpa, R⟩
    · subst hz
      go_wp2_with fail
      refine (sees_any R hj { data := #[93] }).mono ?_
      rintro e w4 ⟨rfl, m4, rfl⟩
      rw [show bs { data := #[93] } = [93] from rfl, sees_one]
      have R4 := R.drewN m4
      have T4 := T.drewN m4
      have Z4 := Z.drewN m4
      have hao : atOf wr b = j := R.atOf
      cases h93 : is (bs s) j 93 with
      | true =>
        rw [parts_last f q1 j h93] at hpa
        rw [← HN.out] at hpa
        clear R T Z h93 hao
        generalize wr.drewN m4 = w4 at *
        cases neg with
        | false =>
          have hng : negS (is (bs s) (i + 1) 94) q1 = q1 := by rw [HN.out]; funext x; rfl
          clear HN
          obtain ⟨c0, c1, c2, c3⟩ := Z4.cells
          have hse := set_none q1
          cases hem : emptyS q1 with
          | true =>
            rw [hem] at hse
            have HR : Hid (classR (bs s) i = .error (44, j)) := classR_none hpa (by rw [hng]; exact hem)
            clear hpa hem
            obtain ⟨a0, a1, a2, a3, a4, a5⟩ := R4.cells
            go_wp2_with fail
            refine wp_region_still_tail 8 (by kernel_rfl) (by kernel_rfl) ?_
            simp only [List.take_succ_cons, List.take_zero, List.drop_succ_cons, List.drop_zero]
            repeat still_step
            refine wpStill_nil ?_
            change wpList _ _ _ _ _ (World.drew w4)
            go_wp2_with fail
            refine (fail_any R4.drew 44 _).mono ?_
            rintro e w9 ⟨rfl, R9, T9⟩
            go_wp2
            go_ret2
            rw [HR.out]
            exact ⟨⟨_, rfl⟩, _, v, d, R9, (Fr.of (T4) v).trans ((Fr.of (Touch.refl b b _).drew v).trans (Fr.of T9 v))⟩
          | false =>
            rw [hem] at hse
            have HR : Hid (classR (bs s) i = .ok (ndBytes q1, j + 1)) := by show _ = _; rw [classR_ok hpa (by rw [hng]; exact hem), hng]
            clear hpa hem
            have ht := R4.thawed
            obtain ⟨a0, a1, a2, a3, a4, a5⟩ := R4.cells
            have p9 := (p.read T4 R4).read ((Touch.refl b b _).set1 1 (.int .i64 ((j : Int) + 1))) (R4.atTo ((j : Int) + 1))
            have f9 := (Fr.of T4 v).trans (Fr.of ((Touch.refl b b _).set1 1 (.int .i64 ((j : Int) + 1))) v)
            have hq9 : (b : Nat) ≠ q5 := hbq
            have Z9 := Z4.far (a := ⟨b, 1, none⟩) (fun e => hbq e.symm) (.int .i64 ((j : Int) + 1))
            obtain ⟨z0, z1, z2, z3⟩ := Z9.cells
            go_wp2_with fail
            refine (oneof_any p9 hl q1).mono ?_
            rintro e w10 ⟨rfl, v', p10, f10⟩
            have HP := hidd p10
            have f := f9.trans f10
            clear p9 p10 f9 f10
            go_wp2
            go_ret2
            rw [HR.out]
            exact ⟨rfl, v', _, HP.out, ⟨rfl, fun _ _ => rfl, rfl, rfl, rfl, rfl⟩, rfl, f⟩
        | true =>
          have hng : negS (is (bs s) (i + 1) 94) q1 = notB q1 := by rw [HN.out]; funext x; rfl
          clear HN
          obtain ⟨c0, c1, c2, c3⟩ := Z4.cells
          go_wp2_with fail
          refine (not_any q1 _).mono ?_
          rintro e w5 ⟨rfl, b5⟩
          have R5 := R4.below b5 R4.lt
          have T5 := T4.below b5
          have Z5 := Z4.below b5 Z4.lt
          clear R4 T4 Z4 b5 c0 c1 c2 c3
          obtain ⟨c0, c1, c2, c3⟩ := Z5.cells
          have ht := Z5.thawed
          have Z6 := Z5.fill (notB q1)
          have hbq' : q5 ≠ b := fun e => hbq e.symm
          have T6 := (((T5.fresh (x := ⟨q5, 0, none⟩) hq5 (.int .u64 (W (notB q1) 0))).fresh (x := ⟨q5, 1, none⟩) hq5 (.int .u64 (W (notB q1) 1))).fresh (x := ⟨q5, 2, none⟩) hq5 (.int .u64 (W (notB q1) 2))).fresh (x := ⟨q5, 3, none⟩) hq5 (.int .u64 (W (notB q1) 3))
          have R6 := (((R5.far (x := ⟨q5, 0, none⟩) hbq (.int .u64 (W (notB q1) 0))).far (x := ⟨q5, 1, none⟩) hbq (.int .u64 (W (notB q1) 1))).far (x := ⟨q5, 2, none⟩) hbq (.int .u64 (W (notB q1) 2))).far (x := ⟨q5, 3, none⟩) hbq (.int .u64 (W (notB q1) 3))
          go_upto_region 12 with fail
          generalize (((w5.setCell ⟨q5, 0, none⟩ (.int .u64 (W (notB q1) 0))).setCell ⟨q5, 1, none⟩ (.int .u64 (W (notB q1) 1))).setCell ⟨q5, 2, none⟩ (.int .u64 (W (notB q1) 2))).setCell ⟨q5, 3, none⟩ (.int .u64 (W (notB q1) 3)) = w6 at *
          clear c0 c1 c2 c3 ht Z5 R5 T5
          obtain ⟨c0, c1, c2, c3⟩ := Z6.cells
          have hse := set_none (notB q1)
          cases hem : emptyS (notB q1) with
          | true =>
            rw [hem] at hse
            have HR : Hid (classR (bs s) i = .error (44, j)) := classR_none hpa (by rw [hng]; exact hem)
            clear hpa hem
            obtain ⟨a0, a1, a2, a3, a4, a5⟩ := R6.cells
            go_wp2_with fail
            refine wp_region_still_tail 8 (by kernel_rfl) (by kernel_rfl) ?_
            simp only [List.take_succ_cons, List.take_zero, List.drop_succ_cons, List.drop_zero]
            repeat still_step
            refine wpStill_nil ?_
            change wpList _ _ _ _ _ (World.drew w6)
            go_wp2_with fail
            refine (fail_any R6.drew 44 _).mono ?_
            rintro e w9 ⟨rfl, R9, T9⟩
            go_wp2
            go_ret2
            rw [HR.out]
            exact ⟨⟨_, rfl⟩, _, v, d, R9, (Fr.of (T6) v).trans ((Fr.of (Touch.refl b b _).drew v).trans (Fr.of T9 v))⟩
          | false =>
            rw [hem] at hse
            have HR : Hid (classR (bs s) i = .ok (ndBytes (notB q1), j + 1)) := by show _ = _; rw [classR_ok hpa (by rw [hng]; exact hem), hng]
            clear hpa hem
            have ht := R6.thawed
            obtain ⟨a0, a1, a2, a3, a4, a5⟩ := R6.cells
            have p9 := (p.read T6 R6).read ((Touch.refl b b _).set1 1 (.int .i64 ((j : Int) + 1))) (R6.atTo ((j : Int) + 1))
            have f9 := (Fr.of T6 v).trans (Fr.of ((Touch.refl b b _).set1 1 (.int .i64 ((j : Int) + 1))) v)
            have hq9 : (b : Nat) ≠ q5 := hbq
            have Z9 := Z6.far (a := ⟨b, 1, none⟩) (fun e => hbq e.symm) (.int .i64 ((j : Int) + 1))
            obtain ⟨z0, z1, z2, z3⟩ := Z9.cells
            go_wp2_with fail
            refine (oneof_any p9 hl (notB q1)).mono ?_
            rintro e w10 ⟨rfl, v', p10, f10⟩
            have HP := hidd p10
            have f := f9.trans f10
            clear p9 p10 f9 f10
            go_wp2
            go_ret2
            rw [HR.out]
            exact ⟨rfl, v', _, HP.out, ⟨rfl, fun _ _ => rfl, rfl, rfl, rfl, rfl⟩, rfl, f⟩
      | false =>
        have HPA := hidd hpa
        have H93 := hidd h93
        clear hpa h93
        have R5 := R4.alloc (.cells #[.int .u64 0, .int .u64 0, .int .u64 0, .int .u64 0] 28)
        have T5 := T4.alloc (.cells #[.int .u64 0, .int .u64 0, .int .u64 0, .int .u64 0] 28)
        have Z5 := Z4.alloc (.cells #[.int .u64 0, .int .u64 0, .int .u64 0, .int .u64 0] 28)
        have Y5 := Row4.zero (wr.drewN m4)
        have hq7 : (wr.drewN m4).heap.size ≠ b := by have := R4.lt; omega
        have hq75 : (wr.drewN m4).heap.size ≠ q5 := by have := Z4.lt; omega
        have hq7w : w.heap.size ≤ (wr.drewN m4).heap.size := T4.size
        clear R4 T4 Z4
        go_wp2_with fail
        generalize (wr.drewN m4).alloc (.cells #[.int .u64 0, .int .u64 0, .int .u64 0, .int .u64 0] 28) = w5 at *
        generalize hq7e : (wr.drewN m4).heap.size = q7 at *
        have hq7e' : wr.heap.size = q7 := hq7e
        rw [hq7e']
        clear hq7e hq7e'
        refine (span_u R5 hj hs).mono ?_
        rintro e w6 ⟨z6, q6, rfl, T6, hsp⟩
        have T56 := T5.trans T6
        have hbq' : q5 ≠ b := fun e => hbq e.symm
        have Z6 := Row4.touch Z5 T6 hbq' hbq'
        have Y6 := Row4.touch Y5 T6 hq7 hq7
        clear R5 T5 Z5 Y5 T6
        obtain ⟨y0, y1, y2, y3⟩ := Y6.cells
        have hty := Y6.thawed
        have Y7 := Y6.fill q6
        have Z7 := (((Z6.far (a := ⟨q7, 0, none⟩) (fun e => hq75 e.symm) (.int .u64 (W q6 0))).far (a := ⟨q7, 1, none⟩) (fun e => hq75 e.symm) (.int .u64 (W q6 1))).far (a := ⟨q7, 2, none⟩) (fun e => hq75 e.symm) (.int .u64 (W q6 2))).far (a := ⟨q7, 3, none⟩) (fun e => hq75 e.symm) (.int .u64 (W q6 3))
        have T7 := (((T56.fresh (x := ⟨q7, 0, none⟩) hq7w (.int .u64 (W q6 0))).fresh (x := ⟨q7, 1, none⟩) hq7w (.int .u64 (W q6 1))).fresh (x := ⟨q7, 2, none⟩) hq7w (.int .u64 (W q6 2))).fresh (x := ⟨q7, 3, none⟩) hq7w (.int .u64 (W q6 3))
        have hR7 : ∀ (k x pp : Int), PR w6 b s k x pp v d → PR ((((w6.setCell ⟨q7, 0, none⟩ (.int .u64 (W q6 0))).setCell ⟨q7, 1, none⟩ (.int .u64 (W q6 1))).setCell ⟨q7, 2, none⟩ (.int .u64 (W q6 2))).setCell ⟨q7, 3, none⟩ (.int .u64 (W q6 3))) b s k x pp v d := fun k x pp r => (((r.far (x := ⟨q7, 0, none⟩) (fun e => hq7 e.symm) _).far (x := ⟨q7, 1, none⟩) (fun e => hq7 e.symm) _).far (x := ⟨q7, 2, none⟩) (fun e => hq7 e.symm) _).far (x := ⟨q7, 3, none⟩) (fun e => hq7 e.symm) _
        have HSP := hidd hsp
        have HR7 := hidd hR7
        clear hsp hR7
        go_upto_region 7 with fail
        generalize (((w6.setCell ⟨q7, 0, none⟩ (.int .u64 (W q6 0))).setCell ⟨q7, 1, none⟩ (.int .u64 (W q6 1))).setCell ⟨q7, 2, none⟩ (.int .u64 (W q6 2))).setCell ⟨q7, 3, none⟩ (.int .u64 (W q6 3)) = w7 at *
        clear y0 y1 y2 y3 hty Y6 Z6 T56
        obtain ⟨y0, y1, y2, y3⟩ := Y7.cells
        obtain ⟨z0, z1, z2, z3⟩ := Z7.cells
        go_wp2_with fail
        refine (or_two q1 q6 _).mono ?_
        rintro e w8 ⟨rfl, b8⟩
        have T8 := T7.below b8
        have Z8 := Z7.below b8 Z7.lt
        clear y0 y1 y2 y3 z0 z1 z2 z3
        obtain ⟨z0, z1, z2, z3⟩ := Z8.cells
        have htz := Z8.thawed
        go_wp2
        have T9 := (((T8.fresh (x := ⟨q5, 0, none⟩) hq5 (.int .u64 (W (uniS q1 q6) 0))).fresh (x := ⟨q5, 1, none⟩) hq5 (.int .u64 (W (uniS q1 q6) 1))).fresh (x := ⟨q5, 2, none⟩) hq5 (.int .u64 (W (uniS q1 q6) 2))).fresh (x := ⟨q5, 3, none⟩) hq5 (.int .u64 (W (uniS q1 q6) 3))
        have hR9 : ∀ (k x pp : Int), PR w6 b s k x pp v d → PR ((((w8.setCell ⟨q5, 0, none⟩ (.int .u64 (W (uniS q1 q6) 0))).setCell ⟨q5, 1, none⟩ (.int .u64 (W (uniS q1 q6) 1))).setCell ⟨q5, 2, none⟩ (.int .u64 (W (uniS q1 q6) 2))).setCell ⟨q5, 3, none⟩ (.int .u64 (W (uniS q1 q6) 3))) b s k x pp v d := fun k x pp r => by
          have r7 := HR7.out k x pp r
          have r8 := r7.below b8 r7.lt
          exact (((r8.far (x := ⟨q5, 0, none⟩) hbq _).far (x := ⟨q5, 1, none⟩) hbq _).far (x := ⟨q5, 2, none⟩) hbq _).far (x := ⟨q5, 3, none⟩) hbq _
        refine ⟨cls_next HPA.out hf H93.out HSP.out T9 hR9 (Z8.fill _), clsM_lt R hj fun hz => ?_⟩
        rcases HSP.out with ⟨_, lo, hi2, k, h1, h2, h3, h3', h4⟩ | ⟨h5, _⟩
        · exact ⟨k, h3', hR9 _ _ _ h4⟩
        · rw [hz] at h5; cases h5
    · subst hz
      rw [← HN.out] at hpa
      have HR := hidd (classR_bad hpa)
      clear hpa HN
      go_wp2
      go_ret2
      rw [HR.out]
      exact ⟨⟨_, rfl⟩, j, v, d, R, Fr.of T v⟩
end

end Go.Proofs.YtghjkbjpdjlddaaDoor.Sy

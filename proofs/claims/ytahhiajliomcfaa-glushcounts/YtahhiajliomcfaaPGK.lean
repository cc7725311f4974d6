/- The document's examples of places. -/
import Derived.Test.YtahhiajliomcfaaPGJ
import Derived.Test.YtahhiajliomcfaaPHd
namespace Go.Proofs.Ytahhiajliomcfaa.Sy.Gl
open Go.RowKit Go.Proofs.Ytahhiajliomcfaa.Sy.Ap Go.Proofs.Ytahhiajliomcfaa.Sy.Ap.Wk Go.Proofs.Ytahhiajliomcfaa.Sy.Lg Go.Proofs.Ytahhiajliomcfaa.Sy.Pl
set_option maxRecDepth 100000
set_option linter.unusedVariables false

abbrev gA1 : ByteArray := { data := #[97, 98, 42] }
abbrev gA2 : ByteArray := { data := #[99, 123, 50, 44, 57, 125] }
abbrev gO1 : List Nd := [ndBytes (oneS 97), ndBytes (oneS 98), ndRep 1 0 (-1), ndCat [0, 2]]
abbrev gO2 : List Nd := [ndBytes (oneS 99), ndRep 0 2 9]
theorem gp1 : parse (bs gA1) = .ok gO1 := rfl
theorem gp2 : parse (bs gA2) = .ok gO2 := rfl
theorem go1 : planN gO1 3 = some gO1 := rfl
theorem go2 : planN gO2 3 = some gO2 := rfl
abbrev gW : List Pn := [⟨oneS 97, 1, 1, 0, true, [1]⟩, ⟨oneS 98, 1, 1, 0, true, [1]⟩, ⟨oneS 99, 2, 9, 1, true, []⟩]
theorem go_of : ofG [gO1, gO2] = ([0, 2], gW) := rfl
theorem gt1 : TreeN gO1 := tree_parse (bs_b gA1) gp1
theorem gt2 : TreeN gO2 := tree_parse (bs_b gA2) gp2
theorem gl1 : PlainN gO1 := by intro n hn; simp at hn; rcases hn with e | e | e | e <;> (subst e; show _ ≠ 6; decide)
theorem gl2 : PlainN gO2 := by intro n hn; simp at hn; rcases hn with e | e <;> (subst e; show _ ≠ 6; decide)
theorem gr1 : Rp gO1 := by intro n hn h5; simp at hn; rcases hn with e | e | e | e <;> subst e <;> first | exact absurd h5 (by decide) | exact .inl rfl
theorem gr2 : Rp gO2 := by intro n hn h5; simp at hn; rcases hn with e | e <;> subst e <;> first | exact absurd h5 (by decide) | exact .inr rfl
/-- The law's own set of a byte. -/
theorem gset_any (c : Nat) (hc : c ≤ 255) (w : World) : Calls Try.prog 29 #[.int .u8 (c : Int)] w fun e w' => e = .returned (.agg #[.int .u64 (W (oneS c) 0), .int .u64 (W (oneS c) 1), .int .u64 (W (oneS c) 2), .int .u64 (W (oneS c) 3)]) ∧ Below w.heap.size w w' := by
  have hf := Rf.ofby c hc (w.alloc (.cells #[.int .u64 0, .int .u64 0, .int .u64 0, .int .u64 0] 40))
  have hs0 : (w.alloc (.cells #[.int .u64 0, .int .u64 0, .int .u64 0, .int .u64 0] 40)).heap.size = w.heap.size + 1 := World.size_alloc ..
  rw [hs0] at hf
  clear hs0
  have R0 := Row4.zero w
  have HC : Hid ((c : Int) = (c : Int)) := rfl
  go_enter Try.func29, Try.ntmps29
  go_wp2_with fail
  refine hf.mono ?_
  clear hf
  rintro e w1 ⟨rfl, b1⟩
  have b0 : Below w.heap.size w w1 := (((Below.refl _ _).alloc (Nat.le_refl _) _).alloc (by simp) _).trans (b1.mono (by simp; omega))
  have R1 := (R0.alloc (.cells #[.int .u8 (c : Int)] 5)).below b1 (R0.alloc (.cells #[.int .u8 (c : Int)] 5)).lt
  obtain ⟨c0, c1, c2, c3⟩ := R1.cells
  have hfr := R1.thawed
  have HB := hidd b0
  have HR := hidd R1
  clear b0 b1 R0 R1
  go_wp2
  exact ret_set Try.results29 rfl (HR.out.fill _) rfl ⟨rfl, (((HB.out.setCell (by simp) _).setCell (by simp) _).setCell (by simp) _).setCell (by simp) _⟩
theorem pcs_row {w : World} {g : Nat} {l : List Pv} (r : RowA w g 44 (posC l).toArray) (hn : ∀ x ∈ l, Its w w.heap.size x.2.1 (natI x.1.next)) : Pcs w w.heap.size (some ⟨g, 0, none⟩) (l.map (·.1)) := fun _ => by
  refine ⟨g, 0, rfl, r.lt, fun i hi => ?_⟩
  rw [List.length_map] at hi
  have e : (l.map (·.1)).getD i pn0 = l[i].1 := getD_fst (List.getElem?_eq_getElem hi)
  rw [e]
  refine ⟨l[i].2.1, l[i].2.2, hn _ (List.getElem_mem hi), fun j v hj => ?_⟩
  have hj9 : j < 9 := by
    rcases Nat.lt_or_ge j 9 with q | q
    · exact q
    · rw [List.getElem?_eq_none (by rw [posL_len]; exact q)] at hj; cases hj
  have := r.at_ (k := i * 9 + j) (v := v) (by rw [List.getElem?_toArray, posC_at l i j _ (List.getElem?_eq_getElem hi) hj9]; exact hj)
  rw [Nat.zero_add]
  exact this
theorem its_row {w : World} {g : Nat} {xs : List Int} (r : RowA w g 3 (xs.map (fun x => Value.int .i64 x)).toArray) : Its w w.heap.size (some ⟨g, 0, none⟩) xs := fun _ => by
  refine ⟨g, 0, rfl, r.lt, fun i hi => ?_⟩
  rw [Nat.zero_add]
  refine r.at_ ?_
  rw [List.getElem?_toArray, List.getElem?_map, List.getElem?_eq_getElem hi, List.getD_eq_getElem?_getD, List.getElem?_eq_getElem hi]
  rfl
theorem its_none {w : World} {B : Nat} {A : Option Addr} : Its w B A [] := fun h => absurd rfl h
abbrev gC (p1 p2 p3 : Nat → Bool) (q2 q3 : Nat) : Array Value := #[.int .u64 (W p1 0), .int .u64 (W p1 1), .int .u64 (W p1 2), .int .u64 (W p1 3), .int .i64 1, .int .i64 1, .int .i64 0, .bool true, .slice (some ⟨q2, 0, none⟩) 1 1, .int .u64 (W p2 0), .int .u64 (W p2 1), .int .u64 (W p2 2), .int .u64 (W p2 3), .int .i64 1, .int .i64 1, .int .i64 0, .bool true, .slice (some ⟨q3, 0, none⟩) 1 1, .int .u64 (W p3 0), .int .u64 (W p3 1), .int .u64 (W p3 2), .int .u64 (W p3 3), .int .i64 2, .int .i64 9, .int .i64 1, .bool true, .slice none 0 0]
theorem pls_two {w : World} {g1 g2 : List Gd} {A1 A2 : Option Addr} {c1 c2 : Nat} (h1 : Nds w w.heap.size A1 g1) (h2 : Nds w w.heap.size A2 g2) {m1 m2 : Nat} (e1 : g1.length = m1) (e2 : g2.length = m2) {t : TypeId} : Pls (w.alloc (.cells #[.slice A1 m1 c1, .slice A2 m2 c2] t)) (w.alloc (.cells #[.slice A1 m1 c1, .slice A2 m2 c2] t)).heap.size (some ⟨w.heap.size, 0, none⟩) [g1, g2] := fun _ => by
  subst e1 e2
  have R := RowA.new w t #[.slice A1 g1.length c1, .slice A2 g2.length c2]
  have b : Below w.heap.size w (w.alloc (.cells #[.slice A1 g1.length c1, .slice A2 g2.length c2] t)) := (Below.refl _ _).alloc (Nat.le_refl _) _
  refine ⟨w.heap.size, 0, rfl, R.lt, fun i hi => ?_⟩
  match i, hi with
  | 0, _ => exact ⟨A1, c1, R.at_ rfl, (h1.below b).more b.size⟩
  | 1, _ => exact ⟨A2, c2, R.at_ rfl, (h2.below b).more b.size⟩
set_option maxHeartbeats 1000000 in
theorem gshown_any (w : World) : Calls Try.prog 13 #[] w fun e w' => e = .returned (.bool true) ∧ Below w.heap.size w w' := by
  have H1 := hidd (fun u => gof_any (s := gA1) (by decide) (by decide) gp1 gl1 go1 u)
  have H2 := hidd (fun u => gof_any (s := gA2) (by decide) (by decide) gp2 gl2 go2 u)
  go_enter Try.func13, Try.ntmps13
  go_wp2_with fail
  refine (H1.out _).mono ?_
  rintro e w1 ⟨b1, A1, c1, g1, rfl, N1, G1⟩
  obtain ⟨m1, hm1⟩ : ∃ m1, g1.length = m1 := ⟨_, rfl⟩
  have HB1 := hidd b1
  have HN1 := hidd N1
  have HG1 := hidd G1
  have HM1 := hidd hm1
  rw [hm1]
  clear b1 N1 G1 hm1 H1
  go_wp2_with fail
  refine (H2.out _).mono ?_
  rintro e w2 ⟨b2, A2, c2, g2, rfl, N2, G2⟩
  obtain ⟨m2, hm2⟩ : ∃ m2, g2.length = m2 := ⟨_, rfl⟩
  have hp := pls_two (t := 36) (c1 := c1) (c2 := c2) ((HN1.out.below b2).more b2.size) N2 HM1.out hm2
  have HB2 := hidd (HB1.out.trans (b2.mono HB1.out.size))
  have HG2 := hidd G2
  have hok : PlsOk [g1, g2] := fun gs hg => by
    simp only [List.mem_cons, List.not_mem_nil, or_false] at hg
    rcases hg with e | e
    · subst e; exact ⟨by have := HG1.out.1; simp at this; omega, gn_sm HG1.out gt1⟩
    · subst e; exact ⟨by have := G2.1; simp at this; omega, gn_sm G2 gt2⟩
  have hpn : PlN [g1, g2] [gO1, gO2] := ⟨rfl, fun i hi => by
    match i, hi with
    | 0, _ => exact ⟨HG1.out, gt1, gl1, gr1⟩
    | 1, _ => exact ⟨G2, gt2, gl2, gr2⟩⟩
  have hc := (Oo.of_ok (some ⟨w2.heap.size, 0, none⟩) 2 [g1, g2] [gO1, gO2] _ hp hok (show 2 ≤ 512 by decide) hpn (by decide)).mono fun e u' h => of_read h
  rw [go_of] at hc
  rw [hm2]
  clear hp hok hpn b2 N2 G2 hm2 H2 HN1 HG1 HG2 HM1
  have HS1 : Hid (∀ u, Calls Try.prog 29 #[.int .u8 97] u fun e w' => e = .returned (.agg #[.int .u64 (W (oneS 97) 0), .int .u64 (W (oneS 97) 1), .int .u64 (W (oneS 97) 2), .int .u64 (W (oneS 97) 3)]) ∧ Below u.heap.size u w') := fun u => gset_any 97 (by decide) u
  have HS2 : Hid (∀ u, Calls Try.prog 29 #[.int .u8 98] u fun e w' => e = .returned (.agg #[.int .u64 (W (oneS 98) 0), .int .u64 (W (oneS 98) 1), .int .u64 (W (oneS 98) 2), .int .u64 (W (oneS 98) 3)]) ∧ Below u.heap.size u w') := fun u => gset_any 98 (by decide) u
  have HS3 : Hid (∀ u, Calls Try.prog 29 #[.int .u8 99] u fun e w' => e = .returned (.agg #[.int .u64 (W (oneS 99) 0), .int .u64 (W (oneS 99) 1), .int .u64 (W (oneS 99) 2), .int .u64 (W (oneS 99) 3)]) ∧ Below u.heap.size u w') := fun u => gset_any 99 (by decide) u
  obtain ⟨w3, hw3⟩ : ∃ w3, w2.alloc (.cells #[.slice A1 m1 c1, .slice A2 m2 c2] 36) = w3 := ⟨_, rfl⟩
  have HB3 : Hid (Below w.heap.size w w3) := by rw [← hw3]; exact HB2.out.trans (((Below.refl _ _).alloc (Nat.le_refl _) _).mono HB2.out.size)
  rw [hw3] at hc
  go_wp2_with fail
  refine hc.mono ?_
  clear hc hw3 HB2 HB1
  rintro e w4 ⟨b4, FA, Fc, PA, Pc, rfl, hI, hP⟩
  have HB4 := hidd (HB3.out.trans (b4.mono HB3.out.size))
  have HI := hidd hI
  have HPP := hidd hP
  clear b4 hI hP HB3
  go_wp2_with fail
  have R0 := RowA.new w4 26 #[.slice FA 2 Fc, .slice PA 3 Pc]
  have hs5 : (w4.alloc (.cells #[.slice FA 2 Fc, .slice PA 3 Pc] 26)).heap.size = w4.heap.size + 1 := World.size_alloc ..
  have R1 := RowA.new (w4.alloc (.cells #[.slice FA 2 Fc, .slice PA 3 Pc] 26)) 3 #[.int .i64 0, .int .i64 2]
  have R0b := R0.alloc (.cells #[.int .i64 0, .int .i64 2] 3)
  have b5 : Below w4.heap.size w4 ((w4.alloc (.cells #[.slice FA 2 Fc, .slice PA 3 Pc] 26)).alloc (.cells #[.int .i64 0, .int .i64 2] 3)) := ((Below.refl _ _).alloc (Nat.le_refl _) _).alloc (by rw [hs5]; omega) _
  rw [hs5] at R1
  generalize (w4.alloc (.cells #[.slice FA 2 Fc, .slice PA 3 Pc] 26)).alloc (.cells #[.int .i64 0, .int .i64 2] 3) = w5 at *
  obtain ⟨q0, hq0⟩ : ∃ q0, w4.heap.size = q0 := ⟨_, rfl⟩
  obtain ⟨q1, hq1⟩ : ∃ q1, q0 + 1 = q1 := ⟨_, rfl⟩
  have HQ0 := hidd hq0
  rw [hq0] at R0b R1 ⊢
  rw [hq1] at R1 ⊢
  have HB5 := hidd b5
  have HR0 := hidd R0b
  have HR1 := hidd R1
  clear R0 R0b R1 b5 hs5 hq0 hq1
  refine (HS1.out _).mono ?_
  rintro e w6 ⟨rfl, b6⟩
  have HB6 := hidd (HB5.out.trans (b6.mono HB5.out.size))
  have HR0b := hidd (HR0.out.below b6 HR0.out.lt)
  have HR1b := hidd (HR1.out.below b6 HR1.out.lt)
  clear b6 HB5 HR0 HR1 HS1
  obtain ⟨p1, hp1⟩ : ∃ p, oneS 97 = p := ⟨_, rfl⟩
  have HP1 := hidd hp1
  rw [hp1]
  clear hp1
  go_wp2_with fail
  have R2 := RowA.new w6 3 #[.int .i64 1]
  have b7 : Below w6.heap.size w6 (w6.alloc (.cells #[.int .i64 1] 3)) := (Below.refl _ _).alloc (Nat.le_refl _) _
  generalize w6.alloc (.cells #[.int .i64 1] 3) = w7 at *
  obtain ⟨q2, hq2⟩ : ∃ q2, w6.heap.size = q2 := ⟨_, rfl⟩
  rw [hq2] at R2 ⊢
  clear hq2
  have HR2 := hidd R2
  have HB7 := hidd b7
  clear R2 b7
  refine (HS2.out _).mono ?_
  rintro e w8 ⟨rfl, b8⟩
  have b78 := HB7.out.trans (b8.mono HB7.out.size)
  have HB8 := hidd (HB6.out.trans (b78.mono HB6.out.size))
  have HR0c := hidd (HR0b.out.below b78 HR0b.out.lt)
  have HR1c := hidd (HR1b.out.below b78 HR1b.out.lt)
  have HR2c := hidd (HR2.out.below b8 HR2.out.lt)
  clear b8 b78 HB7 HR0b HR1b HR2 HS2 HB6
  obtain ⟨p2, hp2⟩ : ∃ p, oneS 98 = p := ⟨_, rfl⟩
  have HP2 := hidd hp2
  rw [hp2]
  clear hp2
  go_wp2_with fail
  have R3 := RowA.new w8 3 #[.int .i64 1]
  have b9 : Below w8.heap.size w8 (w8.alloc (.cells #[.int .i64 1] 3)) := (Below.refl _ _).alloc (Nat.le_refl _) _
  generalize w8.alloc (.cells #[.int .i64 1] 3) = w9 at *
  obtain ⟨q3, hq3⟩ : ∃ q3, w8.heap.size = q3 := ⟨_, rfl⟩
  rw [hq3] at R3 ⊢
  clear hq3
  have HR3 := hidd R3
  have HB9 := hidd b9
  clear R3 b9
  refine (HS3.out _).mono ?_
  rintro e w10 ⟨rfl, b10⟩
  have b90 := HB9.out.trans (b10.mono HB9.out.size)
  have HB10 := hidd (HB8.out.trans (b90.mono HB8.out.size))
  have HR0d := hidd (HR0c.out.below b90 HR0c.out.lt)
  have HR1d := hidd (HR1c.out.below b90 HR1c.out.lt)
  have HR2d := hidd (HR2c.out.below b90 HR2c.out.lt)
  have HR3d := hidd (HR3.out.below b10 HR3.out.lt)
  clear b10 b90 HB9 HR0c HR1c HR2c HR3 HS3 HB8
  obtain ⟨p3, hp3⟩ : ∃ p, oneS 99 = p := ⟨_, rfl⟩
  have HP3 := hidd hp3
  rw [hp3]
  clear hp3
  go_upto_region 4 with fail
  have R4 := RowA.new w10 44 (gC p1 p2 p3 q2 q3)
  have hs11 : (w10.alloc (.cells (gC p1 p2 p3 q2 q3) 44)).heap.size = w10.heap.size + 1 := World.size_alloc ..
  have R5 := RowA.new (w10.alloc (.cells (gC p1 p2 p3 q2 q3) 44)) 26 #[.slice (some ⟨q1, 0, none⟩) 2 2, .slice (some ⟨w10.heap.size, 0, none⟩) 3 3]
  have b12 : Below w10.heap.size w10 ((w10.alloc (.cells (gC p1 p2 p3 q2 q3) 44)).alloc (.cells #[.slice (some ⟨q1, 0, none⟩) 2 2, .slice (some ⟨w10.heap.size, 0, none⟩) 3 3] 26)) := ((Below.refl _ _).alloc (Nat.le_refl _) _).alloc (by rw [hs11]; omega) _
  have R4b := R4.alloc (.cells #[.slice (some ⟨q1, 0, none⟩) 2 2, .slice (some ⟨w10.heap.size, 0, none⟩) 3 3] 26)
  rw [hs11] at R5
  generalize (w10.alloc (.cells (gC p1 p2 p3 q2 q3) 44)).alloc (.cells #[.slice (some ⟨q1, 0, none⟩) 2 2, .slice (some ⟨w10.heap.size, 0, none⟩) 3 3] 26) = w12 at *
  clear R4 hs11
  have HB12 := hidd (HB10.out.trans (b12.mono HB10.out.size))
  have R0e := HR0d.out.below b12 HR0d.out.lt
  have R1e := HR1d.out.below b12 HR1d.out.lt
  have R2e := HR2d.out.below b12 HR2d.out.lt
  have R3e := HR3d.out.below b12 HR3d.out.lt
  have hq45 : w4.heap.size ≤ w12.heap.size := by have h1 := R0e.lt; have h2 := HQ0.out; omega
  have hB4 : Below w4.heap.size w4 w12 := HB12.out
  obtain ⟨q4, hq4⟩ : ∃ q4, w10.heap.size = q4 := ⟨_, rfl⟩
  rw [hq4] at R4b R5 ⊢
  clear hq4
  have x0 : w12.cell? ⟨q0, 0, none⟩ = some (.slice FA 2 Fc) := R0e.at_ rfl
  have x1 : w12.cell? ⟨q0, 1, none⟩ = some (.slice PA 3 Pc) := R0e.at_ rfl
  have y0 : w12.cell? ⟨q4 + 1, 0, none⟩ = some (.slice (some ⟨q1, 0, none⟩) 2 2) := R5.at_ rfl
  have y1 : w12.cell? ⟨q4 + 1, 1, none⟩ = some (.slice (some ⟨q4, 0, none⟩) 3 3) := R5.at_ rfl
  have hPW := pcs_row (l := [(⟨p1, 1, 1, 0, true, [1]⟩, some ⟨q2, 0, none⟩, 1), (⟨p2, 1, 1, 0, true, [1]⟩, some ⟨q3, 0, none⟩, 1), (⟨p3, 2, 9, 1, true, []⟩, none, 0)]) R4b (fun x hx => by
    simp only [List.mem_cons, List.not_mem_nil, or_false] at hx
    rcases hx with e | e | e
    · subst e; exact its_row (xs := [1]) R2e
    · subst e; exact its_row (xs := [1]) R3e
    · subst e; exact its_none)
  have hc := rSame_any FA (some ⟨q1, 0, none⟩) PA (some ⟨q4, 0, none⟩) Fc 2 Pc 3 [0, 2] gW _ w12 ((HI.out.below hB4).more hq45) (its_row (xs := [0, 2]) R1e) ((HPP.out.below hB4).more hq45) hPW ⟨rfl, fun i hi => by
    match i, hi with
    | 0, _ => exact ⟨fun b _ => by rw [← HP1.out]; rfl, rfl, rfl, rfl, rfl, rfl⟩
    | 1, _ => exact ⟨fun b _ => by rw [← HP2.out]; rfl, rfl, rfl, rfl, rfl, rfl⟩
    | 2, _ => exact ⟨fun b _ => by rw [← HP3.out]; rfl, rfl, rfl, rfl, rfl, rfl⟩⟩ (by decide) (show 3 ≤ 1000 by decide) (fun i hi => by
    match i, hi with
    | 0, _ => exact (show 1 ≤ 1000 by decide)
    | 1, _ => exact (show 1 ≤ 1000 by decide)
    | 2, _ => exact (show 0 ≤ 1000 by decide))
  clear R0e R1e R2e R3e R4b R5 hPW hB4 hq45 b12 HR0d HR1d HR2d HR3d HI HPP HP1 HP2 HP3 HB10
  go_wp2_with fail
  refine hc.mono ?_
  rintro e w13 ⟨rfl, b13⟩
  have HB13 := hidd (HB12.out.trans (b13.mono HB12.out.size))
  clear hc b13
  go_wp2
  go_ret
  exact ⟨rfl, HB4.out.trans (HB13.out.mono HB4.out.size)⟩
end Go.Proofs.Ytahhiajliomcfaa.Sy.Gl

/- How many nodes a repetition written out has: the statement's walk. -/
import Derived.Test.YtdaaigkmlbpbgaaPIa
import Derived.Test.YtdaaigkmlbpbgaaPAn
namespace Go.Proofs.Ytdaaigkmlbpbgaa.Sy.Pl
open Go.RowKit Go.Proofs.Ytdaaigkmlbpbgaa.Sy.Ap Go.Proofs.Ytdaaigkmlbpbgaa.Sy.Lg
set_option maxRecDepth 100000
set_option linter.unusedVariables false

abbrev coN (a : Nat) (hi : Int) : List Nd := [ndBytes (oneB 1), ndBytes (oneB 2), ndCat [0, 1], ndRep 2 a hi]
abbrev coG (a : Nat) (hi : Int) : List Gd := [gB 1, gB 2, gK 3 [0, 1] 0 0, gK 5 [2] a hi]
abbrev coC (q : Nat) (a : Nat) (hi : Int) : Array Value := #[.int .u8 2, .int .u64 2, .int .u64 0, .int .u64 0, .int .u64 0, .slice none 0 0, .int .i64 0, .int .i64 0, .string { data := #[] }, .int .u8 2, .int .u64 4, .int .u64 0, .int .u64 0, .int .u64 0, .slice none 0 0, .int .i64 0, .int .i64 0, .string { data := #[] }, .int .u8 3, .int .u64 0, .int .u64 0, .int .u64 0, .int .u64 0, .slice (some ⟨q, 0, none⟩) 2 2, .int .i64 0, .int .i64 0, .string { data := #[] }, .int .u8 5, .int .u64 0, .int .u64 0, .int .u64 0, .int .u64 0, .slice (some ⟨q + 1, 0, none⟩) 1 1, .int .i64 (a : Int), .int .i64 hi, .string { data := #[] }]
theorem co_tree {a : Nat} {hi : Int} (h1 : a ≤ 30) (h2 : hi = -1 ∨ (1 ≤ hi ∧ hi ≤ 100 ∧ (a : Int) ≤ hi)) : TreeN (coN a hi) ∧ PlainN (coN a hi) := by
  refine ⟨⟨fun n hn => ?_, by show 1 ≤ 4; omega, by show 4 ≤ 1024; omega, ?_⟩, fun n hn => ?_⟩
  · simp only [List.mem_cons, List.not_mem_nil, or_false] at hn
    rcases hn with rfl | rfl | rfl | rfl
    · show shapeB (ndBytes (oneB 1)) = true
      decide +kernel
    · show shapeB (ndBytes (oneB 2)) = true
      decide +kernel
    · exact (shape_kids (by simp)).1
    · exact shape_rep (by omega) (by omega) (by rcases h2 with q | q; exact .inl q; exact .inr ⟨q.1, by omega, q.2.2⟩)
  · have f0 : Forest (coN a hi) 0 1 [0] := Forest.snoc (n := ndBytes (oneB 1)) (Forest.nil 0) rfl (Forest.nil 0)
    have f1 : Forest (coN a hi) 0 2 [0, 1] := Forest.snoc (n := ndBytes (oneB 2)) f0 rfl (Forest.nil 1)
    have f2 : Forest (coN a hi) 0 3 [2] := Forest.snoc (n := ndCat [0, 1]) (Forest.nil 0) rfl f1
    exact Forest.snoc (n := ndRep 2 a hi) (Forest.nil 0) rfl f2
  · simp only [List.mem_cons, List.not_mem_nil, or_false] at hn
    rcases hn with rfl | rfl | rfl | rfl
    · show (2 : Nat) ≠ 6; decide
    · show (2 : Nat) ≠ 6; decide
    · show (3 : Nat) ≠ 6; decide
    · show (5 : Nat) ≠ 6; decide
theorem co_gn (a : Nat) (hi : Int) : GN (coG a hi) (coN a hi) := by
  refine ⟨rfl, fun i hi => ?_⟩
  have hi : i < 4 := hi
  have : i = 0 ∨ i = 1 ∨ i = 2 ∨ i = 3 := by omega
  rcases this with rfl | rfl | rfl | rfl
  · exact ⟨rfl, fun _ _ => rfl, rfl, rfl, rfl, rfl⟩
  · exact ⟨rfl, fun _ _ => rfl, rfl, rfl, rfl, rfl⟩
  · exact ⟨rfl, fun _ _ => rfl, rfl, rfl, rfl, rfl⟩
  · exact ⟨rfl, fun _ _ => rfl, rfl, rfl, rfl, rfl⟩
theorem co_nodes (q a : Nat) (hi : Int) : nodesC [(gB 1, none, 0), (gB 2, none, 0), (gK 3 [0, 1] 0 0, some ⟨q, 0, none⟩, 2), (gK 5 [2] a hi, some ⟨q + 1, 0, none⟩, 1)] = (coC q a hi).toList := by
  obtain ⟨h1, h2, h3, h4⟩ := w1_two
  obtain ⟨k1, k2, k3, k4⟩ := w2_four
  unfold nodesC
  simp only [List.flatMap_cons, List.flatMap_nil, List.append_nil, gB_row 1 2 h1 h2 h3 h4, gB_row 2 4 k1 k2 k3 k4, gK_row]
  rfl
/-- The four nodes as they were made. -/
structure CoM (B q : Nat) (a : Nat) (hi : Int) (u : World) : Prop where
  own : u.ownsRow (q + 1 + 1) 38 9 (.slice (some ⟨q + 1 + 1, 0, none⟩) 4 4) 4 (coC q a hi).toList
  r0 : RowA u q 3 #[.int .i64 0, .int .i64 1]
  r1 : RowA u (q + 1) 3 #[.int .i64 2]
  r2 : RowA u (q + 1 + 1) 38 (coC q a hi)
theorem CoM.nds {B q a : Nat} {hi : Int} {u : World} (h : CoM B q a hi u) : Nds u u.heap.size (some ⟨q + 1 + 1, 0, none⟩) (coG a hi) := by
  obtain ⟨A', c', e1, e2, -⟩ := own_nds (l := [(gB 1, none, 0), (gB 2, none, 0), (gK 3 [0, 1] 0 0, some ⟨q, 0, none⟩, 2), (gK 5 [2] a hi, some ⟨q + 1, 0, none⟩, 1)]) (B := q + 1 + 1) (v := .slice (some ⟨q + 1 + 1, 0, none⟩) 4 4) (by
    rw [co_nodes]
    exact h.own) (fun x hx => by
    simp only [List.mem_cons, List.not_mem_nil, or_false] at hx
    rcases hx with rfl | rfl | rfl | rfl
    · intro q; exact absurd rfl q
    · intro q; exact absurd rfl q
    · intro _
      refine ⟨q, 0, rfl, h.r0.lt, fun i hi => ?_⟩
      have hi : i < 2 := hi
      have : i = 0 ∨ i = 1 := by omega
      rcases this with rfl | rfl
      · exact h.r0.at_ rfl
      · exact h.r0.at_ rfl
    · intro _
      refine ⟨q + 1, 0, rfl, h.r1.lt, fun i hi => ?_⟩
      have hi : i < 1 := hi
      have : i = 0 := by omega
      subst this
      exact h.r1.at_ rfl)
  cases e1
  exact e2
theorem com_new (w : World) (a : Nat) (hi : Int) : CoM 0 w.heap.size a hi (((w.alloc (.cells #[.int .i64 0, .int .i64 1] 3)).alloc (.cells #[.int .i64 2] 3)).alloc (.cells (coC w.heap.size a hi) 38)) ∧ Below w.heap.size w (((w.alloc (.cells #[.int .i64 0, .int .i64 1] 3)).alloc (.cells #[.int .i64 2] 3)).alloc (.cells (coC w.heap.size a hi) 38)) := by
  have s1 : (w.alloc (.cells #[.int .i64 0, .int .i64 1] 3)).heap.size = w.heap.size + 1 := World.size_alloc ..
  have s2 : ((w.alloc (.cells #[.int .i64 0, .int .i64 1] 3)).alloc (.cells #[.int .i64 2] 3)).heap.size = w.heap.size + 1 + 1 := by rw [World.size_alloc, s1]
  have b1 : Below w.heap.size w (w.alloc (.cells #[.int .i64 0, .int .i64 1] 3)) := (Below.refl _ _).alloc (Nat.le_refl _) _
  have b2 : Below (w.heap.size + 1) (w.alloc (.cells #[.int .i64 0, .int .i64 1] 3)) ((w.alloc (.cells #[.int .i64 0, .int .i64 1] 3)).alloc (.cells #[.int .i64 2] 3)) := (Below.refl _ _).alloc (by omega) _
  have b3 : Below (w.heap.size + 1 + 1) ((w.alloc (.cells #[.int .i64 0, .int .i64 1] 3)).alloc (.cells #[.int .i64 2] 3)) (((w.alloc (.cells #[.int .i64 0, .int .i64 1] 3)).alloc (.cells #[.int .i64 2] 3)).alloc (.cells (coC w.heap.size a hi) 38)) := (Below.refl _ _).alloc (by omega) _
  have o := World.ownsRow_lit (e := 38) (size := 9) ((w.alloc (.cells #[.int .i64 0, .int .i64 1] 3)).alloc (.cells #[.int .i64 2] 3)) (coC w.heap.size a hi) 4 (Nat.le_refl _) (by unfold maxLen; omega) rfl
  rw [s2] at o
  have r0 := RowA.new w 3 #[.int .i64 0, .int .i64 1]
  have r1 := RowA.new (w.alloc (.cells #[.int .i64 0, .int .i64 1] 3)) 3 #[.int .i64 2]
  rw [s1] at r1
  have r2 := RowA.new ((w.alloc (.cells #[.int .i64 0, .int .i64 1] 3)).alloc (.cells #[.int .i64 2] 3)) 38 (coC w.heap.size a hi)
  rw [s2] at r2
  exact ⟨⟨o, (r0.below (b2.trans (b3.mono (by omega))) (by omega)), r1.below b3 (by omega), r2⟩, b1.trans ((b2.mono (by omega)).trans (b3.mono (by omega)))⟩
theorem CoM.set {q a : Nat} {hi : Int} {u : World} (h : CoM 0 q a hi u) : CoM 0 q a (-1) (u.setCell ⟨q + 1 + 1, 34, none⟩ (.int .i64 (-1))) := by
  refine ⟨?_, h.r0.far (a := ⟨q + 1 + 1, 34, none⟩) (by show q ≠ q + 1 + 1; omega) _, h.r1.far (a := ⟨q + 1 + 1, 34, none⟩) (by show q + 1 ≠ q + 1 + 1; omega) _, h.r2.set 34 (.int .i64 (-1))⟩
  exact own_put h.own (j := 34) (by show 34 < 36; omega) (.int .i64 (-1))
theorem CoM.cell {q a : Nat} {hi : Int} {u : World} (h : CoM 0 q a hi u) : u.cell? ⟨q + 1 + 1, 34, none⟩ = some (.int .i64 hi) := h.own.cells (g := q + 1 + 1) rfl 34 _ rfl
/-- What Tree tells of it: so many nodes, none of them counted. -/
theorem co_plan {a : Nat} {hi : Int} (h1 : a ≤ 30) (h2 : hi = -1 ∨ (1 ≤ hi ∧ hi ≤ 100 ∧ (a : Int) ≤ hi)) {m : Nat} (hm : m = a * 3 + tailM 3 a hi + (if a + tailI a hi = 1 then 0 else 1)) {u : World} {q : Nat} (hC : CoM 0 q a hi u) :
    Calls Try.prog 10 #[.slice (some ⟨q + 1 + 1, 0, none⟩) 4 4, .int .i64 5] u fun e w' => Below u.heap.size u w' ∧ ∃ A c, e = .returned (.tuple #[.slice A m c, .int .i64 0]) ∧ AskR w' A c m 0 := by
  obtain ⟨t1, t2⟩ := co_tree h1 h2
  have hle : a * 3 + tailM 3 a hi + (if a + tailI a hi = 1 then 0 else 1) ≤ 1024 := by
    have h3 : (if a + tailI a hi = 1 then 0 else 1) ≤ 1 := by split <;> omega
    have h4 : tailM 3 (a : Int) hi ≤ 605 := by
      unfold tailM
      split
      · omega
      · rename_i q1
        rcases h2 with q | q
        · exact absurd q q1
        · split <;> omega
    omega
  obtain ⟨o, ho, hl, hs⟩ := plan_copies (n0 := ndBytes (oneB 1)) (n1 := ndBytes (oneB 2)) (n2 := ndCat [0, 1]) (n3 := ndRep 2 a hi) (by show (2 : Nat) ≠ 5; decide) rfl (by show (2 : Nat) ≠ 5; decide) rfl rfl rfl rfl rfl 5 hle
  have hl2 : o.length = m := by rw [hl, hm]; rfl
  have ho : planN (coN a hi) 5 = some o := ho
  obtain ⟨s1, s2⟩ := stars hs
  obtain ⟨p1, p2, -⟩ := plan_means t1 t2 ho
  have := tree_ok (some ⟨q + 1 + 1, 0, none⟩) 4 _ _ 5 (by omega) (by omega) u hC.nds (co_gn a hi) t1 t2
  rw [ho] at this
  refine this.mono ?_
  rintro e w' ⟨b, A, c, go, rfl, N, G, -⟩
  have hgl : go.length = m := by rw [G.1, hl2]
  refine ⟨b, A, c, by rw [hgl], ?_⟩
  have := ask_of (c := c) N G p1 p2 s2
  rw [s1, hgl] at this
  exact this
set_option maxHeartbeats 8000000 in
theorem lawCopies_any (x y : Int) (z : Bool) (w : World) (hx : 0 ≤ x) (hy : 0 ≤ y) :
    Calls Try.prog 8 #[.int .u8 x, .int .u8 y, .bool z] w fun e w' => e = .returned (.bool true) ∧ Below w.heap.size w w' := by
  have hsh := shown8_any w
  obtain ⟨k, hk, hk4⟩ := mod_most hy 61 (by omega)
  obtain ⟨a, hk2, hk24⟩ := mod_most hx 31 (by omega)
  obtain ⟨b, hb⟩ : ∃ b : Nat, (a : Int) + (k : Int) = (b : Int) := ⟨a + k, by omega⟩
  have p1 : a ≤ 30 := by omega
  by_cases h0 : b = 0
  · have hb0 : ((b : Int) == 0) = true := by simp [h0]
    go_enter Try.func8, Try.ntmps8
    go_wp2_with fail
    refine hsh.mono ?_
    rintro e w1 ⟨rfl, b1⟩
    clear hsh
    go_wp2
    go_ret
    exact ⟨rfl, b1⟩
  · have hb0 : ((b : Int) == 0) = false := by simp [h0]
    have hb91 : b ≤ 90 := by omega
    obtain ⟨m1, hm1⟩ : ∃ m1 : Nat, 3 * (a : Int) = (m1 : Int) := ⟨3 * a, by omega⟩
    cases z with
    | true =>
      obtain ⟨m2, hm2⟩ : ∃ m2 : Nat, (m1 : Int) + 4 = (m2 : Int) := ⟨m1 + 4, by omega⟩
      obtain ⟨i2, hi2⟩ : ∃ i2 : Nat, (a : Int) + 1 = (i2 : Int) := ⟨a + 1, by omega⟩
      obtain ⟨m3, hm3⟩ : ∃ m3 : Nat, (m2 : Int) + 1 = (m3 : Int) := ⟨m2 + 1, by omega⟩
      have ht : tailM 3 (a : Int) (-1) = 4 := rfl
      have hti : tailI (a : Int) (-1) = 1 := rfl
      by_cases ha : a = 0
      · have hgt : ¬ (1 : Int) < (i2 : Int) := by omega
        have HA := hidd ha
        clear ha
        go_enter Try.func8, Try.ntmps8
        go_wp2_with fail
        refine hsh.mono ?_
        rintro e w1 ⟨rfl, b1⟩
        obtain ⟨hC, hBn⟩ := com_new w1 a (b : Int)
        have HC := hidd hC
        have HBZ := hidd (b1.trans (hBn.mono b1.size))
        have d34 := hC.cell
        have ht34 := hC.r2.thawed
        clear hsh hBn hC
        go_upto_region 8 with fail
        generalize (((w1.alloc (.cells #[.int .i64 0, .int .i64 1] 3)).alloc (.cells #[.int .i64 2] 3)).alloc (.cells (coC w1.heap.size a b) 38)) = wz at *
        obtain ⟨q, hq⟩ : ∃ q, w1.heap.size = q := ⟨_, rfl⟩
        have hwq : w.heap.size ≤ q := by rw [← hq]; exact b1.size
        rw [hq] at HC d34 ht34
        rw [hq]
        clear hq b1
        have HC := hidd HC.out.set
        have HBZ := hidd (bel_set HBZ.out ⟨q + 1 + 1, 34, none⟩ (.int .i64 (-1)) (by show w.heap.size ≤ q + 1 + 1; omega))
        go_upto_region 10 with fail
        generalize wz.setCell ⟨q + 1 + 1, 34, none⟩ (.int .i64 (-1)) = wz at *
        clear d34 ht34
        have hc := co_plan (u := wz) (q := q) p1 (.inl rfl) (m := m2) (by rw [ht, hti, if_pos (by have := HA.out; omega)]; have := HA.out; omega) HC.out
        have HB := hidd HBZ.out
        clear HC HBZ
        go_wp2_with fail
        refine hc.mono ?_
        rintro e w3 ⟨b3, A3, c3, rfl, hA⟩
        have hc3 := hA.cnt w3 (Below.refl _ _)
        have HB3 := hidd (HB.out.trans (b3.mono HB.out.size))
        clear hc b3 HB hA
        go_wp2_with fail
        refine hc3.mono ?_
        rintro e w4 ⟨rfl, b4⟩
        have HB4 := hidd (HB3.out.trans (b4.mono HB3.out.size))
        clear hc3 b4 HB3
        go_wp2
        go_ret
        exact ⟨rfl, HB4.out⟩
      · have hgt : (1 : Int) < (i2 : Int) := by omega
        have HA := hidd ha
        clear ha
        go_enter Try.func8, Try.ntmps8
        go_wp2_with fail
        refine hsh.mono ?_
        rintro e w1 ⟨rfl, b1⟩
        obtain ⟨hC, hBn⟩ := com_new w1 a (b : Int)
        have HC := hidd hC
        have HBZ := hidd (b1.trans (hBn.mono b1.size))
        have d34 := hC.cell
        have ht34 := hC.r2.thawed
        clear hsh hBn hC
        go_upto_region 8 with fail
        generalize (((w1.alloc (.cells #[.int .i64 0, .int .i64 1] 3)).alloc (.cells #[.int .i64 2] 3)).alloc (.cells (coC w1.heap.size a b) 38)) = wz at *
        obtain ⟨q, hq⟩ : ∃ q, w1.heap.size = q := ⟨_, rfl⟩
        have hwq : w.heap.size ≤ q := by rw [← hq]; exact b1.size
        rw [hq] at HC d34 ht34
        rw [hq]
        clear hq b1
        have HC := hidd HC.out.set
        have HBZ := hidd (bel_set HBZ.out ⟨q + 1 + 1, 34, none⟩ (.int .i64 (-1)) (by show w.heap.size ≤ q + 1 + 1; omega))
        go_upto_region 10 with fail
        generalize wz.setCell ⟨q + 1 + 1, 34, none⟩ (.int .i64 (-1)) = wz at *
        clear d34 ht34
        have hc := co_plan (u := wz) (q := q) p1 (.inl rfl) (m := m3) (by rw [ht, hti, if_neg (by have := HA.out; omega)]; have := HA.out; omega) HC.out
        have HB := hidd HBZ.out
        clear HC HBZ
        go_wp2_with fail
        refine hc.mono ?_
        rintro e w3 ⟨b3, A3, c3, rfl, hA⟩
        have hc3 := hA.cnt w3 (Below.refl _ _)
        have HB3 := hidd (HB.out.trans (b3.mono HB.out.size))
        clear hc b3 HB hA
        go_wp2_with fail
        refine hc3.mono ?_
        rintro e w4 ⟨rfl, b4⟩
        have HB4 := hidd (HB3.out.trans (b4.mono HB3.out.size))
        clear hc3 b4 HB3
        go_wp2
        go_ret
        exact ⟨rfl, HB4.out⟩
    | false =>
      have hor : (b : Int) = -1 ∨ (1 ≤ (b : Int) ∧ (b : Int) ≤ 100 ∧ (a : Int) ≤ (b : Int)) := .inr ⟨by omega, by omega, by omega⟩
      by_cases hab : a < b
      · have habi : (a : Int) < (b : Int) := by omega
        obtain ⟨d, hd⟩ : ∃ d : Nat, (b : Int) - (a : Int) = (d : Int) := ⟨b - a, by omega⟩
        obtain ⟨e5, he5⟩ : ∃ e5 : Nat, 5 * (d : Int) = (e5 : Int) := ⟨5 * d, by omega⟩
        obtain ⟨m2, hm2⟩ : ∃ m2 : Nat, (m1 : Int) + (e5 : Int) = (m2 : Int) := ⟨m1 + e5, by omega⟩
        obtain ⟨d1, hd1⟩ : ∃ d1 : Nat, (d : Int) - 1 = (d1 : Int) := ⟨d - 1, by omega⟩
        obtain ⟨m3, hm3⟩ : ∃ m3 : Nat, (m2 : Int) + (d1 : Int) = (m3 : Int) := ⟨m2 + d1, by omega⟩
        obtain ⟨i2, hi2⟩ : ∃ i2 : Nat, (a : Int) + 1 = (i2 : Int) := ⟨a + 1, by omega⟩
        obtain ⟨m4, hm4⟩ : ∃ m4 : Nat, (m3 : Int) + 1 = (m4 : Int) := ⟨m3 + 1, by omega⟩
        have ht : tailM 3 (a : Int) (b : Int) = 3 + 2 + ((b : Int) - (a : Int) - 1).toNat * (3 + 3) := by unfold tailM; rw [if_neg (by omega), if_pos habi]
        have hti : tailI (a : Int) (b : Int) = 1 := by unfold tailI; rw [if_pos (.inr habi)]
        have HTM := hidd (And.intro ht hti)
        clear ht hti
        by_cases ha : a = 0
        · have hgt : ¬ (1 : Int) < (i2 : Int) := by omega
          have HA := hidd ha
          clear ha
          go_enter Try.func8, Try.ntmps8
          go_wp2_with fail
          refine hsh.mono ?_
          rintro e w1 ⟨rfl, b1⟩
          obtain ⟨hC, hBn⟩ := com_new w1 a (b : Int)
          have HC := hidd hC
          have HBZ := hidd (b1.trans (hBn.mono b1.size))
          have d34 := hC.cell
          have ht34 := hC.r2.thawed
          clear hsh hBn hC
          go_upto_region 8 with fail
          generalize (((w1.alloc (.cells #[.int .i64 0, .int .i64 1] 3)).alloc (.cells #[.int .i64 2] 3)).alloc (.cells (coC w1.heap.size a b) 38)) = wz at *
          obtain ⟨q, hq⟩ : ∃ q, w1.heap.size = q := ⟨_, rfl⟩
          have hwq : w.heap.size ≤ q := by rw [← hq]; exact b1.size
          rw [hq] at HC d34 ht34
          rw [hq]
          clear hq b1
          clear d34 ht34
          have hc := co_plan (u := wz) (q := q) p1 hor (m := m3) (by rw [HTM.out.1, HTM.out.2, if_pos (by have := HA.out; omega)]; have := HA.out; omega) HC.out
          have HB := hidd HBZ.out
          clear HC HBZ
          go_wp2_with fail
          refine hc.mono ?_
          rintro e w3 ⟨b3, A3, c3, rfl, hA⟩
          have hc3 := hA.cnt w3 (Below.refl _ _)
          have HB3 := hidd (HB.out.trans (b3.mono HB.out.size))
          clear hc b3 HB hA
          go_wp2_with fail
          refine hc3.mono ?_
          rintro e w4 ⟨rfl, b4⟩
          have HB4 := hidd (HB3.out.trans (b4.mono HB3.out.size))
          clear hc3 b4 HB3
          go_wp2
          go_ret
          exact ⟨rfl, HB4.out⟩
        · have hgt : (1 : Int) < (i2 : Int) := by omega
          have HA := hidd ha
          clear ha
          go_enter Try.func8, Try.ntmps8
          go_wp2_with fail
          refine hsh.mono ?_
          rintro e w1 ⟨rfl, b1⟩
          obtain ⟨hC, hBn⟩ := com_new w1 a (b : Int)
          have HC := hidd hC
          have HBZ := hidd (b1.trans (hBn.mono b1.size))
          have d34 := hC.cell
          have ht34 := hC.r2.thawed
          clear hsh hBn hC
          go_upto_region 8 with fail
          generalize (((w1.alloc (.cells #[.int .i64 0, .int .i64 1] 3)).alloc (.cells #[.int .i64 2] 3)).alloc (.cells (coC w1.heap.size a b) 38)) = wz at *
          obtain ⟨q, hq⟩ : ∃ q, w1.heap.size = q := ⟨_, rfl⟩
          have hwq : w.heap.size ≤ q := by rw [← hq]; exact b1.size
          rw [hq] at HC d34 ht34
          rw [hq]
          clear hq b1
          clear d34 ht34
          have hc := co_plan (u := wz) (q := q) p1 hor (m := m4) (by rw [HTM.out.1, HTM.out.2, if_neg (by have := HA.out; omega)]; have := HA.out; omega) HC.out
          have HB := hidd HBZ.out
          clear HC HBZ
          go_wp2_with fail
          refine hc.mono ?_
          rintro e w3 ⟨b3, A3, c3, rfl, hA⟩
          have hc3 := hA.cnt w3 (Below.refl _ _)
          have HB3 := hidd (HB.out.trans (b3.mono HB.out.size))
          clear hc b3 HB hA
          go_wp2_with fail
          refine hc3.mono ?_
          rintro e w4 ⟨rfl, b4⟩
          have HB4 := hidd (HB3.out.trans (b4.mono HB3.out.size))
          clear hc3 b4 HB3
          go_wp2
          go_ret
          exact ⟨rfl, HB4.out⟩
      · have habi : ¬ (a : Int) < (b : Int) := by omega
        have ht : tailM 3 (a : Int) (b : Int) = 0 := by unfold tailM; rw [if_neg (by omega), if_neg habi]
        have hti : tailI (a : Int) (b : Int) = 0 := by unfold tailI; rw [if_neg (fun q => by rcases q with q | q <;> omega)]
        have HTM := hidd (And.intro ht hti)
        obtain ⟨m4, hm4⟩ : ∃ m4 : Nat, (m1 : Int) + 1 = (m4 : Int) := ⟨m1 + 1, by omega⟩
        clear ht hti
        by_cases ha : a = 1
        · have hgt : ¬ (1 : Int) < (a : Int) := by omega
          have HA := hidd ha
          clear ha
          go_enter Try.func8, Try.ntmps8
          go_wp2_with fail
          refine hsh.mono ?_
          rintro e w1 ⟨rfl, b1⟩
          obtain ⟨hC, hBn⟩ := com_new w1 a (b : Int)
          have HC := hidd hC
          have HBZ := hidd (b1.trans (hBn.mono b1.size))
          have d34 := hC.cell
          have ht34 := hC.r2.thawed
          clear hsh hBn hC
          go_upto_region 8 with fail
          generalize (((w1.alloc (.cells #[.int .i64 0, .int .i64 1] 3)).alloc (.cells #[.int .i64 2] 3)).alloc (.cells (coC w1.heap.size a b) 38)) = wz at *
          obtain ⟨q, hq⟩ : ∃ q, w1.heap.size = q := ⟨_, rfl⟩
          have hwq : w.heap.size ≤ q := by rw [← hq]; exact b1.size
          rw [hq] at HC d34 ht34
          rw [hq]
          clear hq b1
          clear d34 ht34
          have hc := co_plan (u := wz) (q := q) p1 hor (m := m1) (by rw [HTM.out.1, HTM.out.2, if_pos (by have := HA.out; omega)]; have := HA.out; omega) HC.out
          have HB := hidd HBZ.out
          clear HC HBZ
          go_wp2_with fail
          refine hc.mono ?_
          rintro e w3 ⟨b3, A3, c3, rfl, hA⟩
          have hc3 := hA.cnt w3 (Below.refl _ _)
          have HB3 := hidd (HB.out.trans (b3.mono HB.out.size))
          clear hc b3 HB hA
          go_wp2_with fail
          refine hc3.mono ?_
          rintro e w4 ⟨rfl, b4⟩
          have HB4 := hidd (HB3.out.trans (b4.mono HB3.out.size))
          clear hc3 b4 HB3
          go_wp2
          go_ret
          exact ⟨rfl, HB4.out⟩
        · have hgt : (1 : Int) < (a : Int) := by omega
          have HA := hidd ha
          clear ha
          go_enter Try.func8, Try.ntmps8
          go_wp2_with fail
          refine hsh.mono ?_
          rintro e w1 ⟨rfl, b1⟩
          obtain ⟨hC, hBn⟩ := com_new w1 a (b : Int)
          have HC := hidd hC
          have HBZ := hidd (b1.trans (hBn.mono b1.size))
          have d34 := hC.cell
          have ht34 := hC.r2.thawed
          clear hsh hBn hC
          go_upto_region 8 with fail
          generalize (((w1.alloc (.cells #[.int .i64 0, .int .i64 1] 3)).alloc (.cells #[.int .i64 2] 3)).alloc (.cells (coC w1.heap.size a b) 38)) = wz at *
          obtain ⟨q, hq⟩ : ∃ q, w1.heap.size = q := ⟨_, rfl⟩
          have hwq : w.heap.size ≤ q := by rw [← hq]; exact b1.size
          rw [hq] at HC d34 ht34
          rw [hq]
          clear hq b1
          clear d34 ht34
          have hc := co_plan (u := wz) (q := q) p1 hor (m := m4) (by rw [HTM.out.1, HTM.out.2, if_neg (by have := HA.out; omega)]; have := HA.out; omega) HC.out
          have HB := hidd HBZ.out
          clear HC HBZ
          go_wp2_with fail
          refine hc.mono ?_
          rintro e w3 ⟨b3, A3, c3, rfl, hA⟩
          have hc3 := hA.cnt w3 (Below.refl _ _)
          have HB3 := hidd (HB.out.trans (b3.mono HB.out.size))
          clear hc b3 HB hA
          go_wp2_with fail
          refine hc3.mono ?_
          rintro e w4 ⟨rfl, b4⟩
          have HB4 := hidd (HB3.out.trans (b4.mono HB3.out.size))
          clear hc3 b4 HB3
          go_wp2
          go_ret
          exact ⟨rfl, HB4.out⟩
end Go.Proofs.Ytdaaigkmlbpbgaa.Sy.Pl

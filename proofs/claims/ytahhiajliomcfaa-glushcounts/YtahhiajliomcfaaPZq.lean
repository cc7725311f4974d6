/- With most as great as may be nothing is counted, with most 1 all are that can be; how many nodes a repetition written out has: the statements' walks. -/
import Derived.Test.YtahhiajliomcfaaPGJ
import Derived.Test.YtahhiajliomcfaaPG1
import Derived.Test.YtahhiajliomcfaaPGK
import Derived.Test.YtahhiajliomcfaaPM4
import Derived.Test.YtahhiajliomcfaaPAg
import Derived.Test.YtahhiajliomcfaaPSe
import Derived.Test.YtahhiajliomcfaaPAn
namespace Go.Proofs.Ytahhiajliomcfaa.Sy.Pl
open Go.RowKit Go.Proofs.Ytahhiajliomcfaa.Sy.Ap Go.Proofs.Ytahhiajliomcfaa.Sy.Lg
set_option maxRecDepth 100000
set_option linter.unusedVariables false

/-! ### Plain -/
/-! ### In memory -/
def gK (op : Nat) (l : List Int) (lo hi : Int) : Gd := ⟨op, noB, l, lo, hi, { data := #[] }⟩
theorem gK_row (op : Nat) (l : List Int) (lo hi : Int) (A : Option Addr) (c : Nat) : gdL (gK op l lo hi) A c = [.int .u8 (op : Int), .int .u64 0, .int .u64 0, .int .u64 0, .int .u64 0, .slice A l.length c, .int .i64 lo, .int .i64 hi, .string { data := #[] }] := by
  simp only [gdL, gK, W_zero]
end Go.Proofs.Ytahhiajliomcfaa.Sy.Pl

namespace Go.Proofs.Ytahhiajliomcfaa.Sy.Gl
open Go.RowKit Go.Proofs.Ytahhiajliomcfaa.Sy.Ap Go.Proofs.Ytahhiajliomcfaa.Sy.Ap.Wk Go.Proofs.Ytahhiajliomcfaa.Sy.Lg Go.Proofs.Ytahhiajliomcfaa.Sy.Pl
set_option maxRecDepth 100000
set_option linter.unusedVariables false

abbrev kN (s : Nat → Bool) (a b : Nat) : List Nd := [ndBytes s, ndRep 0 a b]
theorem kN_tree {s : Nat → Bool} {a b : Nat} (hs : emptyS s = false) (h1 : a ≤ b) (h2 : 1 ≤ b) (h3 : b ≤ 4096) : TreeN (kN s a b) ∧ PlainN (kN s a b) := by
  refine ⟨⟨fun n hn => ?_, by show 1 ≤ 2; omega, by show 2 ≤ 1024; omega, ?_⟩, fun n hn => ?_⟩
  · rw [List.mem_cons, List.mem_singleton] at hn
    rcases hn with rfl | rfl
    · show shapeB (ndBytes s) = true
      simp [shapeB, ndBytes, hs]
    · exact shape_rep (by omega) (by omega) (.inr ⟨by omega, by omega, by omega⟩)
  · have f0 : Forest (kN s a b) 0 1 [0] := Forest.snoc (n := ndBytes s) (Forest.nil 0) rfl (Forest.nil 0)
    exact Forest.snoc (n := ndRep 0 a b) (Forest.nil 0) rfl f0
  · rw [List.mem_cons, List.mem_singleton] at hn
    rcases hn with rfl | rfl
    · show (2 : Nat) ≠ 6; decide
    · show (5 : Nat) ≠ 6; decide
theorem kN_right {s : Nat → Bool} {a b : Nat} (h1 : 1 ≤ a) (h2 : 2 ≤ b) : Rp (kN s a b) := by
  intro n hn h5
  rw [List.mem_cons, List.mem_singleton] at hn
  rcases hn with rfl | rfl
  · exact absurd h5 (by show (2 : Nat) ≠ 5; decide)
  · right
    have e1 : (1 : Int) ≤ (a : Int) := by omega
    have e2 : (2 : Int) ≤ (b : Int) := by omega
    simp [ctB, ndRep, ndBytes, e1, e2]
theorem kN_of {s : Nat → Bool} {a b : Nat} : ofG [kN s a b] = ([0], [⟨s, a, b, 0, true, []⟩]) := by
  have h : ¬ ((b : Int) = -1) := by omega
  have e : addG 0 (kN s a b) ⟨[], fun _ _ => false⟩ = ([⟨[0], [0], false⟩, ⟨[0], [0], may1 (ndRep 0 a b) [false]⟩], ⟨[⟨s, a, b, 0, false, []⟩], fun _ _ => false⟩) := by
    simp [addG, addStep, takeG, kidsG, ndBytes, ndRep, h, bndP]
    exact ⟨by simp [may1], by simp [may1]⟩
  have e2 : planG 0 (kN s a b) ([], ⟨[], fun _ _ => false⟩) = ([0], ⟨[⟨s, a, b, 0, true, []⟩], fun _ _ => false⟩) := by
    unfold planG rootG
    rw [e]
    rfl
  have e3 : plansG 0 [kN s a b] ([], ⟨[], fun _ _ => false⟩) = ([0], ⟨[⟨s, a, b, 0, true, []⟩], fun _ _ => false⟩) := by
    show plansG 1 [] (planG 0 (kN s a b) _) = _
    rw [e2]
    rfl
  unfold ofG
  rw [e3]
  rfl
theorem nds_row {w : World} {g : Nat} {l : List (Gd × Option Addr × Nat)} (r : RowA w g 42 (nodesC l).toArray) (hn : ∀ x ∈ l, Its w w.heap.size x.2.1 x.1.l) : Nds w w.heap.size (some ⟨g, 0, none⟩) (l.map (·.1)) := fun _ => by
  refine ⟨g, 0, rfl, r.lt, fun i hi => ?_⟩
  rw [List.length_map] at hi
  have e : (l.map (·.1)).getD i gd0 = l[i].1 := by rw [List.getD_eq_getElem?_getD, List.getElem?_map, List.getElem?_eq_getElem hi]; rfl
  rw [e]
  refine ⟨l[i].2.1, l[i].2.2, hn _ (List.getElem_mem hi), fun j v hj => ?_⟩
  have hj9 : j < 9 := by
    rcases Nat.lt_or_ge j 9 with q | q
    · exact q
    · rw [List.getElem?_eq_none (by rw [gdL_len]; exact q)] at hj; cases hj
  have := r.at_ (k := i * 9 + j) (v := v) (by rw [List.getElem?_toArray, nodesC_at l i j _ (List.getElem?_eq_getElem hi) hj9]; exact hj)
  rw [Nat.zero_add]
  exact this
def kG (s : Nat → Bool) : Gd := ⟨2, s, [], 0, 0, { data := #[] }⟩
theorem kN_gn (s : Nat → Bool) (a b : Nat) : GN [kG s, gK 5 [0] a b] (kN s a b) := by
  refine ⟨rfl, fun i hi => ?_⟩
  have hi : i < 2 := hi
  have : i = 0 ∨ i = 1 := by omega
  rcases this with rfl | rfl
  · exact ⟨rfl, fun _ _ => rfl, rfl, rfl, rfl, rfl⟩
  · exact ⟨rfl, fun _ _ => rfl, rfl, rfl, rfl, rfl⟩
abbrev kC (s : Nat → Bool) (q a b : Nat) : Array Value := #[.int .u8 2, .int .u64 (W s 0), .int .u64 (W s 1), .int .u64 (W s 2), .int .u64 (W s 3), .slice none 0 0, .int .i64 0, .int .i64 0, .string { data := #[] }, .int .u8 5, .int .u64 0, .int .u64 0, .int .u64 0, .int .u64 0, .slice (some ⟨q, 0, none⟩) 1 1, .int .i64 (a : Int), .int .i64 (b : Int), .string { data := #[] }]
theorem kC_nodes (s : Nat → Bool) (q a b : Nat) : kC s q a b = (nodesC [(kG s, none, 0), (gK 5 [0] a b, some ⟨q, 0, none⟩, 1)]).toArray := by
  unfold nodesC
  simp only [List.flatMap_cons, List.flatMap_nil, List.append_nil, gK_row]
  rfl
/-- The plan as it was made, in a row of plans. -/
theorem k_pls (w : World) (s : Nat → Bool) (a b : Nat) : Pls (((w.alloc (.cells #[.int .i64 0] 3)).alloc (.cells (kC s w.heap.size a b) 42)).alloc (.cells #[.slice (some ⟨w.heap.size + 1, 0, none⟩) 2 2] 36)) (((w.alloc (.cells #[.int .i64 0] 3)).alloc (.cells (kC s w.heap.size a b) 42)).alloc (.cells #[.slice (some ⟨w.heap.size + 1, 0, none⟩) 2 2] 36)).heap.size (some ⟨w.heap.size + 1 + 1, 0, none⟩) [[kG s, gK 5 [0] a b]] ∧ Below w.heap.size w (((w.alloc (.cells #[.int .i64 0] 3)).alloc (.cells (kC s w.heap.size a b) 42)).alloc (.cells #[.slice (some ⟨w.heap.size + 1, 0, none⟩) 2 2] 36)) := by
  have s1 : (w.alloc (.cells #[.int .i64 0] 3)).heap.size = w.heap.size + 1 := World.size_alloc ..
  have s2 : ((w.alloc (.cells #[.int .i64 0] 3)).alloc (.cells (kC s w.heap.size a b) 42)).heap.size = w.heap.size + 1 + 1 := by rw [World.size_alloc, s1]
  have R0 := RowA.new w 3 #[.int .i64 0]
  have R1 := RowA.new (w.alloc (.cells #[.int .i64 0] 3)) 42 (kC s w.heap.size a b)
  have R2 := RowA.new ((w.alloc (.cells #[.int .i64 0] 3)).alloc (.cells (kC s w.heap.size a b) 42)) 36 #[.slice (some ⟨w.heap.size + 1, 0, none⟩) 2 2]
  have b1 : Below w.heap.size w (w.alloc (.cells #[.int .i64 0] 3)) := (Below.refl _ _).alloc (Nat.le_refl _) _
  have b2 := b1.alloc (by rw [s1]; omega) (.cells (kC s w.heap.size a b) 42)
  have b3 := b2.alloc (by rw [s2]; omega) (.cells #[.slice (some ⟨w.heap.size + 1, 0, none⟩) 2 2] 36)
  rw [s1] at R1
  rw [s2] at R2
  have R0b := (R0.alloc (.cells (kC s w.heap.size a b) 42)).alloc (.cells #[.slice (some ⟨w.heap.size + 1, 0, none⟩) 2 2] 36)
  have R1b := R1.alloc (.cells #[.slice (some ⟨w.heap.size + 1, 0, none⟩) 2 2] 36)
  refine ⟨fun _ => ?_, b3⟩
  generalize ((w.alloc (.cells #[.int .i64 0] 3)).alloc (.cells (kC s w.heap.size a b) 42)).alloc (.cells #[.slice (some ⟨w.heap.size + 1, 0, none⟩) 2 2] 36) = w3 at *
  rw [kC_nodes] at R1b
  refine ⟨w.heap.size + 1 + 1, 0, rfl, R2.lt, fun i hi => ?_⟩
  have hi : i < 1 := hi
  have : i = 0 := by omega
  subst this
  refine ⟨some ⟨w.heap.size + 1, 0, none⟩, 2, R2.at_ rfl, nds_row R1b (fun x hx => ?_)⟩
  simp only [List.mem_cons, List.not_mem_nil, or_false] at hx
  rcases hx with rfl | rfl
  · exact its_none
  · exact its_row (xs := [0]) R0b
abbrev kP (s : Nat → Bool) (a b : Nat) : Array Value := #[.int .u64 (W s 0), .int .u64 (W s 1), .int .u64 (W s 2), .int .u64 (W s 3), .int .i64 (a : Int), .int .i64 (b : Int), .int .i64 0, .bool true, .slice none 0 0]
set_option maxHeartbeats 1000000 in
theorem lawCounts_any (x y : Int) (s : Nat → Bool) (w : World) (hx : 0 ≤ x) (hx2 : x ≤ 65535) (hy : 0 ≤ y) :
    Calls Try.prog 9 #[.int .u16 x, .int .u16 y, .agg #[.int .u64 (W (s) 0), .int .u64 (W (s) 1), .int .u64 (W (s) 2), .int .u64 (W (s) 3)]] w fun e w' => e = .returned (.bool true) ∧ Below w.heap.size w w' := by
  have hsh := gshown_any (w.alloc (.cells (#[.int .u64 (W (s) 0), .int .u64 (W (s) 1), .int .u64 (W (s) 2), .int .u64 (W (s) 3)]) 40))
  have R0 := Row4.new w s
  have HB0 : Hid (Below w.heap.size w (w.alloc (.cells (#[.int .u64 (W (s) 0), .int .u64 (W (s) 1), .int .u64 (W (s) 2), .int .u64 (W (s) 3)]) 40))) := (Below.refl _ _).alloc (Nat.le_refl _) _
  obtain ⟨k, hk, hk4⟩ := mod_most hy 4095 (by omega)
  obtain ⟨b, hb1⟩ : ∃ b : Nat, (k : Int) + 2 = (b : Int) := ⟨k + 2, by omega⟩
  obtain ⟨k2, hk2, hk24⟩ := mod_most hx (b : Int) (by omega)
  obtain ⟨a, ha⟩ : ∃ a : Nat, (k2 : Int) + 1 = (a : Int) := ⟨k2 + 1, by omega⟩
  have p1 : a ≤ b := by omega
  have p2 : 2 ≤ b := by omega
  have p3 : b ≤ 4096 := by omega
  have p4 : 1 ≤ a := by omega
  have heq : ∀ u, (binOp .eql 40 (.agg #[.int .u64 (W (s) 0), .int .u64 (W (s) 1), .int .u64 (W (s) 2), .int .u64 (W (s) 3)]) (.agg #[.int .u64 0, .int .u64 0, .int .u64 0, .int .u64 0])).run Try.prog u = .ok (.bool (emptyS s)) u := fun u => set_none s u
  go_enter Try.func9, Try.ntmps9
  go_wp2_with fail
  refine hsh.mono ?_
  rintro e w1 ⟨rfl, b1⟩
  have R1 := R0.below b1 R0.lt
  have HB1 := hidd (HB0.out.trans (b1.mono HB0.out.size))
  have HR1 := hidd R1
  obtain ⟨c0, c1, c2, c3⟩ := R1.cells
  clear hsh R0 R1 b1 HB0
  obtain ⟨z, hz⟩ : ∃ z, emptyS s = z := ⟨_, rfl⟩
  rw [hz] at heq
  cases z with
  | true =>
    clear hz
    go_wp2
    go_ret
    exact ⟨rfl, HB1.out⟩
  | false =>
    obtain ⟨hpl, hbl⟩ := k_pls w1 s a b
    obtain ⟨t1, t2⟩ := kN_tree hz p1 (by omega) p3
    have hg := kN_gn s a b
    have hok : PlsOk [[kG s, gK 5 [0] a b]] := fun gs hgs => by
      rw [List.mem_singleton] at hgs
      subst hgs
      exact ⟨(show 2 ≤ 2000 by decide), gn_sm hg t1⟩
    have hpn : PlN [[kG s, gK 5 [0] a b]] [kN s a b] := ⟨rfl, fun i hi => by
      match i, hi with
      | 0, _ => exact ⟨hg, t1, t2, kN_right p4 p2⟩⟩
    have hc := (Oo.of_ok (some ⟨w1.heap.size + 1 + 1, 0, none⟩) 1 [[kG s, gK 5 [0] a b]] [kN s a b] _ hpl hok (show 1 ≤ 512 by decide) hpn (show 1 ≤ 512 by decide)).mono fun e u' h => of_read h
    rw [kN_of] at hc
    have HB2 := hidd (HB1.out.trans (hbl.mono HB1.out.size))
    have HR2 := hidd (HR1.out.below hbl HR1.out.lt)
    clear hpl hbl t1 t2 hg hok hpn hz HB1 HR1
    go_wp2_with fail
    refine hc.mono ?_
    clear hc c0 c1 c2 c3
    rintro e w3 ⟨b3, FA, Fc, PA, Pc, rfl, hI, hP⟩
    have HB3 := hidd (HB2.out.trans (b3.mono HB2.out.size))
    have HR3 := hidd (HR2.out.below b3 HR2.out.lt)
    have R4 := RowA.new w3 26 #[.slice FA 1 Fc, .slice PA 1 Pc]
    have b4 : Below w3.heap.size w3 (w3.alloc (.cells #[.slice FA 1 Fc, .slice PA 1 Pc] 26)) := (Below.refl _ _).alloc (Nat.le_refl _) _
    have HI := hidd ((hI.below b4).more b4.size)
    have HP := hidd ((hP.below b4).more b4.size)
    have HR4 := hidd (HR3.out.below b4 HR3.out.lt)
    have HB4 := hidd (HB3.out.trans (b4.mono HB3.out.size))
    clear b3 hI hP HB2 HR2 HB3 HR3 b4
    go_upto_region 7 with fail
    generalize w3.alloc (.cells #[.slice FA 1 Fc, .slice PA 1 Pc] 26) = w4 at *
    obtain ⟨q, hq⟩ : ∃ q, w3.heap.size = q := ⟨_, rfl⟩
    rw [hq] at R4 ⊢
    clear hq
    have x0 : w4.cell? ⟨q, 0, none⟩ = some (.slice FA 1 Fc) := R4.at_ rfl
    have x1 : w4.cell? ⟨q, 1, none⟩ = some (.slice PA 1 Pc) := R4.at_ rfl
    obtain ⟨c0, c1, c2, c3⟩ := (HR4.out.alloc (.cells #[.int .i64 0] 3)).cells
    clear R4
    have R5 := RowA.new w4 3 #[.int .i64 0]
    have s5 : (w4.alloc (.cells #[.int .i64 0] 3)).heap.size = w4.heap.size + 1 := World.size_alloc ..
    have R6 := RowA.new (w4.alloc (.cells #[.int .i64 0] 3)) 44 (kP s a b)
    have b6 : Below w4.heap.size w4 ((w4.alloc (.cells #[.int .i64 0] 3)).alloc (.cells (kP s a b) 44)) := ((Below.refl _ _).alloc (Nat.le_refl _) _).alloc (by rw [s5]; omega) _
    have R5b := R5.alloc (.cells (kP s a b) 44)
    rw [s5] at R6
    go_wp2_with fail
    generalize (w4.alloc (.cells #[.int .i64 0] 3)).alloc (.cells (kP s a b) 44) = w6 at *
    have hPW := pcs_row (l := [(⟨s, a, b, 0, true, []⟩, none, 0)]) R6 (fun x hx => by
      rw [List.mem_singleton] at hx
      subst hx
      exact its_none)
    have hcS := rSame_any FA (some ⟨w4.heap.size, 0, none⟩) PA (some ⟨w4.heap.size + 1, 0, none⟩) Fc 1 Pc 1 [0] [⟨s, a, b, 0, true, []⟩] _ w6 ((HI.out.below b6).more b6.size) (its_row (xs := [0]) R5b) ((HP.out.below b6).more b6.size) hPW ⟨rfl, fun i hi => by
      match i, hi with
      | 0, _ => exact ⟨fun _ _ => rfl, rfl, rfl, rfl, rfl, rfl⟩⟩ (by decide) (show 1 ≤ 1000 by decide) (fun i hi => by
      match i, hi with
      | 0, _ => exact (show 0 ≤ 1000 by decide))
    have HB6 := hidd (HB4.out.trans (b6.mono HB4.out.size))
    clear R5 s5 R6 b6 R5b hPW HI HP HB4 HR4 x0 x1 c0 c1 c2 c3
    refine hcS.mono ?_
    rintro e w7 ⟨rfl, b7⟩
    have HB7 := hidd (HB6.out.trans (b7.mono HB6.out.size))
    clear hcS b7
    go_wp2
    go_ret
    exact ⟨rfl, HB7.out⟩
end Go.Proofs.Ytahhiajliomcfaa.Sy.Gl

namespace Go.Proofs.Ytahhiajliomcfaa
open Go.ChangeShapes Go.WideShapes Go.ChangeAt Go.RowKit
set_option maxRecDepth 100000
set_option linter.unusedVariables false

/-- Any four words are those of a set. -/
theorem four_words (a0 a1 a2 a3 : Int) (h0 : 0 ≤ a0 ∧ a0 < 18446744073709551616) (h1 : 0 ≤ a1 ∧ a1 < 18446744073709551616) (h2 : 0 ≤ a2 ∧ a2 < 18446744073709551616) (h3 : 0 ≤ a3 ∧ a3 < 18446744073709551616) :
    ∃ p : Nat → Bool, a0 = W p 0 ∧ a1 = W p 1 ∧ a2 = W p 2 ∧ a3 = W p 3 := by
  let q : Nat → Int := fun i => if i = 0 then a0 else if i = 1 then a1 else if i = 2 then a2 else a3
  refine ⟨fun x => (q (x / 64)).toNat.testBit (x % 64), ?_, ?_, ?_, ?_⟩
  all_goals
    refine (W_of _ _ (by omega) (by omega)).trans (W_congr fun j hj => ?_)
  · rw [show (64 * 0 + j) / 64 = 0 from by omega, show (64 * 0 + j) % 64 = j from by omega, show 64 * 0 + j - 64 * 0 = j from by omega]; rfl
  · rw [show (64 * 1 + j) / 64 = 1 from by omega, show (64 * 1 + j) % 64 = j from by omega, show 64 * 1 + j - 64 * 1 = j from by omega]; rfl
  · rw [show (64 * 2 + j) / 64 = 2 from by omega, show (64 * 2 + j) % 64 = j from by omega, show 64 * 2 + j - 64 * 2 = j from by omega]; rfl
  · rw [show (64 * 3 + j) / 64 = 3 from by omega, show (64 * 3 + j) % 64 = j from by omega, show 64 * 3 + j - 64 * 3 = j from by omega]; rfl

section
variable {H : Type} {enc : TypeId × Value → H} {W0 : World} {base : Nat} {spare : Nat → Bool} {held : Bool}

theorem word_bounds {n : Int} (h : (Lit.int .u64 n).wf = true) : 0 ≤ n ∧ n < 18446744073709551616 := by
  have := bounds_u64 h; omega
/-- The cells of a set that was read. -/
theorem cells_set {fuel : Nat} {cs : List Value} {x : DataW H × List MemPlace} (h : DataW.trod enc Try.prog W0 base spare held fuel 40 cs = some x) :
    ∃ q : Nat → Bool, cs = [.int .u64 (W q 0), .int .u64 (W q 1), .int .u64 (W q 2), .int .u64 (W q 3)] := by
  obtain ⟨xs, m, _, _, hlen, hxl, hi⟩ := DataW.trod_array Try.underlying40 h
  have hC : Try.prog.cellsOf 40 = 4 := by kernel_rfl
  have hC1 : Try.prog.cellsOf 38 = 1 := by kernel_rfl
  rw [hC] at hlen
  rw [hC1] at hi
  match cs, hlen with
  | [c0, c1, c2, c3], _ =>
    have e : ∀ i, i < 4 → ∃ y, xs[i]? = some y := fun i hi => ⟨xs[i]'(by omega), List.getElem?_eq_getElem (by omega)⟩
    obtain ⟨y0, e0⟩ := e 0 (by omega)
    obtain ⟨y1, e1⟩ := e 1 (by omega)
    obtain ⟨y2, e2⟩ := e 2 (by omega)
    obtain ⟨y3, e3⟩ := e 3 (by omega)
    have t0 := (hi 0 (by omega)).trans e0
    have t1 := (hi 1 (by omega)).trans e1
    have t2 := (hi 2 (by omega)).trans e2
    have t3 := (hi 3 (by omega)).trans e3
    obtain ⟨a0, f0, _, w0⟩ := DataW.trod_int Try.underlying38 t0
    obtain ⟨a1, f1, _, w1⟩ := DataW.trod_int Try.underlying38 t1
    obtain ⟨a2, f2, _, w2⟩ := DataW.trod_int Try.underlying38 t2
    obtain ⟨a3, f3, _, w3⟩ := DataW.trod_int Try.underlying38 t3
    simp at f0 f1 f2 f3
    subst f0 f1 f2 f3
    obtain ⟨q, rfl, rfl, rfl, rfl⟩ := four_words a0 a1 a2 a3 (word_bounds w0) (word_bounds w1) (word_bounds w2) (word_bounds w3)
    exact ⟨q, rfl⟩
end

end Go.Proofs.Ytahhiajliomcfaa

namespace Go.Proofs.Ytahhiajliomcfaa
open Go.ChangeShapes Go.WideShapes Go.ChangeAt Go.RowKit
set_option maxRecDepth 100000
theorem open_set {H : Type} {enc : TypeId × Value → H} {W0 : World} {base : Nat} {spare : Nat → Bool} {held : Bool} {r : Reach} {b0 : Nat} {v : Value} {d : DataW H} {p : List MemPlace} (hv : Value.okWide Try.prog W0 r b0 40 v) (h : DataW.Trod enc Try.prog W0 base spare held 40 v d p) :
    ∃ q : Nat → Bool, v = .agg #[.int .u64 (W (q) 0), .int .u64 (W (q) 1), .int .u64 (W (q) 2), .int .u64 (W (q) 3)] := by
  obtain ⟨fuel, hf⟩ := h
  have hv' : ∃ cs, v = .agg cs := by
    simp only [Value.okWide, Try.underlying40] at hv
    obtain ⟨cs, h1, _⟩ := hv
    exact ⟨cs, h1⟩
  obtain ⟨⟨l⟩, rfl⟩ := hv'
  obtain ⟨q, hq⟩ := cells_set hf
  simp [Value.cells] at hq
  exact ⟨q, by rw [hq]⟩
end Go.Proofs.Ytahhiajliomcfaa

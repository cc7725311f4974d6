/- The law SplitCoarse, by what the calls of split tell. -/
import Derived.Test.YtlfbjnmehdifeaaXo
import Derived.Test.YtlfbjnmehdifeaaAr
namespace Go.Proofs.Ytlfbjnmehdifeaa
open Go.RowKit


def CoGV (gs : Nat) (F : Nat → Int) (N x y : Nat) (A3 : Option Addr) (c3 : Nat) (t : Nat) : Option Value :=
  match t with
  | 1 => some (.int .u8 (x : Int))
  | 2 => some (.int .u8 (y : Int))
  | 6 => some (.bool true)
  | 7 => some (.bool true)
  | 8 => some (.pointer (some ⟨gs, 0, none⟩))
  | 9 => some (.bool (decide (F x = F y)))
  | 12 => some (.slice A3 N c3)
  | 67 => some (.bool true)
  | 68 => some (.bool true)
  | 69 => some (.bool (decide (F x = F y)))
  | 70 => some (.int .u8 (x : Int))
  | 71 => some (.pointer (some ⟨gs, 0, none⟩))
  | 72 => some (.pointer (some ⟨gs, x, none⟩))
  | 73 => some (.int .u8 (F x))
  | 74 => some (.int .u8 (y : Int))
  | 75 => some (.pointer (some ⟨gs, 0, none⟩))
  | 76 => some (.pointer (some ⟨gs, y, none⟩))
  | 77 => some (.int .u8 (F y))
  | 78 => some (.bool (decide (F x = F y)))
  | 79 => some (.bool true)
  | 80 => some (.bool true)
  | 81 => some (.bool true)
  | 82 => some (.agg (spC F N))
  | 83 => some (.bool true)
  | 84 => some (.bool true)
  | 85 => some (.bool true)
  | 86 => some (.slice A3 N c3)
  | 87 => some (.int .i64 (N : Int))
  | 88 => some (.pointer (some ⟨gs, 256, none⟩))
  | 89 => some (.int .i64 (N : Int))
  | 90 => some (.bool true)
  | 91 => some (.bool true)
  | _ => none
set_option linter.unusedVariables false in
def CoGP (gs : Nat) (F : Nat → Int) (N x y : Nat) (A3 : Option Addr) (c3 : Nat) (t : Nat) : Option (Value → World → Prop) :=
  match t with
  | _ => none
def CoG (gs : Nat) (F : Nat → Int) (N x y : Nat) (A3 : Option Addr) (c3 : Nat) (t : Nat) (v : Value) (u : World) : Prop := (∀ z9, CoGV gs F N x y A3 c3 t = some z9 → v = z9) ∧ ∀ R, CoGP gs F N x y A3 c3 t = some R → R v u

set_option maxRecDepth 100000 in
set_option maxHeartbeats 8000000 in
theorem coarse2_core (hO : OfC) (hFi : FirstC) (hRi : RightC) (A : Option Addr) (c n x y : Nat) (ps : List (Nat → Bool)) (w : World) (hT : Sts w w.heap.size A ps) (lc : n ≤ c) (mc : n ≤ maxLen) (hl : ps.length ≤ 1000000) (el : Hid (ps.length = min n 20)) (hx : x < 256) (hy : y < 256) :
    Calls Try.prog 5 #[.slice A n c, .int .u8 (x : Int), .int .u8 (y : Int)] w fun e w' => e = .returned (.bool true) ∧ Below w.heap.size w w' := by
  have hE := like_eqv ps
  have f1 := first_eq hE
  have f4 := cls_first (likeB ps) 256
  have f5 := frsts_rise (likeB ps) 256
  have f6 := frsts_lt (likeB ps) 256
  have f7 : ∀ k, k < 256 → 0 ≤ (fun b => (clsOf (likeB ps) b : Int)) k ∧ (fun b => (clsOf (likeB ps) b : Int)) k ≤ 255 := cls_byte (likeB ps)
  have f9 := frsts_len (likeB ps) 256
  have HQ : Hid (likeB ps x y = decide ((fun b => (clsOf (likeB ps) b : Int)) x = (fun b => (clsOf (likeB ps) b : Int)) y)) := by
    show likeB ps x y = decide ((clsOf (likeB ps) x : Int) = (clsOf (likeB ps) y : Int))
    rw [Bool.eq_iff_iff, decide_eq_true_eq, ← cls_iff hE]
    omega
  have hR1 : ∀ w', Calls Try.prog 18 #[.agg (spC (fun b => (clsOf (likeB ps) b : Int)) ((frsts (likeB ps) 256).length : Int))] w' fun e w'' => e = .returned (.bool true) ∧ Below w'.heap.size w' w'' := fun w' => by
    have h := hRi (fun b => (clsOf (likeB ps) b : Int)) ((frsts (likeB ps) 256).length : Int) w' (cls_byte (likeB ps))
    rw [right_cls, decide_eq_true rfl] at h
    exact h
  have q2 : ∀ k, k < (frsts (likeB ps) 256).length → (fun b => (clsOf (likeB ps) b : Int)) ((frsts (likeB ps) 256).getD k 0) = (k : Int) := fun k hk => by show (clsOf (likeB ps) _ : Int) = _; rw [f4 k hk]
  have hO1 := fun w h => hO A c ps w h hl
  clear f4 hE
  generalize (fun b => (clsOf (likeB ps) b : Int)) = F at *
  generalize frsts (likeB ps) 256 = Fs at *
  have n1 := natI_len Fs
  have n2 := natI_at Fs
  go_enter Try.func5, Try.ntmps5
  go_wp2_with fail
  refine (shown2_any hO _).mono ?_
  rintro e w1 ⟨rfl, hb1⟩
  go_wp2_with fail
  refine (few2_any A n c _ mc lc).mono ?_
  rintro e w2 ⟨rfl, rfl⟩
  rw [← el.out]
  go_wp2_with fail
  refine (hO1 _ ((hT.below hb1).more hb1.size)).mono ?_
  rintro e w2 ⟨rfl, hb2⟩
  have D2 := hb1.trans (hb2.mono hb1.size)
  have hz := split_zero
  have Z := RowS.new w2 (fun _ => 0) 0
  have D3 := bel_setRow (D2.alloc D2.size (.cells (spC (fun _ => 0) 0) 26)) w2.heap.size (spC F Fs.length) D2.size
  have R := Z.row F (Fs.length : Int)
  clear hb1 hb2 D2
  go_wp2_with (refine wpList_store_row rfl 26 (.tmp 8) (.tmp 18) rfl w2.heap.size (spC F Fs.length) rfl rfl 26 (spC (fun _ => 0) 0) Z (split_info _ _) (by rw [spC_size, spC_size]) (spC_one _ _) ?_)
  refine (few2_any A n c _ mc lc).mono ?_
  rintro e w3 ⟨rfl, rfl⟩
  rw [← el.out]
  clear Z
  generalize (w2.alloc (.cells (spC (fun _ => 0) 0) 26)).setRow w2.heap.size (spC F Fs.length) = w3 at *
  generalize w2.heap.size = gs at *
  go_wp2
  go_loopw [9, 11, 22] (fun t _ i wr => ∃ k : Nat, k ≤ ps.length ∧ i = .int .i64 k ∧ t = .bool (likeB (ps.take k) x y) ∧ RowS wr gs F Fs.length ∧ Below w.heap.size w wr) (fun _ _ i _ => ps.length - (intOf i).toNat)
  case atStart => exact ⟨0, Nat.zero_le _, rfl, rfl, R, D3⟩
  case round =>
    obtain ⟨k, hk0, rfl, rfl, R0, hb⟩ := hrel
    by_cases hlt : k < ps.length
    · obtain ⟨g, off, rfl, hg, a0, a1, a2, a3⟩ := (hT.below hb).at_ hlt
      have HY := hidd (like_snoc ps k hlt x y)
      generalize ps.getD k noB = p at *
      generalize likeB (ps.take k) x y = lk at *
      have B0 : Box1 (wr.alloc (.cells (#[.int .u64 (W (p) 0), .int .u64 (W (p) 1), .int .u64 (W (p) 2), .int .u64 (W (p) 3)]) 33)) wr.heap.size p := ⟨Row4.new wr p⟩
      have D0 := hb.alloc hb.size (.cells (#[.int .u64 (W (p) 0), .int .u64 (W (p) 1), .int .u64 (W (p) 2), .int .u64 (W (p) 3)]) 33)
      have R1 := R0.alloc (.cells (#[.int .u64 (W (p) 0), .int .u64 (W (p) 1), .int .u64 (W (p) 2), .int .u64 (W (p) 3)]) 33)
      have hsz := R0.lt
      have hgs : gs ≠ wr.heap.size := by omega
      have f1' := hidd f1
      have f7' := hidd f7
      clear f1 f5 f6 f7 q2 n1 n2 hO1 hR1 R D3 R0 hb
      cases lk with
      | false =>
        go_wp2
        go_quiet (fail)
        go_wp2
        refine ⟨⟨k + 1, by omega, rfl, ?_, R1, bel_drewN D0 _⟩, by simp [intOf]; omega⟩
        rw [HY.out]; rfl
      | true =>
        go_wp2
        generalize wr.alloc (.cells (#[.int .u64 (W (p) 0), .int .u64 (W (p) 1), .int .u64 (W (p) 2), .int .u64 (W (p) 3)]) 33) = v0 at *
        generalize wr.heap.size = gx at *
        obtain ⟨a00, a10, a20, a30⟩ := B0.cells
        go_region_held (fun v => v.cell? ⟨gx, 0, none⟩ = some (.int .u64 (W p 0)) ∧ v.cell? ⟨gx, 1, none⟩ = some (.int .u64 (W p 1)) ∧ v.cell? ⟨gx, 2, none⟩ = some (.int .u64 (W p 2)) ∧ v.cell? ⟨gx, 3, none⟩ = some (.int .u64 (W p 3)))
          (go_keep)
          (first
            | (have Z := B1; clear Z; go_at_call 20; (with_reducible refine (rhas_any p (y : Int) _ (by omega) (by omega)).mono ?_); rintro e w2 ⟨rfl, hb2⟩; have B2 := B1.below hb2; have D2 := D1.trans (hb2.mono D1.size); obtain ⟨a02, a12, a22, a32⟩ := (B2.cells); have S2 := S1.below hb2 S1.lt)
            | (have Z := B0; clear Z; go_at_call 20; (with_reducible refine (rhas_any p (x : Int) _ (by omega) (by omega)).mono ?_); rintro e w1 ⟨rfl, hb1⟩; have B1 := B0.drew.below hb1; have D1 := D0.drew.trans (hb1.mono D0.size); obtain ⟨a01, a11, a21, a31⟩ := (B1.cells); have S1 := R1.drew.below hb1 R1.lt))
        all_goals
          clear a00 a10 a20 a30 a01 a11 a21 a31 a02 a12 a22 a32 B0 B1 B2 R1 S1
        all_goals go_wp2
        all_goals
          refine ⟨⟨k + 1, by omega, rfl, ?_, S2, D2⟩, by simp [intOf]; omega⟩
          rw [HY.out]; rfl
    · have hk : k = ps.length := by omega
      rw [hk, List.take_of_length_le (Nat.le_refl _), HQ.out]
      clear R D3 hk0 hlt hk hO1 hT
      go_wp2_with (refine wpList_load_row rfl 26 (.tmp 8) rfl gs rfl 26 (spC F Fs.length) (0, 0) _ R0 Try.underlying26 rfl (split_info _ _) ?_)
      refine (hFi F Fs.length _ f7).mono ?_
      rintro e w4 ⟨A3, c3, rfl, hB3, hb4⟩
      rw [f1] at hB3 ⊢
      rw [n1]
      have R4 := R0.below hb4 R0.lt
      have D4 := hb.trans (hb4.mono hb.size)
      clear R0 hb hb4
      have f7' := hidd f7
      have f5' := hidd f5
      have f6' := hidd f6
      have q2' := hidd q2
      have n2' := hidd n2
      have n1' := hidd n1
      have hR1' := hidd hR1
      clear f1 f5 f6 f7 q2 n1 n2 hR1
      go_wp2
      go_loopw [13, 14, 41] (fun _ _ i wi => wi = w4 ∧ ∃ k : Nat, k ≤ Fs.length ∧ i = .int .i64 k) (fun _ _ i _ => Fs.length - (intOf i).toNat)
      case atStart => exact ⟨rfl, 0, Nat.zero_le _, rfl⟩
      case round =>
        obtain ⟨rfl, j, hj0, rfl⟩ := hrel
        by_cases hj : j < Fs.length
        · obtain ⟨g, off, rfl, hg3, ha⟩ := hB3.2 (fun e => by have := n1'.out; rw [e] at this; simp at this; omega)
          have c1 := ha j (by rw [n1'.out]; exact hj)
          rw [n2'.out j hj] at c1
          have hm : Fs.getD j 0 < 256 := f6'.out _ (by rw [List.getD_eq_getElem?_getD, List.getElem?_eq_getElem hj]; exact List.getElem_mem hj)
          have r1 := R4.at_ (Fs.getD j 0) hm
          rw [q2'.out j hj] at r1
          cases j with
          | zero =>
            clear ha
            rw [Nat.add_zero] at c1
            generalize Fs.getD 0 0 = z at *
            go_wp2
            exact ⟨⟨trivial, 1, by omega, rfl⟩, by simp [intOf]; omega⟩
          | succ j =>
            have c2 := ha j (by rw [n1'.out]; omega)
            rw [n2'.out j (by omega)] at c2
            have hlt2 : Fs.getD j 0 < Fs.getD (j + 1) 0 := by
              rw [List.getD_eq_getElem?_getD, List.getD_eq_getElem?_getD, List.getElem?_eq_getElem hj, List.getElem?_eq_getElem (by omega : j < Fs.length)]
              exact List.pairwise_iff_getElem.1 f5'.out j (j + 1) (by omega) hj (by omega)
            clear ha
            generalize Fs.getD j 0 = z0 at *
            generalize Fs.getD (j + 1) 0 = z at *
            go_wp2
            exact ⟨⟨trivial, j + 1 + 1, by omega, rfl⟩, by simp [intOf]; omega⟩
        · have hf := f7'.out
          have hR1 := hR1'.out
          generalize Fs.length = N at *
          go_wp2
          refine wp_region_slots (RdS w gs F N) (CoG gs F N x y A3 c3) (by kernel_rfl) (by kernel_rfl) (by kernel_rfl) ?_ ⟨R4, D4.drew⟩ [1, 2, 7, 8, 9, 12] (by kernel_rfl) ?_ ?_ ?_
          · intro t v u u' h hb
            exact ⟨h.1, fun R hR => by unfold CoGP at hR; cases hR⟩
          · intro u _
            refine ⟨⟨_, rfl, ?_⟩, ⟨_, rfl, ?_⟩, ⟨_, rfl, ?_⟩, ⟨_, rfl, ?_⟩, ⟨_, rfl, ?_⟩, ⟨_, rfl, ?_⟩, trivial⟩ <;> exact ⟨fun _ h => Option.some.inj h, fun _ h => no_some h⟩
          · refine ⟨?_, ?_, ?_, ?_, ?_, ?_, ?_, ?_, ?_, ?_, ?_, ?_, ?_, ?_, ?_, ?_, ?_, ?_, ?_, ?_, ?_, ?_, ?_, ?_, ?_, ?_, trivial⟩
            · intro a u hS hr K hK
              obtain ⟨⟨vl0, e0, g0⟩, -⟩ := hr
              obtain rfl := g0.1 _ rfl
              clear g0
              rw [if_pos (want_none rfl)]
              unfold Oper.wp
              go_simp
              exact hK _ _ ⟨fun _ h => Option.some.inj h, fun _ h => no_some h⟩ hS (Below.refl _ _)
            · intro a u hS hr K hK
              obtain ⟨⟨vl0, e0, g0⟩, -⟩ := hr
              obtain rfl := g0.1 _ rfl
              clear g0
              rw [if_pos (want_none rfl)]
              unfold Oper.wp
              go_simp
              exact hK _ _ ⟨fun _ h => Option.some.inj h, fun _ h => no_some h⟩ hS (Below.refl _ _)
            · intro a u hS hr K hK
              obtain ⟨⟨vl0, e0, g0⟩, ⟨vl1, e1, g1⟩, -⟩ := hr
              obtain rfl := g0.1 _ rfl
              clear g0
              obtain rfl := g1.1 _ rfl
              clear g1
              rw [if_pos (want_some rfl rfl rfl e1)]
              unfold Oper.wp
              go_simp
              exact hK _ _ ⟨fun _ h => Option.some.inj h, fun _ h => no_some h⟩ hS (Below.refl _ _)
            · intro a u hS hr K hK
              obtain ⟨⟨vl0, e0, g0⟩, ⟨vl1, e1, g1⟩, -⟩ := hr
              obtain rfl := g0.1 _ rfl
              clear g0
              obtain rfl := g1.1 _ rfl
              clear g1
              rw [if_pos (want_some rfl rfl rfl e1)]
              unfold Oper.wp
              go_simp
              exact hK _ _ ⟨fun _ h => Option.some.inj h, fun _ h => no_some h⟩ hS (Below.refl _ _)
            · intro a u hS hr K hK
              obtain ⟨⟨vl0, e0, g0⟩, ⟨vl1, e1, g1⟩, -⟩ := hr
              obtain rfl := g0.1 _ rfl
              clear g0
              obtain rfl := g1.1 _ rfl
              clear g1
              rw [if_pos (want_some rfl rfl rfl e1)]
              unfold Oper.wp
              go_simp
              exact hK _ _ ⟨fun _ h => Option.some.inj h, fun _ h => no_some h⟩ hS (Below.refl _ _)
            · intro a u hS hr K hK
              obtain ⟨⟨vl0, e0, g0⟩, ⟨vl1, e1, g1⟩, ⟨vl2, e2, g2⟩, -⟩ := hr
              obtain rfl := g0.1 _ rfl
              clear g0
              obtain rfl := g1.1 _ rfl
              clear g1
              obtain rfl := g2.1 _ rfl
              clear g2
              rw [if_pos (want_some rfl rfl rfl e2)]
              have z : (x : Int) < 256 := by omega
              unfold Oper.wp
              go_simp
              exact hK _ _ ⟨fun _ h => Option.some.inj h, fun _ h => no_some h⟩ hS (Below.refl _ _)
            · intro a u hS hr K hK
              obtain ⟨⟨vl0, e0, g0⟩, ⟨vl1, e1, g1⟩, -⟩ := hr
              obtain rfl := g0.1 _ rfl
              clear g0
              obtain rfl := g1.1 _ rfl
              clear g1
              rw [if_pos (want_some rfl rfl rfl e1)]
              have z := hS.box.at_ x hx
              unfold Oper.wp
              go_simp
              exact hK _ _ ⟨fun _ h => Option.some.inj h, fun _ h => no_some h⟩ hS (Below.refl _ _)
            · intro a u hS hr K hK
              obtain ⟨⟨vl0, e0, g0⟩, ⟨vl1, e1, g1⟩, -⟩ := hr
              obtain rfl := g0.1 _ rfl
              clear g0
              obtain rfl := g1.1 _ rfl
              clear g1
              rw [if_pos (want_some rfl rfl rfl e1)]
              unfold Oper.wp
              go_simp
              exact hK _ _ ⟨fun _ h => Option.some.inj h, fun _ h => no_some h⟩ hS (Below.refl _ _)
            · intro a u hS hr K hK
              obtain ⟨⟨vl0, e0, g0⟩, ⟨vl1, e1, g1⟩, -⟩ := hr
              obtain rfl := g0.1 _ rfl
              clear g0
              obtain rfl := g1.1 _ rfl
              clear g1
              rw [if_pos (want_some rfl rfl rfl e1)]
              unfold Oper.wp
              go_simp
              exact hK _ _ ⟨fun _ h => Option.some.inj h, fun _ h => no_some h⟩ hS (Below.refl _ _)
            · intro a u hS hr K hK
              obtain ⟨⟨vl0, e0, g0⟩, ⟨vl1, e1, g1⟩, ⟨vl2, e2, g2⟩, -⟩ := hr
              obtain rfl := g0.1 _ rfl
              clear g0
              obtain rfl := g1.1 _ rfl
              clear g1
              obtain rfl := g2.1 _ rfl
              clear g2
              rw [if_pos (want_some rfl rfl rfl e2)]
              have z : (y : Int) < 256 := by omega
              unfold Oper.wp
              go_simp
              exact hK _ _ ⟨fun _ h => Option.some.inj h, fun _ h => no_some h⟩ hS (Below.refl _ _)
            · intro a u hS hr K hK
              obtain ⟨⟨vl0, e0, g0⟩, ⟨vl1, e1, g1⟩, -⟩ := hr
              obtain rfl := g0.1 _ rfl
              clear g0
              obtain rfl := g1.1 _ rfl
              clear g1
              rw [if_pos (want_some rfl rfl rfl e1)]
              have z := hS.box.at_ y hy
              unfold Oper.wp
              go_simp
              exact hK _ _ ⟨fun _ h => Option.some.inj h, fun _ h => no_some h⟩ hS (Below.refl _ _)
            · intro a u hS hr K hK
              obtain ⟨⟨vl0, e0, g0⟩, ⟨vl1, e1, g1⟩, ⟨vl2, e2, g2⟩, -⟩ := hr
              obtain rfl := g0.1 _ rfl
              clear g0
              obtain rfl := g1.1 _ rfl
              clear g1
              obtain rfl := g2.1 _ rfl
              clear g2
              rw [if_pos (want_some rfl rfl rfl e2)]
              unfold Oper.wp
              go_simp
              exact hK _ _ ⟨fun _ h => Option.some.inj h, fun _ h => no_some h⟩ hS (Below.refl _ _)
            · intro a u hS hr K hK
              obtain ⟨⟨vl0, e0, g0⟩, ⟨vl1, e1, g1⟩, ⟨vl2, e2, g2⟩, -⟩ := hr
              obtain rfl := g0.1 _ rfl
              clear g0
              obtain rfl := g1.1 _ rfl
              clear g1
              obtain rfl := g2.1 _ rfl
              clear g2
              rw [if_pos (want_some rfl rfl rfl e2)]
              unfold Oper.wp
              go_simp
              exact hK _ _ ⟨fun _ h => Option.some.inj h, fun _ h => no_some h⟩ hS (Below.refl _ _)
            · intro a u hS hr K hK
              obtain ⟨⟨vl0, e0, g0⟩, ⟨vl1, e1, g1⟩, -⟩ := hr
              obtain rfl := g0.1 _ rfl
              clear g0
              obtain rfl := g1.1 _ rfl
              clear g1
              rw [if_pos (want_none rfl)]
              unfold Oper.wp
              go_simp
              exact hK _ _ ⟨fun _ h => Option.some.inj h, fun _ h => no_some h⟩ hS (Below.refl _ _)
            · intro a u hS hr K hK
              obtain ⟨⟨vl0, e0, g0⟩, -⟩ := hr
              obtain rfl := g0.1 _ rfl
              clear g0
              rw [if_pos (want_none rfl)]
              unfold Oper.wp
              go_simp
              exact hK _ _ ⟨fun _ h => Option.some.inj h, fun _ h => no_some h⟩ hS (Below.refl _ _)
            · intro a u hS hr K hK
              obtain ⟨⟨vl0, e0, g0⟩, ⟨vl1, e1, g1⟩, -⟩ := hr
              obtain rfl := g0.1 _ rfl
              clear g0
              obtain rfl := g1.1 _ rfl
              clear g1
              rw [if_pos (want_some rfl rfl rfl e1)]
              refine wp_load_row 26 (.tmp 8) rfl _ (eval_at e0) 26 (spC F N) (0, 0) _ hS.box Try.underlying26 rfl (split_info F N) ?_
              exact hK _ _ ⟨fun _ h => Option.some.inj h, fun _ h => no_some h⟩ hS (Below.refl _ _)
            · intro a u hS hr K hK
              obtain ⟨⟨vl0, e0, g0⟩, ⟨vl1, e1, g1⟩, -⟩ := hr
              obtain rfl := g0.1 _ rfl
              clear g0
              obtain rfl := g1.1 _ rfl
              clear g1
              rw [if_pos (want_some rfl rfl rfl e1)]
              unfold Oper.wp
              go_simp
              refine (hR1 _).mono ?_
              rintro e u1 ⟨rfl, hb⟩
              exact hK _ _ ⟨fun _ h => Option.some.inj h, fun _ h => no_some h⟩ (hS.below hb) hb
            · intro a u hS hr K hK
              obtain ⟨⟨vl0, e0, g0⟩, ⟨vl1, e1, g1⟩, -⟩ := hr
              obtain rfl := g0.1 _ rfl
              clear g0
              obtain rfl := g1.1 _ rfl
              clear g1
              rw [if_pos (want_none rfl)]
              unfold Oper.wp
              go_simp
              exact hK _ _ ⟨fun _ h => Option.some.inj h, fun _ h => no_some h⟩ hS (Below.refl _ _)
            · intro a u hS hr K hK
              obtain ⟨⟨vl0, e0, g0⟩, -⟩ := hr
              obtain rfl := g0.1 _ rfl
              clear g0
              rw [if_pos (want_none rfl)]
              unfold Oper.wp
              go_simp
              exact hK _ _ ⟨fun _ h => Option.some.inj h, fun _ h => no_some h⟩ hS (Below.refl _ _)
            · intro a u hS hr K hK
              obtain ⟨⟨vl0, e0, g0⟩, ⟨vl1, e1, g1⟩, -⟩ := hr
              obtain rfl := g0.1 _ rfl
              clear g0
              obtain rfl := g1.1 _ rfl
              clear g1
              rw [if_pos (want_some rfl rfl rfl e1)]
              unfold Oper.wp
              go_simp
              exact hK _ _ ⟨fun _ h => Option.some.inj h, fun _ h => no_some h⟩ hS (Below.refl _ _)
            · intro a u hS hr K hK
              obtain ⟨⟨vl0, e0, g0⟩, ⟨vl1, e1, g1⟩, -⟩ := hr
              obtain rfl := g0.1 _ rfl
              clear g0
              obtain rfl := g1.1 _ rfl
              clear g1
              rw [if_pos (want_some rfl rfl rfl e1)]
              unfold Oper.wp
              go_simp
              exact hK _ _ ⟨fun _ h => Option.some.inj h, fun _ h => no_some h⟩ hS (Below.refl _ _)
            · intro a u hS hr K hK
              obtain ⟨⟨vl0, e0, g0⟩, ⟨vl1, e1, g1⟩, -⟩ := hr
              obtain rfl := g0.1 _ rfl
              clear g0
              obtain rfl := g1.1 _ rfl
              clear g1
              rw [if_pos (want_some rfl rfl rfl e1)]
              unfold Oper.wp
              go_simp
              exact hK _ _ ⟨fun _ h => Option.some.inj h, fun _ h => no_some h⟩ hS (Below.refl _ _)
            · intro a u hS hr K hK
              obtain ⟨⟨vl0, e0, g0⟩, ⟨vl1, e1, g1⟩, -⟩ := hr
              obtain rfl := g0.1 _ rfl
              clear g0
              obtain rfl := g1.1 _ rfl
              clear g1
              rw [if_pos (want_some rfl rfl rfl e1)]
              have z := hS.box.many
              unfold Oper.wp
              go_simp
              exact hK _ _ ⟨fun _ h => Option.some.inj h, fun _ h => no_some h⟩ hS (Below.refl _ _)
            · intro a u hS hr K hK
              obtain ⟨⟨vl0, e0, g0⟩, ⟨vl1, e1, g1⟩, ⟨vl2, e2, g2⟩, -⟩ := hr
              obtain rfl := g0.1 _ rfl
              clear g0
              obtain rfl := g1.1 _ rfl
              clear g1
              obtain rfl := g2.1 _ rfl
              clear g2
              rw [if_pos (want_some rfl rfl rfl e2)]
              unfold Oper.wp
              go_simp
              exact hK _ _ ⟨fun _ h => Option.some.inj h, fun _ h => no_some h⟩ hS (Below.refl _ _)
            · intro a u hS hr K hK
              obtain ⟨⟨vl0, e0, g0⟩, ⟨vl1, e1, g1⟩, -⟩ := hr
              obtain rfl := g0.1 _ rfl
              clear g0
              obtain rfl := g1.1 _ rfl
              clear g1
              rw [if_pos (want_none rfl)]
              unfold Oper.wp
              go_simp
              exact hK _ _ ⟨fun _ h => Option.some.inj h, fun _ h => no_some h⟩ hS (Below.refl _ _)
            · intro a u hS hr K hK
              obtain ⟨⟨vl0, e0, g0⟩, -⟩ := hr
              obtain rfl := g0.1 _ rfl
              clear g0
              rw [if_pos (want_none rfl)]
              unfold Oper.wp
              go_simp
              exact hK _ _ ⟨fun _ h => Option.some.inj h, fun _ h => no_some h⟩ hS (Below.refl _ _)
          intro a u hS hts hd hkn hf
          obtain ⟨v6, e6, g6⟩ := hf 25 _ 6 rfl rfl
          obtain rfl := g6.1 _ rfl
          clear hf hkn
          simp only [Exit.then]
          apply_assumption
          refine wp_ret ?_
          exact ret_slot Try.results5 e6 hd ⟨rfl, hS.bel⟩

theorem coarse2_any (hO : OfC) (hFi : FirstC) (hRi : RightC) (A : Option Addr) (c : Nat) (l : List (Nat → Bool)) (a b : Int) (w : World) (hS : Sts w w.heap.size A l) (lc : l.length ≤ c) (mc : c ≤ maxLen) (a0 : 0 ≤ a) (a1 : a ≤ 255) (b0 : 0 ≤ b) (b1 : b ≤ 255) :
    Calls Try.prog 5 #[.slice A l.length c, .int .u8 a, .int .u8 b] w fun e w' => e = .returned (.bool true) ∧ Below w.heap.size w w' := by
  have el : (l.take 20).length = min l.length 20 := by rw [List.length_take]; omega
  obtain ⟨x, rfl⟩ : ∃ x : Nat, a = x := ⟨a.toNat, by omega⟩
  obtain ⟨y, rfl⟩ : ∃ y : Nat, b = y := ⟨b.toNat, by omega⟩
  exact coarse2_core hO hFi hRi A c l.length x y (l.take 20) w (hS.cut 20) lc (by omega) (by omega) el (by omega) (by omega)

end Go.Proofs.Ytlfbjnmehdifeaa

/- The reference of ring: counts told by a predicate. -/
import Derived.Test.YtblanbopjebenaaKe
namespace Go.Proofs.Ytblanbopjebenaa
open Go.RowKit

/-- The counts up to n that p tells. -/
def cnt (n : Nat) (p : Nat → Bool) : List Nat := (List.range (n + 1)).filter p
def putP (p : Nat → Bool) (i : Nat) : Bool := i == 1 || p i
def incP (p : Nat → Bool) (i : Nat) : Bool := decide (2 ≤ i) && p (i - 1)
def noP (_ : Nat) : Bool := false

theorem rise_ext : ∀ (l l' : List Nat), l.Pairwise (· < ·) → l'.Pairwise (· < ·) → (∀ x, x ∈ l ↔ x ∈ l') → l = l'
  | [], [], _, _, _ => rfl
  | [], y :: s, _, _, h => by have := (h y).2 (by simp); cases this
  | x :: r, [], _, _, h => by have := (h x).1 (by simp); cases this
  | x :: r, y :: s, h1, h2, h => by
    obtain ⟨a1, b1⟩ := List.pairwise_cons.1 h1
    obtain ⟨a2, b2⟩ := List.pairwise_cons.1 h2
    have e : x = y := by
      have hx := (h x).1 (by simp)
      have hy := (h y).2 (by simp)
      rcases List.mem_cons.1 hx with hx | hx
      · exact hx
      · rcases List.mem_cons.1 hy with hy | hy
        · exact hy.symm
        · have := a1 y hy
          have := a2 x hx
          omega
    subst e
    rw [rise_ext r s b1 b2 fun z => ?_]
    constructor
    · intro hz
      rcases List.mem_cons.1 ((h z).1 (by simp [hz])) with e | e
      · have := a1 z hz; omega
      · exact e
    · intro hz
      rcases List.mem_cons.1 ((h z).2 (by simp [hz])) with e | e
      · have := a2 z hz; omega
      · exact e
theorem mem_cnt {n : Nat} {p : Nat → Bool} {x : Nat} : x ∈ cnt n p ↔ x ≤ n ∧ p x = true := by
  unfold cnt
  rw [List.mem_filter, List.mem_range]
  constructor <;> (rintro ⟨h1, h2⟩; exact ⟨by omega, h2⟩)
theorem cnt_rise (n : Nat) (p : Nat → Bool) (h : p 0 = false) : Rise n (cnt n p) := by
  refine ⟨List.Pairwise.filter p List.pairwise_lt_range, fun x hx => ?_⟩
  obtain ⟨h1, h2⟩ := mem_cnt.1 hx
  refine ⟨?_, h1⟩
  rcases Nat.eq_zero_or_pos x with e | e
  · subst e; rw [h] at h2; cases h2
  · exact e
theorem mem_put {C : List Nat} {x : Nat} : x ∈ putL C ↔ x = 1 ∨ x ∈ C := by
  unfold putL
  split
  · rename_i h
    constructor
    · exact .inr
    · rintro (rfl | hx)
      · exact List.mem_of_mem_head? h
      · exact hx
  · exact List.mem_cons
theorem mem_inc {n : Nat} {C : List Nat} {x : Nat} : x ∈ incL n C ↔ x ≤ n ∧ ∃ y ∈ C, y + 1 = x := by
  unfold incL
  rw [List.mem_filter, List.mem_map, decide_eq_true_eq]
  exact And.comm
theorem cnt_put (n : Nat) (p : Nat → Bool) (hn : 1 ≤ n) (h : p 0 = false) : putL (cnt n p) = cnt n (putP p) := by
  refine rise_ext _ _ (rise_put hn (cnt_rise n p h)).1 (cnt_rise n _ (by simp [putP, h])).1 fun x => ?_
  rw [mem_put, mem_cnt, mem_cnt]
  unfold putP
  simp only [Bool.or_eq_true, beq_iff_eq]
  constructor
  · rintro (rfl | ⟨h1, h2⟩)
    · exact ⟨hn, .inl rfl⟩
    · exact ⟨h1, .inr h2⟩
  · rintro ⟨h1, h2 | h2⟩
    · exact .inl h2
    · exact .inr ⟨h1, h2⟩
theorem cnt_inc (n : Nat) (p : Nat → Bool) (h : p 0 = false) : incL n (cnt n p) = cnt n (incP p) := by
  refine rise_ext _ _ (rise_inc (cnt_rise n p h)).1 (cnt_rise n _ (by simp [incP])).1 fun x => ?_
  rw [mem_inc, mem_cnt]
  unfold incP
  simp only [Bool.and_eq_true, decide_eq_true_eq]
  constructor
  · rintro ⟨h1, y, hy, rfl⟩
    have hy1 := ((cnt_rise n p h).2 y hy).1
    have hy2 := (mem_cnt.1 hy).2
    exact ⟨h1, by omega, by simpa using hy2⟩
  · rintro ⟨h1, h2, h3⟩
    exact ⟨h1, x - 1, mem_cnt.2 ⟨by omega, h3⟩, by omega⟩
theorem cnt_no (n : Nat) : cnt n noP = [] := by
  unfold cnt
  rw [List.filter_eq_nil_iff]
  simp [noP]
def actP (a : Int) (p : Nat → Bool) : Nat → Bool := if a % 8 < 3 then putP p else if a % 8 < 7 then incP p else noP
theorem actP_zero (a : Int) (p : Nat → Bool) (h : p 0 = false) : actP a p 0 = false := by
  unfold actP
  split
  · simp [putP, h]
  · split
    · simp [incP]
    · rfl
theorem cnt_act (n : Nat) (a : Int) (p : Nat → Bool) (hn : 1 ≤ n) (h : p 0 = false) : actL n a (cnt n p) = cnt n (actP a p) := by
  unfold actL actP
  split
  · exact cnt_put n p hn h
  · split
    · exact cnt_inc n p h
    · exact (cnt_no n).symm
/-- The counts below i that p tells. -/
def cntB (i : Nat) (p : Nat → Bool) : List Nat := (List.range i).filter p
theorem cntB_yes {i : Nat} {p : Nat → Bool} (h : p i = true) : cntB (i + 1) p = cntB i p ++ [i] := by
  unfold cntB; rw [List.range_succ, List.filter_append]; simp [h]
theorem cntB_no {i : Nat} {p : Nat → Bool} (h : p i = false) : cntB (i + 1) p = cntB i p := by
  unfold cntB; rw [List.range_succ, List.filter_append]; simp [h]
theorem cntB_len (i : Nat) (p : Nat → Bool) : (cntB i p).length ≤ i := by
  unfold cntB
  exact Nat.le_trans (List.length_filter_le _ _) (by simp)
theorem cntB_one {p : Nat → Bool} (h : p 0 = false) : cntB 1 p = [] := by rw [cntB_no h]; rfl

/-- Block g is the reference's ring, its marks in block h. -/
structure RefS (w : World) (g h n : Nat) (p : Nat → Bool) (d : Nat) : Prop where
  blk : w.heap[g]? = some (.cells #[.slice (some ⟨h, 0, none⟩) (n + 1) (n + 1), .int .i64 (d : Int)] 40 (0, 0))
  row : RowF w h 4 (n + 1) (fun i => .bool (p i))
  far : g ≠ h
  n1 : 1 ≤ n
  n2 : n ≤ 4096
  hd : d ≤ 1000000
  p0 : p 0 = false
section
variable {w w' : World} {g h n d : Nat} {p : Nat → Bool}
theorem RefS.glt (r : RefS w g h n p d) : g < w.heap.size := by
  rcases Nat.lt_or_ge g w.heap.size with hl | hg
  · exact hl
  · have := r.blk; rw [Array.getElem?_eq_none hg] at this; cases this
theorem RefS.hlt (r : RefS w g h n p d) : h < w.heap.size := r.row.lt
theorem RefS.cells (r : RefS w g h n p d) : w.cell? ⟨g, 0, none⟩ = some (.slice (some ⟨h, 0, none⟩) (n + 1) (n + 1)) ∧ w.cell? ⟨g, 1, none⟩ = some (.int .i64 (d : Int)) := by
  have := r.blk
  simp [World.cell?, this]
theorem RefS.thawed (r : RefS w g h n p d) (o : Nat) : w.frozen? ⟨g, o, none⟩ = false := by
  have := r.blk
  simp [World.frozen?, this]
theorem RefS.keep (r : RefS w g h n p d) (h1 : w'.heap[g]? = w.heap[g]?) (h2 : w'.heap[h]? = w.heap[h]?) : RefS w' g h n p d :=
  ⟨h1.trans r.blk, h2.trans r.row, r.far, r.n1, r.n2, r.hd, r.p0⟩
theorem RefS.belw (r : RefS w g h n p d) (hb : Below w.heap.size w w') : RefS w' g h n p d := r.keep (hb.block g r.glt) (hb.block h r.hlt)
theorem RefS.drewN (r : RefS w g h n p d) (m : Nat) : RefS (w.drewN m) g h n p d := r.keep rfl rfl
theorem RefS.touch {g' h' : Nat} (r : RefS w g h n p d) (t : Touch g' h' w w') (a1 : g ≠ g') (a2 : g ≠ h') (a3 : h ≠ g') (a4 : h ≠ h') : RefS w' g h n p d :=
  r.keep (t.block g r.glt a1 a2) (t.block h r.hlt a3 a4)
end

theorem bool_info : (Try.prog.info? 4).map (fun i => (i.zero, i.size, i.bytes)) = some (some (.bool false), 1, 1) := by kernel_rfl
theorem make_bools (n : Nat) (hn : n ≤ 1000000) (w : World) : (Instr.makeSlice 38 (.int .i64 (n : Int)) (.int .i64 (n : Int))).run Try.prog w =
    .ok (.slice (some ⟨w.heap.size, 0, none⟩) n n) (w.alloc (.cells (fnC n (fun _ => .bool false)) 4)) := by
  obtain ⟨i0, hi0, hz0, hz1, hz2⟩ := info_parts bool_info
  have := run_make (P := Try.prog) w 38 4 i0 _ Try.underlying38 hi0 hz0 .i64 .i64 (n : Int) (n : Int) (by omega) (Int.le_refl _) (by rw [hz2]; omega) (by omega)
  rw [this, hz1, Int.toNat_natCast, made_one _ rfl]

set_option maxHeartbeats 400000 in
theorem rnew_any (n : Nat) (w : World) (h1 : 1 ≤ n) (h2 : n ≤ 4096) :
    Calls Try.prog 11 #[.int .i64 (n : Int)] w fun e w' => e = .returned (.pointer (some ⟨w.heap.size + 1, 0, none⟩)) ∧ RefS w' (w.heap.size + 1) w.heap.size n noP 0 ∧ Below w.heap.size w w' := by
  have hmk := make_bools (n + 1) (by omega)
  rw [show ((n + 1 : Nat) : Int) = (n : Int) + 1 from by omega] at hmk
  go_enter Try.func11, Try.ntmps11
  go_wp2
  go_ret
  refine ⟨rfl, ⟨?_, (RowF.new w 4 (n + 1) fun _ => .bool false).alloc _, by omega, h1, h2, by omega, rfl⟩, ((Below.refl _ _).alloc (Nat.le_refl _) _).alloc (by simp) _⟩
  have := heap_new (w.alloc (.cells (fnC (n + 1) (fun _ => .bool false)) 4)) (.cells #[.slice (some ⟨w.heap.size, 0, none⟩) (n + 1) (n + 1), .int .i64 0] 40)
  rw [World.size_alloc] at this
  exact this

set_option maxHeartbeats 400000 in
theorem rput_any {w : World} {g h n d : Nat} {p : Nat → Bool} (r : RefS w g h n p d) (hd : d + 1 ≤ 1000000) :
    Calls Try.prog 14 #[.pointer (some ⟨g, 0, none⟩)] w fun e w' => e = .returned (.tuple #[]) ∧ RefS w' g h n (putP p) (d + 1) ∧ Touch g h w w' := by
  obtain ⟨c0, c1⟩ := r.cells
  have ht := r.thawed
  have hn1 := r.n1
  have hn2 := r.n2
  have hfar := r.far
  have hx := r.row.at_ 1 (by omega)
  have hth := r.row.thawed
  have hone : (1 : Int) < ((n + 1 : Nat) : Int) := by omega
  have hR : RefS ((w.setCell ⟨h, 1, none⟩ (.bool true)).setCell ⟨g, 1, none⟩ (.int .i64 ((d : Int) + 1))) g h n (putP p) (d + 1) := by
    refine ⟨?_, ((r.row.put 1 _).far (fun e => r.far e.symm) _).congr (fun i _ => ?_), r.far, r.n1, r.n2, hd, by simp [putP, r.p0]⟩
    · have h1 : (w.setCell ⟨h, 1, none⟩ (.bool true)).heap[g]? = _ := (Below.heap_setCell _ _ _ _ r.far).trans r.blk
      simp [World.setCell, Array.getElem?_modify] at h1 ⊢
      simp [h1]
    · unfold putP
      by_cases e : i = 1 <;> simp [e]
  have T := ((Touch.refl g h w).set2 1 (.bool true)).set1 1 (.int .i64 ((d : Int) + 1))
  have HR := hidd hR
  have HT := hidd T
  clear hR T
  have hd0 := r.hd
  go_enter Try.func14, Try.ntmps14
  go_wp2
  go_end0
  exact ⟨rfl, HR.out, HT.out⟩

set_option maxHeartbeats 400000 in
theorem rclear_any {w : World} {g h n d : Nat} {p : Nat → Bool} (r : RefS w g h n p d) (hd : d + 1 ≤ 1000000) :
    Calls Try.prog 16 #[.pointer (some ⟨g, 0, none⟩)] w fun e w' => e = .returned (.tuple #[]) ∧ RefS w' g w.heap.size n noP (d + 1) ∧ Touch g h w w' := by
  obtain ⟨c0, c1⟩ := r.cells
  have ht := r.thawed
  have hn1 := r.n1
  have hn2 := r.n2
  have hgl := r.glt
  have hgn : ¬ g = w.heap.size := by omega
  have hmk := make_bools (n + 1) (by omega)
  rw [show ((n + 1 : Nat) : Int) = (n : Int) + 1 from by omega] at hmk
  have hsz : ((w.setCell ⟨g, 0, none⟩ (.slice (some ⟨w.heap.size, 0, none⟩) (n + 1) (n + 1))).setCell ⟨g, 1, none⟩ (.int .i64 ((d : Int) + 1))).heap.size = w.heap.size := by simp [World.setCell]
  have hR : RefS (((w.setCell ⟨g, 0, none⟩ (.slice (some ⟨w.heap.size, 0, none⟩) (n + 1) (n + 1))).setCell ⟨g, 1, none⟩ (.int .i64 ((d : Int) + 1))).alloc (.cells (fnC (n + 1) (fun _ => .bool false)) 4)) g w.heap.size n noP (d + 1) := by
    refine ⟨?_, ?_, by omega, r.n1, r.n2, hd, rfl⟩
    · refine (Below.heap_alloc _ _ g (by omega)).trans ?_
      have h1 := r.blk
      simp [World.setCell, Array.getElem?_modify, h1]
    · have := RowF.new ((w.setCell ⟨g, 0, none⟩ (.slice (some ⟨w.heap.size, 0, none⟩) (n + 1) (n + 1))).setCell ⟨g, 1, none⟩ (.int .i64 ((d : Int) + 1))) 4 (n + 1) fun _ => .bool false
      rw [hsz] at this
      exact this
  have T := (((Touch.refl g h w).set1 0 (.slice (some ⟨w.heap.size, 0, none⟩) (n + 1) (n + 1))).set1 1 (.int .i64 ((d : Int) + 1))).below ((Below.refl _ _).alloc (Nat.le_refl _) (.cells (fnC (n + 1) (fun _ => .bool false)) 4))
  clear hsz
  have HR := hidd hR
  have HT := hidd T
  clear hR T
  have hd0 := r.hd
  go_enter Try.func16, Try.ntmps16
  go_wp2
  go_end0
  exact ⟨rfl, HR.out, HT.out⟩

/-- The row of marks while Inc moves them. -/
def movP (p : Nat → Bool) (i j : Nat) : Bool := decide (2 ≤ j) && decide (j ≤ i) && p (j - 1)
theorem mov_step (p : Nat → Bool) (i j : Nat) (hi : 1 ≤ i) : (if j = i + 1 then Value.bool (p i) else .bool (movP p i j)) = .bool (movP p (i + 1) j) := by
  unfold movP
  by_cases h : j = i + 1
  · subst h
    rw [if_pos rfl]
    simp
    omega
  · rw [if_neg h]
    congr 2
    congr 1
    rw [decide_eq_decide]
    omega
theorem mov_start (p : Nat → Bool) (j : Nat) : movP p 1 j = false := by
  unfold movP
  by_cases h : 2 ≤ j
  · have : ¬ j ≤ 1 := by omega
    simp [this]
  · simp [h]
theorem mov_end (p : Nat → Bool) (n j : Nat) (h : j < n + 1) : movP p n j = incP p j := by
  unfold movP incP
  have : j ≤ n := by omega
  simp [this]

set_option maxHeartbeats 1000000 in
theorem rinc_any {w : World} {g h n d : Nat} {p : Nat → Bool} (r : RefS w g h n p d) (hd : d + 1 ≤ 1000000) :
    Calls Try.prog 15 #[.pointer (some ⟨g, 0, none⟩)] w fun e w' => e = .returned (.tuple #[]) ∧ RefS w' g w.heap.size n (incP p) (d + 1) ∧ Touch g h w w' := by
  obtain ⟨c0, c1⟩ := r.cells
  have hn1 := r.n1
  have hn2 := r.n2
  have hgl := r.glt
  have hd0 := r.hd
  have hmk := make_bools (n + 1) (by omega)
  rw [show ((n + 1 : Nat) : Int) = (n : Int) + 1 from by omega] at hmk
  go_enter Try.func15, Try.ntmps15
  go_wp2
  go_loopw [3] (fun i wr => ∃ k : Nat, 1 ≤ k ∧ k ≤ n ∧ i = .int .i64 k ∧ RowF wr w.heap.size 4 (n + 1) (fun j => .bool (movP p k j)) ∧ Below w.heap.size w wr) (fun i _ => n - (intOf i).toNat)
  case atStart =>
    exact ⟨1, Nat.le_refl _, hn1, rfl, (RowF.new w 4 (n + 1) fun _ => .bool false).congr (fun j _ => by rw [mov_start]), (Below.refl _ _).alloc (Nat.le_refl _) _⟩
  case round =>
    obtain ⟨k, hk1, hk2, rfl, R, D⟩ := hrel
    have r1 := r.belw D
    clear c0 c1
    obtain ⟨c0, c1⟩ := r1.cells
    by_cases hlt : k < n
    · have hx := r1.row.at_ k (by omega)
      have hy := R.at_ (k + 1) (by omega)
      have hth := R.thawed
      have hki : (k : Int) < ((n + 1 : Nat) : Int) := by omega
      have hki2 : (k : Int) + 1 < ((n + 1 : Nat) : Int) := by omega
      have HM := hidd (fun j => mov_step p k j hk1)
      go_wp2
      exact ⟨⟨k + 1, by omega, by omega, rfl, (R.put (k + 1) _).congr (fun j _ => HM.out j), D.setCell (by simp) _⟩, by simp [intOf]; omega⟩
    · have hk : k = n := by omega
      subst hk
      have ht := r1.thawed
      have hsz := D.size
      have hlt2 := R.lt
      have hR : RefS ((wr.setCell ⟨g, 0, none⟩ (.slice (some ⟨w.heap.size, 0, none⟩) (k + 1) (k + 1))).setCell ⟨g, 1, none⟩ (.int .i64 ((d : Int) + 1))) g w.heap.size k (incP p) (d + 1) := by
        refine ⟨?_, ((R.far (by simp; omega) _).far (by simp; omega) _).congr (fun j hj => by rw [mov_end p k j hj]), by omega, hn1, hn2, hd, by simp [incP]⟩
        have h1 := r1.blk
        simp [World.setCell, Array.getElem?_modify, h1]
      have HR := hidd hR
      have HT := hidd (((Touch.refl g h w).below D).set1 0 (.slice (some ⟨w.heap.size, 0, none⟩) (k + 1) (k + 1)) |>.set1 1 (.int .i64 ((d : Int) + 1)))
      clear hR
      go_wp2
      go_end0
      exact ⟨rfl, HR.out, HT.out⟩

set_option maxHeartbeats 1000000 in
theorem rlist_any {w : World} {g h n d : Nat} {p : Nat → Bool} (r : RefS w g h n p d) :
    Calls Try.prog 17 #[.pointer (some ⟨g, 0, none⟩)] w fun e w' => ∃ A c, e = .returned (.slice A (cnt n p).length c) ∧ Nts w' w'.heap.size A (cnt n p) ∧ Below w.heap.size w w' := by
  obtain ⟨i0, hi0, hz0, hz1, hz2⟩ := info_parts int_info
  have hn1 := r.n1
  have hn2 := r.n2
  go_enter Try.func17, Try.ntmps17
  go_wp2
  go_loopw [3, 4] (fun l i wr => ∃ k : Nat, 1 ≤ k ∧ k ≤ n + 1 ∧ i = .int .i64 k ∧ wr.ownsRow w.heap.size 3 1 l (cntB k p).length (i64s (cntB k p)) ∧ Below w.heap.size w wr) (fun _ i _ => n + 1 - (intOf i).toNat)
  case atStart =>
    refine ⟨1, Nat.le_refl _, by omega, rfl, ?_, Below.refl _ _⟩
    rw [cntB_one r.p0]
    exact World.ownsRow_nil _ _ _ _
  case round =>
    obtain ⟨k, hk1, hk2, rfl, hown, D⟩ := hrel
    have r1 := r.belw D
    obtain ⟨c0, c1⟩ := r1.cells
    have hbs := D.size
    have hcl := cntB_len k p
    by_cases hlt : k < n + 1
    · have hx := r1.row.at_ k hlt
      have hki : (k : Int) < ((n + 1 : Nat) : Int) := by omega
      have hki2 : (k : Int) < (n : Int) + 1 := by omega
      cases hp : p k with
      | true =>
        rw [hp] at hx
        have HS := hidd (cntB_yes hp)
        go_wp2_with (at_builtin; refine wpList_append_own _ rfl (.tmp 21) (.tmp 23) 32 rfl w.heap.size 3 i0 (.int .i64 0) 1 8 Try.underlying32 hi0 hz0 hz1 hz2 rfl (by omega) _ _ _ rfl (hown.alloc _) ⟨wr.heap.size, 0, none⟩ 1 1 [.int .i64 (k : Int)] rfl rfl (cell_one_new _ _ _) (by simp [Value.oneCell']) (by simp only [maxLen]; omega) (by omega) (by simp; omega) ?_; intro v2 w2 hown2 hg2 _)
        change (wr.alloc _).grownBy w2 u3.ownBlock at hg2
        have hlt2 := hown.lt
        refine ⟨⟨k + 1, by omega, by omega, rfl, ?_, (D.alloc (by omega) _).grown hg2 (by simp; omega) (fun j e => ?_)⟩, by simp [intOf]; omega⟩
        · rw [HS.out, List.length_append, ← i64s_snoc]; exact hown2
        · have := (hlt2 _ e).1; omega
      | false =>
        rw [hp] at hx
        have HS := hidd (cntB_no hp)
        go_wp2
        refine ⟨⟨k + 1, by omega, by omega, rfl, ?_, D⟩, by simp [intOf]; omega⟩
        rw [HS.out]; exact hown
    · have hk : k = n + 1 := by omega
      subst hk
      obtain ⟨A, c, rfl, hN⟩ := Nts.of_own hown
      go_wp2
      go_ret
      exact ⟨A, c, rfl, hN, D⟩

end Go.Proofs.Ytblanbopjebenaa

/- Parts of texts; what may be nothing; rising lists of places. -/
import Derived.Test.YtcgondjekpcpgaaDoorPGc
import Derived.Test.YtcgondjekpcpgaaDoorPAs
import Derived.Test.YtcgondjekpcpgaaDoorPGh
namespace Go.Proofs.YtcgondjekpcpgaaDoor.Sy.Lg.En
open Go.RowKit Go.Proofs.YtcgondjekpcpgaaDoor.Sy.Ap Go.Proofs.YtcgondjekpcpgaaDoor.Sy.Ap.Wk
set_option maxRecDepth 100000
set_option linter.unusedVariables false

/-! ### Two relations that go in step -/
section
variable {R R' : Rel} {f : Nat → Nat}
/-- R' is R behind f, and R leaves f's image neither up nor down: to the places up to N. -/
theorem pow_step {d : Nat} (hR : ∀ i j, R i j → i ≤ j) (h : ∀ i j, R' i j ↔ R (d + i) (d + j)) : ∀ (t i j : Nat), powR R' t i j ↔ powR R t (d + i) (d + j)
  | 0, i, j => by
    show i = j ↔ d + i = d + j
    omega
  | t + 1, i, j => by
    constructor
    · rintro ⟨m, h1, h2⟩
      exact ⟨d + m, (pow_step hR h t i m).1 h1, (h m j).1 h2⟩
    · rintro ⟨m, h1, h2⟩
      have hm := powR_ge hR t _ _ h1
      refine ⟨m - d, (pow_step hR h t i (m - d)).2 ?_, (h (m - d) j).2 ?_⟩
      · rw [show d + (m - d) = m from by omega]; exact h1
      · rw [show d + (m - d) = m from by omega]; exact h2
theorem pow_cut {N : Nat} (hR : ∀ i j, R i j → i ≤ j) (h : ∀ i j, j ≤ N → (R' i j ↔ R i j)) (hR' : ∀ i j, R' i j → i ≤ j) : ∀ (t i j : Nat), j ≤ N → (powR R' t i j ↔ powR R t i j)
  | 0, i, j, _ => Iff.rfl
  | t + 1, i, j, hj => by
    constructor
    · rintro ⟨m, h1, h2⟩
      have := hR' m j h2
      exact ⟨m, (pow_cut hR h hR' t i m (by omega)).1 h1, (h m j hj).1 h2⟩
    · rintro ⟨m, h1, h2⟩
      have := hR m j h2
      exact ⟨m, (pow_cut hR h hR' t i m (by omega)).2 h1, (h m j hj).2 h2⟩
end
section
variable {ns : List Nd}
theorem Mt_up (hl : Low ns) (t : List Nat) (k i j : Nat) (h : Mt ns t k i j) : i ≤ j := (Mt_in hl t k i j h).1
theorem Mt_none {k : Nat} (hn : ns[k]? = none) (t : List Nat) (i j : Nat) : Mt ns t k i j ↔ i = j := by
  have e : ns.getD k mtF.nd0' = mtF.nd0' := by rw [List.getD_eq_getElem?_getD, hn]; rfl
  show node1 t (ns.getD k mtF.nd0') (mtF ns t k) i j ↔ _
  rw [e]
  exact Iff.rfl
/-- From a place on it is as from the beginning of what is there. -/
theorem Mt_drop (hl : Low ns) (t : List Nat) (d : Nat) (hd : d ≤ t.length) : ∀ (k i j : Nat), Mt ns (t.drop d) k i j ↔ Mt ns t k (d + i) (d + j) := by
  intro k
  induction k using Nat.strongRecOn with
  | ind k ih =>
    intro i j
    cases hn : ns[k]? with
    | none => rw [Mt_none hn, Mt_none hn]; omega
    | some n =>
      rw [Mt_eq hl _ k hn, Mt_eq hl _ k hn]
      have hlow := hl k n hn
      unfold node1
      split
      · rw [List.length_drop, List.getD_eq_getElem?_getD, List.getElem?_drop, List.getD_eq_getElem?_getD]
        constructor
        · rintro ⟨q1, q2, q3⟩; exact ⟨by omega, q2, by omega⟩
        · rintro ⟨q1, q2, q3⟩; exact ⟨by omega, q2, by omega⟩
      · split
        · have hch : ∀ (l : List Nat), (∀ c ∈ l, c ∈ n.l) → ∀ i j, chainR (Mt ns (t.drop d)) l i j ↔ chainR (Mt ns t) l (d + i) (d + j) := by
            intro l
            induction l with
            | nil => intro _ i j; show i = j ↔ d + i = d + j; omega
            | cons x r ihr =>
              intro hx i j
              constructor
              · rintro ⟨m, q1, q2⟩
                exact ⟨d + m, (ih x (hlow.2 x (hx x (by simp))) i m).1 q1, (ihr (fun c hc => hx c (by simp [hc])) m j).1 q2⟩
              · rintro ⟨m, q1, q2⟩
                have hm := Mt_up hl t x _ _ q1
                refine ⟨m - d, (ih x (hlow.2 x (hx x (by simp))) i (m - d)).2 ?_, (ihr (fun c hc => hx c (by simp [hc])) (m - d) j).2 ?_⟩
                · rw [show d + (m - d) = m from by omega]; exact q1
                · rw [show d + (m - d) = m from by omega]; exact q2
          exact hch n.l (fun c hc => hc) i j
        · split
          · constructor
            · rintro ⟨c, hc, q⟩; exact ⟨c, hc, (ih c (hlow.2 c hc) i j).1 q⟩
            · rintro ⟨c, hc, q⟩; exact ⟨c, hc, (ih c (hlow.2 c hc) i j).2 q⟩
          · split
            · rename_i q5
              have hm : n.l.getD 0 0 < k := by
                cases hl2 : n.l with
                | nil => exact absurd hl2 (hlow.1 q5)
                | cons z y => exact hlow.2 z (by rw [hl2]; simp)
              constructor
              · rintro ⟨s, q1, q2, q3⟩
                exact ⟨s, q1, q2, (pow_step (Mt_up hl t _) (ih _ hm) s i j).1 q3⟩
              · rintro ⟨s, q1, q2, q3⟩
                exact ⟨s, q1, q2, (pow_step (Mt_up hl t _) (ih _ hm) s i j).2 q3⟩
            · omega
/-- What is behind a place does not matter up to it. -/
theorem Mt_take (hl : Low ns) (t : List Nat) (N : Nat) (hN : N ≤ t.length) : ∀ (k i j : Nat), j ≤ N → (Mt ns (t.take N) k i j ↔ Mt ns t k i j) := by
  intro k
  induction k using Nat.strongRecOn with
  | ind k ih =>
    intro i j hj
    cases hn : ns[k]? with
    | none => rw [Mt_none hn, Mt_none hn]
    | some n =>
      rw [Mt_eq hl _ k hn, Mt_eq hl _ k hn]
      have hlow := hl k n hn
      unfold node1
      split
      · rw [List.length_take, List.getD_eq_getElem?_getD, List.getD_eq_getElem?_getD]
        constructor
        · rintro ⟨q1, q2, q3⟩
          rw [List.getElem?_take_of_lt (by omega)] at q2
          exact ⟨by omega, q2, q3⟩
        · rintro ⟨q1, q2, q3⟩
          refine ⟨by omega, ?_, q3⟩
          rw [List.getElem?_take_of_lt (by omega)]
          exact q2
      · split
        · have hch : ∀ (l : List Nat), (∀ c ∈ l, c ∈ n.l) → ∀ i j, j ≤ N → (chainR (Mt ns (t.take N)) l i j ↔ chainR (Mt ns t) l i j) ∧ (chainR (Mt ns t) l i j → i ≤ j) ∧ (chainR (Mt ns (t.take N)) l i j → i ≤ j) := by
            intro l
            induction l with
            | nil => intro _ i j _; exact ⟨Iff.rfl, (fun h => by cases h; exact Nat.le_refl _), fun h => by cases h; exact Nat.le_refl _⟩
            | cons x r ihr =>
              intro hx i j hj
              have hr := fun m => ihr (fun c hc => hx c (by simp [hc])) m j hj
              have hxx := hlow.2 x (hx x (by simp))
              refine ⟨⟨?_, ?_⟩, ?_, ?_⟩
              · rintro ⟨m, q1, q2⟩
                have := (hr m).2.2 q2
                exact ⟨m, (ih x hxx i m (by omega)).1 q1, (hr m).1.1 q2⟩
              · rintro ⟨m, q1, q2⟩
                have := (hr m).2.1 q2
                exact ⟨m, (ih x hxx i m (by omega)).2 q1, (hr m).1.2 q2⟩
              · rintro ⟨m, q1, q2⟩
                have := (hr m).2.1 q2
                have := Mt_up hl _ x i m q1
                omega
              · rintro ⟨m, q1, q2⟩
                have := (hr m).2.2 q2
                have := Mt_up hl _ x i m q1
                omega
          exact (hch n.l (fun c hc => hc) i j hj).1
        · split
          · constructor
            · rintro ⟨c, hc, q⟩; exact ⟨c, hc, (ih c (hlow.2 c hc) i j hj).1 q⟩
            · rintro ⟨c, hc, q⟩; exact ⟨c, hc, (ih c (hlow.2 c hc) i j hj).2 q⟩
          · split
            · rename_i q5
              have hm : n.l.getD 0 0 < k := by
                cases hl2 : n.l with
                | nil => exact absurd hl2 (hlow.1 q5)
                | cons z y => exact hlow.2 z (by rw [hl2]; simp)
              constructor
              · rintro ⟨s, q1, q2, q3⟩
                exact ⟨s, q1, q2, (pow_cut (Mt_up hl t _) (ih _ hm) (Mt_up hl _ _) s i j hj).1 q3⟩
              · rintro ⟨s, q1, q2, q3⟩
                exact ⟨s, q1, q2, (pow_cut (Mt_up hl t _) (ih _ hm) (Mt_up hl _ _) s i j hj).2 q3⟩
            · exact Iff.rfl
/-! ### What may be nothing -/
/-! ### Rising lists -/
theorem endL_rise (ns : List Nd) (t : List Nat) (i : Nat) : (endL ns t i).Pairwise (· < ·) := by
  unfold endL
  exact List.Pairwise.filter _ List.pairwise_lt_range
/-- Two rising lists of the same places are one. -/
theorem rise_ext : ∀ {l m : List Nat}, l.Pairwise (· < ·) → m.Pairwise (· < ·) → (∀ x, x ∈ l ↔ x ∈ m) → l = m
  | [], [], _, _, _ => rfl
  | [], y :: m, _, _, h => by have := (h y).2 (by simp); cases this
  | x :: l, [], _, _, h => by have := (h x).1 (by simp); cases this
  | x :: l, y :: m, hl, hm, h => by
    obtain ⟨h1, h2⟩ := List.pairwise_cons.1 hl
    obtain ⟨h3, h4⟩ := List.pairwise_cons.1 hm
    have hxy : x = y := by
      rcases List.mem_cons.1 ((h x).1 (by simp)) with q | q
      · exact q
      · rcases List.mem_cons.1 ((h y).2 (by simp)) with r | r
        · exact r.symm
        · have := h1 y r
          have := h3 x q
          omega
    subst hxy
    congr 1
    refine rise_ext h2 h4 fun z => ?_
    constructor
    · intro hz
      rcases List.mem_cons.1 ((h z).1 (by simp [hz])) with q | q
      · have := h1 z hz; omega
      · exact q
    · intro hz
      rcases List.mem_cons.1 ((h z).2 (by simp [hz])) with q | q
      · have := h3 z hz; omega
      · exact q
/-- The last of all places up to the end of a text, if it is that end. -/
theorem is_iff (hl : Low ns) (t : List Nat) : isL (endL ns t 0) t.length = true ↔ Mt ns t (ns.length - 1) 0 t.length := by
  unfold isL
  rw [← mem_endL hl (Nat.zero_le _), beq_iff_eq]
  constructor
  · intro h; exact List.mem_of_getLast? h
  · intro h
    have hle : ∀ x ∈ endL ns t 0, x ≤ t.length := fun x hx => by
      have := (Mt_in hl t _ _ _ ((mem_endL hl (Nat.zero_le _)).1 hx)).2 (Nat.zero_le _)
      exact this
    have hne : endL ns t 0 ≠ [] := fun e => by rw [e] at h; cases h
    rw [List.getLast?_eq_some_getLast hne]
    congr 1
    have h1 := hle _ (List.getLast_mem hne)
    have h2 : t.length ≤ (endL ns t 0).getLast hne := by
      have hr := endL_rise ns t 0
      generalize endL ns t 0 = l at *
      rw [← List.dropLast_concat_getLast hne] at h hr
      rcases List.mem_append.1 h with q | q
      · have := (List.pairwise_append.1 hr).2.2 _ q (l.getLast hne) List.mem_cons_self
        omega
      · simp at q; omega
    omega
end
end Go.Proofs.YtcgondjekpcpgaaDoor.Sy.Lg.En

namespace Go.Proofs.YtcgondjekpcpgaaDoor.Sy.Lg.En
open Go.RowKit Go.Proofs.YtcgondjekpcpgaaDoor.Sy.Ap Go.Proofs.YtcgondjekpcpgaaDoor.Sy.Ap.Wk
set_option maxRecDepth 100000
set_option linter.unusedVariables false

variable {ns : List Nd}
theorem bs_drop (s : ByteArray) (i : Nat) : bs (s.extract i s.size) = (bs s).drop i := by
  rw [ex_bs]
  unfold cut
  exact List.take_of_length_le (by rw [List.length_drop, bs_len]; exact Nat.le_refl _)
theorem up_ends (hl : Low ns) {s : ByteArray} {i x : Nat} (hi : i ≤ s.size) (hx : x ∈ endL ns (bs s) i) : i ≤ x ∧ x ≤ s.size := by
  have hb := bs_len s
  have h := (mem_endL hl (by omega)).1 hx
  have h2 := Mt_in hl (bs s) _ _ _ h
  exact ⟨h2.1, by have := h2.2 (by omega); omega⟩
end Go.Proofs.YtcgondjekpcpgaaDoor.Sy.Lg.En

namespace Go.Proofs.YtcgondjekpcpgaaDoor.Sy.Lg.En
open Go.RowKit Go.Proofs.YtcgondjekpcpgaaDoor.Sy.Ap Go.Proofs.YtcgondjekpcpgaaDoor.Sy.Ap.Wk
set_option maxRecDepth 100000
set_option linter.unusedVariables false

theorem ends_cat {ns ms : List Nd} {n : Nd} (hx : TreeN ns) (hy : TreeN ms) (hT : Low (bothN ns ms n)) (ho : n.op = 3) (hn : n.l = [ns.length - 1, ns.length + ms.length - 1]) (t : List Nat) {i : Nat} (hi : i ≤ t.length) (j : Nat) :
    j ∈ endL (bothN ns ms n) t i ↔ ∃ m, m ∈ endL ns t i ∧ j ∈ endL ms t m := by
  rw [mem_endL hT hi, both_cat hx hy hT ho hn]
  constructor
  · rintro ⟨m, h1, h2⟩
    have hm : m ≤ t.length := (Mt_in hx.low t _ _ _ h1).2 hi
    exact ⟨m, (mem_endL hx.low hi).2 h1, (mem_endL hy.low hm).2 h2⟩
  · rintro ⟨m, h1, h2⟩
    have h1 := (mem_endL hx.low hi).1 h1
    have hm : m ≤ t.length := (Mt_in hx.low t _ _ _ h1).2 hi
    exact ⟨m, h1, (mem_endL hy.low hm).1 h2⟩
theorem ends_alt {ns ms : List Nd} {n : Nd} (hx : TreeN ns) (hy : TreeN ms) (hT : Low (bothN ns ms n)) (ho : n.op = 4) (hn : n.l = [ns.length - 1, ns.length + ms.length - 1]) (t : List Nat) {i : Nat} (hi : i ≤ t.length) (j : Nat) :
    j ∈ endL (bothN ns ms n) t i ↔ j ∈ endL ns t i ∨ j ∈ endL ms t i := by
  rw [mem_endL hT hi, both_alt hx hy hT ho hn, mem_endL hx.low hi, mem_endL hy.low hi]
/-- A rising list is told by which of the places up to n are in it. -/
theorem rise_filter {l : List Nat} (h : l.Pairwise (· < ·)) {n : Nat} {f : Nat → Bool} (hf : ∀ x, x ∈ l ↔ x < n ∧ f x = true) : l = (List.range n).filter f := by
  refine rise_ext h (List.Pairwise.filter _ List.pairwise_lt_range) fun x => ?_
  rw [hf, List.mem_filter, List.mem_range]
end Go.Proofs.YtcgondjekpcpgaaDoor.Sy.Lg.En

namespace Go.Proofs.YtcgondjekpcpgaaDoor.Sy.Lg.En
open Go.RowKit Go.Proofs.YtcgondjekpcpgaaDoor.Sy.Ap Go.Proofs.YtcgondjekpcpgaaDoor.Sy.Ap.Wk
set_option maxRecDepth 100000
set_option linter.unusedVariables false

def someL (f : Nat → Bool) (n : Nat) : List Nat := (List.range n).filter f
theorem someL_next (f : Nat → Bool) (n : Nat) : someL f (n + 1) = if f n = true then someL f n ++ [n] else someL f n := by
  unfold someL
  rw [List.range_succ, List.filter_append]
  split
  · rename_i h; simp [h]
  · rename_i h; simp [h]
theorem someL_len (f : Nat → Bool) (n : Nat) : (someL f n).length ≤ n := by
  have := List.length_filter_le f (List.range n)
  rw [List.length_range] at this
  exact this
theorem i64s_snoc (l : List Nat) (k : Nat) : i64s l ++ [.int .i64 (k : Int)] = i64s (l ++ [k]) := by simp [i64s]
set_option maxHeartbeats 1000000 in
theorem listb_any (q n : Nat) (f : Nat → Bool) (w : World) (hR : RowF w q 4 n (fun i => .bool (f i))) (hn : n ≤ 100) :
    Calls Tryd.prog 23 #[.slice (some ⟨q, 0, none⟩) n n] w fun e w' => LstR w (someL f n) e w' := by
  obtain ⟨j0, hj0i, hy0, hy1, hy2⟩ := info_parts int_info
  have HR := hidd hR
  have hql := hR.lt
  clear hR
  go_enter Tryd.func23, Tryd.ntmps23
  have HO0 : Hid (w.ownsRow w.heap.size 3 1 (.slice none 0 0) (someL f 0).length (i64s (someL f 0))) := World.ownsRow_nil _ _ _ _
  go_wp2
  go_loopw [3, 8] (fun s3 s8 wr => ∃ k : Nat, k ≤ n ∧ s8 = .int .i64 (k : Int) ∧ wr.ownsRow w.heap.size 3 1 s3 (someL f k).length (i64s (someL f k)) ∧ Below w.heap.size w wr) (fun _ s8 _ => n - (intOf s8).toNat)
  case atStart => exact ⟨0, Nat.zero_le _, rfl, HO0.out, Below.refl _ _⟩
  case round =>
    clear HO0
    obtain ⟨k, hk0, rfl, hown, hb⟩ := hrel
    obtain ⟨A3, c3, rfl⟩ := own_form hown
    by_cases hlt : k < n
    · have x1 : wr.cell? ⟨q, k, none⟩ = some (.bool (f k)) := by rw [hb.cell hql]; exact HR.out.at_ k hlt
      have hki : (k : Int) < (n : Int) := by omega
      have hnx := someL_next f k
      have hll := someL_len f k
      cases hf : f k with
      | false =>
        rw [hf] at x1 hnx
        rw [if_neg (by decide)] at hnx
        have HF : Hid (wr.ownsRow w.heap.size 3 1 (.slice A3 (someL f k).length c3) (someL f (k + 1)).length (i64s (someL f (k + 1))) ∧ Below w.heap.size w wr) := ⟨by rw [hnx]; exact hown, hb⟩
        clear hown hb hnx
        generalize someL f k = L at *
        go_wp2
        exact ⟨⟨k + 1, by omega, rfl, HF.out.1, HF.out.2⟩, by simp [intOf]; omega⟩
      | true =>
        rw [hf] at x1 hnx
        rw [if_pos rfl] at hnx
        have HNX := hidd hnx
        clear hnx
        generalize someL f k = L at *
        have hown2 := hown.alloc (.cells #[.int .i64 (k : Int)] 3)
        have hnews := int_news wr (k : Int)
        have hH : (wr.alloc (.cells #[.int .i64 (k : Int)] 3)).heap.size = wr.heap.size + 1 := World.size_alloc ..
        have hds := hb.size
        have hbase : w.heap.size ≤ (wr.alloc (.cells #[.int .i64 (k : Int)] 3)).heap.size := by rw [hH]; omega
        have HDA := hidd (hb.alloc hb.size (.cells #[.int .i64 (k : Int)] 3))
        clear hown hb
        go_wp2_with (at_builtin; refine wpList_append_lies _ rfl _ _ _ rfl w.heap.size 3 j0 (.int .i64 0) 1 8 Tryd.underlying30 hj0i hy0 hy1 hy2 rfl (by omega) _ L.length (i64s L) rfl hown2 ⟨wr.heap.size, 0, none⟩ 1 1 [.int .i64 (k : Int)] rfl rfl hnews (by simp [Value.oneCell']) (by omega) (by simp only [maxLen]; omega) (by omega) hbase (wr.heap.size + 1) hH ?_; intro g5 cap5 w5' hown5 hgrow hat hlt5; refine Hid.out ?_)
        have HF : Hid (w5'.ownsRow w.heap.size 3 1 (.slice (some ⟨g5, 0, none⟩) (L.length + 1) cap5) (someL f (k + 1)).length (i64s (someL f (k + 1))) ∧ Below w.heap.size w w5') := by
          refine ⟨?_, bel_row HDA.out hbase hgrow (fun q hq => (hown2.lt q hq).1)⟩
          rw [HNX.out, ← i64s_snoc, List.length_append, List.length_singleton]
          exact hown5
        clear hown2 hnews hH hbase hown5 hgrow hat hlt5 HDA
        refine Lib.hid ?_
        go_wp2
        exact ⟨⟨k + 1, by omega, rfl, HF.out.1, HF.out.2⟩, by simp [intOf]; omega⟩
    · have hkn : n = k := by omega
      subst hkn
      have HF : Hid (LstR w (someL f n) (.returned (.slice A3 (someL f n).length c3)) wr) := ⟨hb, A3, c3, rfl, hown⟩
      clear hown hb
      go_wp2
      go_ret
      exact HF.out
end Go.Proofs.YtcgondjekpcpgaaDoor.Sy.Lg.En

namespace Go.Proofs.YtcgondjekpcpgaaDoor.Sy.Lg.En
open Go.RowKit Go.Proofs.YtcgondjekpcpgaaDoor.Sy.Ap Go.Proofs.YtcgondjekpcpgaaDoor.Sy.Ap.Wk
set_option maxRecDepth 100000
set_option linter.unusedVariables false

section
variable {gx gy : List Gd} {ns ms : List Nd}
theorem plain_both (hx : PlainN ns) (hy : PlainN ms) {n : Nd} (hn : n.op ≠ 6) : PlainN (bothN ns ms n) := by
  intro m hm
  unfold bothN at hm
  rcases List.mem_append.1 hm with q | q
  · rcases List.mem_append.1 q with r | r
    · exact hx m r
    · obtain ⟨z, hz, rfl⟩ := List.mem_map.1 r
      exact hy z hz
  · rw [List.mem_singleton] at q
    subst q
    exact hn
theorem plain_one (hx : PlainN ns) {n : Nd} (hn : n.op ≠ 6) : PlainN (ns ++ [n]) := by
  intro m hm
  rcases List.mem_append.1 hm with r | r
  · exact hx m r
  · rw [List.mem_singleton] at r
    subst r
    exact hn
/-- What pair makes is both trees and a node over both. -/
theorem pair_tree (hx : GN gx ns) (hy : GN gy ms) (tx : TreeN ns) (ty : TreeN ms) (px : PlainN ns) (py : PlainN ms) (h1 : gx.length ≤ 100) (h2 : gy.length ≤ 100) :
    (GN (gx ++ gy.map (shfG gx.length) ++ [catG 3 [(gx.length : Int) - 1, ((gx.length + gy.length : Nat) : Int) - 1]]) (bothN ns ms (ndCat [ns.length - 1, ns.length + ms.length - 1])) ∧ TreeN (bothN ns ms (ndCat [ns.length - 1, ns.length + ms.length - 1])) ∧ PlainN (bothN ns ms (ndCat [ns.length - 1, ns.length + ms.length - 1]))) ∧
    (GN (gx ++ gy.map (shfG gx.length) ++ [catG 4 [(gx.length : Int) - 1, ((gx.length + gy.length : Nat) : Int) - 1]]) (bothN ns ms (ndAlt [ns.length - 1, ns.length + ms.length - 1])) ∧ TreeN (bothN ns ms (ndAlt [ns.length - 1, ns.length + ms.length - 1])) ∧ PlainN (bothN ns ms (ndAlt [ns.length - 1, ns.length + ms.length - 1]))) := by
  have l1 := hx.1
  have l2 := hy.1
  have p1 := tx.pos
  have ek := two_kids (ns := ns) (ms := ms) (k := gx.length) (kk := gx.length + gy.length) l1.symm (by omega) p1
  have hsh := shape_kids (l := [ns.length - 1, ns.length + ms.length - 1]) (by simp)
  rw [ek]
  obtain ⟨q1, q2⟩ := pair_nodes hx hy tx ty (by omega) (gn_cat [ns.length - 1, ns.length + ms.length - 1]) hsh.1 rfl
  obtain ⟨q3, q4⟩ := pair_nodes hx hy tx ty (by omega) (gn_alt [ns.length - 1, ns.length + ms.length - 1]) hsh.2 rfl
  exact ⟨⟨q1, q2, plain_both px py (by show (3 : Nat) ≠ 6; omega)⟩, q3, q4, plain_both px py (by show (4 : Nat) ≠ 6; omega)⟩
theorem rows_cat (tx : TreeN ns) (ty : TreeN ms) (hT : TreeN (bothN ns ms (ndCat [ns.length - 1, ns.length + ms.length - 1]))) (s : ByteArray) {f : Nat} (hf : f ≤ s.size) {fc : Nat → Bool} (h : ∀ k, fc k = true ↔ ∃ i, i ∈ endL ns (bs s) f ∧ k ∈ endL ms (bs s) i) :
    endL (bothN ns ms (ndCat [ns.length - 1, ns.length + ms.length - 1])) (bs s) f = someL fc (s.size + 1) := by
  refine rise_filter (endL_rise _ _ _) fun x => ?_
  rw [ends_cat tx ty hT.low rfl rfl (bs s) (by rw [bs_len]; exact hf), h]
  constructor
  · rintro ⟨m, h1, h2⟩
    have q1 := up_ends tx.low hf h1
    have q2 := up_ends ty.low q1.2 h2
    exact ⟨by omega, m, h1, h2⟩
  · exact fun q => q.2
theorem rows_alt (tx : TreeN ns) (ty : TreeN ms) (hT : TreeN (bothN ns ms (ndAlt [ns.length - 1, ns.length + ms.length - 1]))) (s : ByteArray) {f : Nat} (hf : f ≤ s.size) {fa : Nat → Bool} (h : ∀ k, fa k = true ↔ k ∈ endL ns (bs s) f ∨ k ∈ endL ms (bs s) f) :
    endL (bothN ns ms (ndAlt [ns.length - 1, ns.length + ms.length - 1])) (bs s) f = someL fa (s.size + 1) := by
  refine rise_filter (endL_rise _ _ _) fun x => ?_
  rw [ends_alt tx ty hT.low rfl rfl (bs s) (by rw [bs_len]; exact hf), h]
  constructor
  · intro q
    refine ⟨?_, q⟩
    rcases q with q | q
    · have := up_ends tx.low hf q; omega
    · have := up_ends ty.low hf q; omega
  · exact fun q => q.2
end
/-! ### Two rows of bools that the law writes -/
structure RwS (w : World) (qa qc n : Nat) (fa fc : Nat → Bool) (u : World) : Prop where
  a : RowF u qa 4 n (fun i => .bool (fa i))
  c : RowF u qc 4 n (fun i => .bool (fc i))
  ne : qa ≠ qc
  la : w.heap.size ≤ qa
  lc : w.heap.size ≤ qc
  bel : Below w.heap.size w u
section
variable {w : World} {qa qc n : Nat} {fa fc : Nat → Bool} {u u' : World}
theorem RwS.below (h : RwS w qa qc n fa fc u) (hb : Below u.heap.size u u') : RwS w qa qc n fa fc u' :=
  ⟨h.a.below hb h.a.lt, h.c.below hb h.c.lt, h.ne, h.la, h.lc, h.bel.trans (hb.mono h.bel.size)⟩
theorem RwS.seta (h : RwS w qa qc n fa fc u) (i : Nat) : RwS w qa qc n (fun j => if j = i then true else fa j) fc (u.setCell ⟨qa, i, none⟩ (.bool true)) := by
  have h1 := h.a.put i (.bool true)
  have e : (fun j => if j = i then Value.bool true else .bool (fa j)) = fun j => .bool (if j = i then true else fa j) := by
    funext j
    split <;> rfl
  rw [e] at h1
  exact ⟨h1, h.c.far (a := ⟨qa, i, none⟩) (by show qc ≠ qa; exact h.ne.symm) _, h.ne, h.la, h.lc, bel_set h.bel _ _ h.la⟩
theorem RwS.setc (h : RwS w qa qc n fa fc u) (i : Nat) : RwS w qa qc n fa (fun j => if j = i then true else fc j) (u.setCell ⟨qc, i, none⟩ (.bool true)) := by
  have h1 := h.c.put i (.bool true)
  have e : (fun j => if j = i then Value.bool true else .bool (fc j)) = fun j => .bool (if j = i then true else fc j) := by
    funext j
    split <;> rfl
  rw [e] at h1
  exact ⟨h.a.far (a := ⟨qc, i, none⟩) (by show qa ≠ qc; exact h.ne) _, h1, h.ne, h.la, h.lc, bel_set h.bel _ _ h.lc⟩
end
theorem own_off {u : World} {base b k : Nat} {e : TypeId} {sz n : Nat} {z : Value} {xs : List Value} (h : u.ownsRow base e sz z n xs) (hb : b < base) (y : Value) : (u.setCell ⟨b, k, none⟩ y).ownsRow base e sz z n xs :=
  own_sb h (fun q => by have := (h.lt _ q).1; omega) y
theorem own_at {u : World} {base k : Nat} {A : Option Addr} {c : Nat} {l : List Nat} (h : u.ownsRow base 3 1 (.slice A l.length c) l.length (i64s l)) (hk : k < l.length) : ∃ g o, A = some ⟨g, o, none⟩ ∧ g < u.heap.size ∧ u.cell? ⟨g, o + k, none⟩ = some (.int .i64 ((l.getD k 0 : Nat) : Int)) := (nts_own h).at_ hk
theorem take_mem_snoc {l : List Nat} {k : Nat} (hk : k < l.length) (x : Nat) : x ∈ l.take (k + 1) ↔ x ∈ l.take k ∨ x = l.getD k 0 := by
  rw [List.take_add_one, List.getElem?_eq_getElem hk, List.getD_eq_getElem?_getD, List.getElem?_eq_getElem hk, List.mem_append]
  show _ ∨ x ∈ [l[k]] ↔ _ ∨ x = l[k]
  rw [List.mem_singleton]
end Go.Proofs.YtcgondjekpcpgaaDoor.Sy.Lg.En

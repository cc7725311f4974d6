/- Parts of texts; what may be nothing; rising lists of places. -/
import Derived.Test.YtcidimjjclanmaaDoorGc
namespace Go.Proofs.YtcidimjjclanmaaDoor.Sy.Lg.En
open Go.RowKit Go.Proofs.YtcidimjjclanmaaDoor.Sy.Ap Go.Proofs.YtcidimjjclanmaaDoor.Sy.Ap.Wk
set_option maxRecDepth 100000
set_option linter.unusedVariables false

/-! ### Two relations that go in step -/
section
variable {R R' : Rel} {f : Nat → Nat}
/-- R' is R behind f, and R leaves f's image neither up nor down: to the places up to N. -/
theorem pow_step {d : Nat} (hR : ∀ i j, R i j → i ≤ j) (h : ∀ i j, R' i j ↔ R (d + i) (d + j)) : ∀ (t i j : Nat), powR R' t i j ↔ powR R t (d + i) (d + j)
  | 0, i, j => by
    show i = j ↔ d + i = d + j
    omega
  | t + 1, i, j => by
    constructor
    · rintro ⟨m, h1, h2⟩
      exact ⟨d + m, (pow_step hR h t i m).1 h1, (h m j).1 h2⟩
    · rintro ⟨m, h1, h2⟩
      have hm := powR_ge hR t _ _ h1
      refine ⟨m - d, (pow_step hR h t i (m - d)).2 ?_, (h (m - d) j).2 ?_⟩
      · rw [show d + (m - d) = m from by omega]; exact h1
      · rw [show d + (m - d) = m from by omega]; exact h2
theorem pow_cut {N : Nat} (hR : ∀ i j, R i j → i ≤ j) (h : ∀ i j, j ≤ N → (R' i j ↔ R i j)) (hR' : ∀ i j, R' i j → i ≤ j) : ∀ (t i j : Nat), j ≤ N → (powR R' t i j ↔ powR R t i j)
  | 0, i, j, _ => Iff.rfl
  | t + 1, i, j, hj => by
    constructor
    · rintro ⟨m, h1, h2⟩
      have := hR' m j h2
      exact ⟨m, (pow_cut hR h hR' t i m (by omega)).1 h1, (h m j hj).1 h2⟩
    · rintro ⟨m, h1, h2⟩
      have := hR m j h2
      exact ⟨m, (pow_cut hR h hR' t i m (by omega)).2 h1, (h m j hj).2 h2⟩
end
section
variable {ns : List Nd}
theorem Mt_up (hl : Low ns) (t : List Nat) (k i j : Nat) (h : Mt ns t k i j) : i ≤ j := (Mt_in hl t k i j h).1
theorem Mt_none {k : Nat} (hn : ns[k]? = none) (t : List Nat) (i j : Nat) : Mt ns t k i j ↔ i = j := by
  have e : ns.getD k mtF.nd0' = mtF.nd0' := by rw [List.getD_eq_getElem?_getD, hn]; rfl
  show node1 t (ns.getD k mtF.nd0') (mtF ns t k) i j ↔ _
  rw [e]
  exact Iff.rfl
/-- From a place on it is as from the beginning of what is there. -/
theorem Mt_drop (hl : Low ns) (t : List Nat) (d : Nat) (hd : d ≤ t.length) : ∀ (k i j : Nat), Mt ns (t.drop d) k i j ↔ Mt ns t k (d + i) (d + j) := by
  intro k
  induction k using Nat.strongRecOn with
  | ind k ih =>
    intro i j
    cases hn : ns[k]? with
    | none => rw [Mt_none hn, Mt_none hn]; omega
    | some n =>
      rw [Mt_eq hl _ k hn, Mt_eq hl _ k hn]
      have hlow := hl k n hn
      unfold node1
      split
      · rw [List.length_drop, List.getD_eq_getElem?_getD, List.getElem?_drop, List.getD_eq_getElem?_getD]
        constructor
        · rintro ⟨q1, q2, q3⟩; exact ⟨by omega, q2, by omega⟩
        · rintro ⟨q1, q2, q3⟩; exact ⟨by omega, q2, by omega⟩
      · split
        · have hch : ∀ (l : List Nat), (∀ c ∈ l, c ∈ n.l) → ∀ i j, chainR (Mt ns (t.drop d)) l i j ↔ chainR (Mt ns t) l (d + i) (d + j) := by
            intro l
            induction l with
            | nil => intro _ i j; show i = j ↔ d + i = d + j; omega
            | cons x r ihr =>
              intro hx i j
              constructor
              · rintro ⟨m, q1, q2⟩
                exact ⟨d + m, (ih x (hlow.2 x (hx x (by simp))) i m).1 q1, (ihr (fun c hc => hx c (by simp [hc])) m j).1 q2⟩
              · rintro ⟨m, q1, q2⟩
                have hm := Mt_up hl t x _ _ q1
                refine ⟨m - d, (ih x (hlow.2 x (hx x (by simp))) i (m - d)).2 ?_, (ihr (fun c hc => hx c (by simp [hc])) (m - d) j).2 ?_⟩
                · rw [show d + (m - d) = m from by omega]; exact q1
                · rw [show d + (m - d) = m from by omega]; exact q2
          exact hch n.l (fun c hc => hc) i j
        · split
          · constructor
            · rintro ⟨c, hc, q⟩; exact ⟨c, hc, (ih c (hlow.2 c hc) i j).1 q⟩
            · rintro ⟨c, hc, q⟩; exact ⟨c, hc, (ih c (hlow.2 c hc) i j).2 q⟩
          · split
            · rename_i q5
              have hm : n.l.getD 0 0 < k := by
                cases hl2 : n.l with
                | nil => exact absurd hl2 (hlow.1 q5)
                | cons z y => exact hlow.2 z (by rw [hl2]; simp)
              constructor
              · rintro ⟨s, q1, q2, q3⟩
                exact ⟨s, q1, q2, (pow_step (Mt_up hl t _) (ih _ hm) s i j).1 q3⟩
              · rintro ⟨s, q1, q2, q3⟩
                exact ⟨s, q1, q2, (pow_step (Mt_up hl t _) (ih _ hm) s i j).2 q3⟩
            · omega
/-- What is behind a place does not matter up to it. -/
theorem Mt_take (hl : Low ns) (t : List Nat) (N : Nat) (hN : N ≤ t.length) : ∀ (k i j : Nat), j ≤ N → (Mt ns (t.take N) k i j ↔ Mt ns t k i j) := by
  intro k
  induction k using Nat.strongRecOn with
  | ind k ih =>
    intro i j hj
    cases hn : ns[k]? with
    | none => rw [Mt_none hn, Mt_none hn]
    | some n =>
      rw [Mt_eq hl _ k hn, Mt_eq hl _ k hn]
      have hlow := hl k n hn
      unfold node1
      split
      · rw [List.length_take, List.getD_eq_getElem?_getD, List.getD_eq_getElem?_getD]
        constructor
        · rintro ⟨q1, q2, q3⟩
          rw [List.getElem?_take_of_lt (by omega)] at q2
          exact ⟨by omega, q2, q3⟩
        · rintro ⟨q1, q2, q3⟩
          refine ⟨by omega, ?_, q3⟩
          rw [List.getElem?_take_of_lt (by omega)]
          exact q2
      · split
        · have hch : ∀ (l : List Nat), (∀ c ∈ l, c ∈ n.l) → ∀ i j, j ≤ N → (chainR (Mt ns (t.take N)) l i j ↔ chainR (Mt ns t) l i j) ∧ (chainR (Mt ns t) l i j → i ≤ j) ∧ (chainR (Mt ns (t.take N)) l i j → i ≤ j) := by
            intro l
            induction l with
            | nil => intro _ i j _; exact ⟨Iff.rfl, (fun h => by cases h; exact Nat.le_refl _), fun h => by cases h; exact Nat.le_refl _⟩
            | cons x r ihr =>
              intro hx i j hj
              have hr := fun m => ihr (fun c hc => hx c (by simp [hc])) m j hj
              have hxx := hlow.2 x (hx x (by simp))
              refine ⟨⟨?_, ?_⟩, ?_, ?_⟩
              · rintro ⟨m, q1, q2⟩
                have := (hr m).2.2 q2
                exact ⟨m, (ih x hxx i m (by omega)).1 q1, (hr m).1.1 q2⟩
              · rintro ⟨m, q1, q2⟩
                have := (hr m).2.1 q2
                exact ⟨m, (ih x hxx i m (by omega)).2 q1, (hr m).1.2 q2⟩
              · rintro ⟨m, q1, q2⟩
                have := (hr m).2.1 q2
                have := Mt_up hl _ x i m q1
                omega
              · rintro ⟨m, q1, q2⟩
                have := (hr m).2.2 q2
                have := Mt_up hl _ x i m q1
                omega
          exact (hch n.l (fun c hc => hc) i j hj).1
        · split
          · constructor
            · rintro ⟨c, hc, q⟩; exact ⟨c, hc, (ih c (hlow.2 c hc) i j hj).1 q⟩
            · rintro ⟨c, hc, q⟩; exact ⟨c, hc, (ih c (hlow.2 c hc) i j hj).2 q⟩
          · split
            · rename_i q5
              have hm : n.l.getD 0 0 < k := by
                cases hl2 : n.l with
                | nil => exact absurd hl2 (hlow.1 q5)
                | cons z y => exact hlow.2 z (by rw [hl2]; simp)
              constructor
              · rintro ⟨s, q1, q2, q3⟩
                exact ⟨s, q1, q2, (pow_cut (Mt_up hl t _) (ih _ hm) (Mt_up hl _ _) s i j hj).1 q3⟩
              · rintro ⟨s, q1, q2, q3⟩
                exact ⟨s, q1, q2, (pow_cut (Mt_up hl t _) (ih _ hm) (Mt_up hl _ _) s i j hj).2 q3⟩
            · exact Iff.rfl
/-! ### What may be nothing -/
theorem pow_same {R : Rel} (hR : ∀ i j, R i j → i ≤ j) (i : Nat) : ∀ (t : Nat), 1 ≤ t → (powR R t i i ↔ R i i)
  | 0, h => by omega
  | t + 1, _ => by
    constructor
    · rintro ⟨m, h1, h2⟩
      have h3 := powR_ge hR t i m h1
      have h4 := hR m i h2
      have : m = i := by omega
      rw [this] at h2
      exact h2
    · intro h
      refine ⟨i, ?_, h⟩
      induction t with
      | zero => rfl
      | succ t ih => exact ⟨i, ih (by omega), h⟩
theorem chain_same {R : Nat → Rel} (hR : ∀ k i j, R k i j → i ≤ j) (i : Nat) : ∀ (l : List Nat), (chainR R l i i ↔ ∀ k ∈ l, R k i i) ∧ ∀ j, chainR R l i j → i ≤ j
  | [] => ⟨⟨(fun _ k hk => by cases hk), fun _ => rfl⟩, fun j h => by cases h; exact Nat.le_refl _⟩
  | x :: l => by
    have hle : ∀ (l : List Nat) (a b : Nat), chainR R l a b → a ≤ b := by
      intro l
      induction l with
      | nil => intro a b h; cases h; exact Nat.le_refl _
      | cons y r ihr =>
        rintro a b ⟨m, h1, h2⟩
        have := hR y a m h1
        have := ihr m b h2
        omega
    refine ⟨⟨?_, ?_⟩, hle (x :: l) i⟩
    · rintro ⟨m, h1, h2⟩
      have h3 := hR x i m h1
      have h4 := hle l m i h2
      have e : m = i := by omega
      subst e
      intro k hk
      rcases List.mem_cons.1 hk with q | q
      · rw [q]; exact h1
      · exact (chain_same hR m l).1.1 h2 k q
    · intro h
      exact ⟨i, h x (by simp), (chain_same hR i l).1.2 (fun k hk => h k (by simp [hk]))⟩
theorem null_mt (ht : TreeN ns) (hp : PlainN ns) (t : List Nat) (i : Nat) : ∀ (k : Nat), k < ns.length → (Mt ns t k i i ↔ (mayL ns).getD k false = true) := by
  intro k
  induction k using Nat.strongRecOn with
  | ind k ih =>
    intro hk
    have hl := ht.low
    have hn : ns[k]? = some ns[k] := List.getElem?_eq_getElem hk
    have hmem := List.mem_of_getElem? hn
    have hs := ht.shp _ hmem
    have h6 := hp _ hmem
    rw [may_at ht hn, Mt_eq hl t k hn]
    have hlow := hl k _ hn
    generalize ns[k] = n at *
    have hops : n.op = 1 ∨ n.op = 2 ∨ n.op = 3 ∨ n.op = 4 ∨ n.op = 5 := by
      unfold shapeB at hs
      by_cases h1 : n.op = 1
      · exact .inl h1
      · by_cases h2 : n.op = 2
        · exact .inr (.inl h2)
        · by_cases h3 : n.op = 3
          · exact .inr (.inr (.inl h3))
          · by_cases h4 : n.op = 4
            · exact .inr (.inr (.inr (.inl h4)))
            · by_cases h5 : n.op = 5
              · exact .inr (.inr (.inr (.inr h5)))
              · rw [if_neg h1, if_neg h2, if_neg (by omega), if_neg h5, if_neg h6] at hs
                cases hs
    have hkid : ∀ c ∈ n.l, (Mt ns t c i i ↔ (mayL ns).getD c false = true) := fun c hc => ih c (hlow.2 c hc) (by have := hlow.2 c hc; omega)
    unfold node1 may1
    rcases hops with h | h | h | h | h
    · rw [if_neg (by omega), if_neg (by omega), if_neg (by omega), if_neg (by omega), if_pos h]
      simp
    · rw [if_pos h, if_neg (by omega), if_neg (by omega), if_neg (by omega), if_neg (by omega)]
      constructor
      · rintro ⟨_, _, q⟩; omega
      · intro q; cases q
    · rw [if_neg (by omega), if_pos h, if_neg (by omega), if_pos h, (chain_same (fun k => Mt_up hl t k) i n.l).1, List.all_eq_true]
      exact ⟨fun q c hc => (hkid c hc).1 (q c hc), fun q c hc => (hkid c hc).2 (q c hc)⟩
    · rw [if_neg (by omega), if_neg (by omega), if_pos h, if_neg (by omega), if_neg (by omega), if_pos h, List.any_eq_true]
      exact ⟨fun ⟨c, hc, q⟩ => ⟨c, hc, (hkid c hc).1 q⟩, fun ⟨c, hc, q⟩ => ⟨c, hc, (hkid c hc).2 q⟩⟩
    · obtain ⟨s1, s2, s3, s4⟩ := Wl.shp_rep2 hs h
      obtain ⟨c, hc⟩ := List.length_eq_one_iff.1 s1
      rw [if_neg (by omega), if_neg (by omega), if_neg (by omega), if_pos h, if_neg (by omega), if_neg (by omega), if_neg (by omega), if_pos h, hc]
      show repR (Mt ns t c) n.lo n.hi i i ↔ (n.lo == 0 || (mayL ns).getD c false) = true
      have hck := hkid c (by rw [hc]; simp)
      rw [Bool.or_eq_true, beq_iff_eq, ← hck]
      constructor
      · rintro ⟨s, q1, q2, q3⟩
        by_cases h0 : n.lo = 0
        · exact .inl h0
        · exact .inr ((pow_same (Mt_up hl t c) i s (by omega)).1 q3)
      · rintro (q | q)
        · refine ⟨0, by omega, ?_, rfl⟩
          rcases s4 with s4 | s4
          · exact .inl (by omega)
          · exact .inr (by omega)
        · by_cases h0 : n.lo = 0
          · refine ⟨0, by omega, ?_, rfl⟩
            rcases s4 with s4 | s4
            · exact .inl (by omega)
            · exact .inr (by omega)
          · refine ⟨n.lo.toNat, by omega, ?_, (pow_same (Mt_up hl t c) i _ (by omega)).2 q⟩
            rcases s4 with s4 | s4
            · exact .inl (by omega)
            · exact .inr (by omega)
/-! ### Rising lists -/
theorem endL_rise (ns : List Nd) (t : List Nat) (i : Nat) : (endL ns t i).Pairwise (· < ·) := by
  unfold endL
  exact List.Pairwise.filter _ List.pairwise_lt_range
/-- Two rising lists of the same places are one. -/
theorem rise_ext : ∀ {l m : List Nat}, l.Pairwise (· < ·) → m.Pairwise (· < ·) → (∀ x, x ∈ l ↔ x ∈ m) → l = m
  | [], [], _, _, _ => rfl
  | [], y :: m, _, _, h => by have := (h y).2 (by simp); cases this
  | x :: l, [], _, _, h => by have := (h x).1 (by simp); cases this
  | x :: l, y :: m, hl, hm, h => by
    obtain ⟨h1, h2⟩ := List.pairwise_cons.1 hl
    obtain ⟨h3, h4⟩ := List.pairwise_cons.1 hm
    have hxy : x = y := by
      rcases List.mem_cons.1 ((h x).1 (by simp)) with q | q
      · exact q
      · rcases List.mem_cons.1 ((h y).2 (by simp)) with r | r
        · exact r.symm
        · have := h1 y r
          have := h3 x q
          omega
    subst hxy
    congr 1
    refine rise_ext h2 h4 fun z => ?_
    constructor
    · intro hz
      rcases List.mem_cons.1 ((h z).1 (by simp [hz])) with q | q
      · have := h1 z hz; omega
      · exact q
    · intro hz
      rcases List.mem_cons.1 ((h z).2 (by simp [hz])) with q | q
      · have := h3 z hz; omega
      · exact q
theorem endL_drop (hl : Low ns) (t : List Nat) (d : Nat) (hd : d ≤ t.length) : endL ns t d = (endL ns (t.drop d) 0).map fun j => d + j := by
  refine rise_ext (endL_rise ns t d) ?_ fun x => ?_
  · rw [List.pairwise_map]
    exact (endL_rise ns (t.drop d) 0).imp (fun h => by omega)
  · rw [mem_endL hl hd, List.mem_map]
    constructor
    · intro h
      have hx := Mt_up hl t _ _ _ h
      refine ⟨x - d, (mem_endL hl (Nat.zero_le _)).2 ?_, by omega⟩
      rw [Mt_drop hl t d hd, Nat.add_zero, show d + (x - d) = x from by omega]
      exact h
    · rintro ⟨j, h, rfl⟩
      have := (mem_endL hl (Nat.zero_le _)).1 h
      rw [Mt_drop hl t d hd, Nat.add_zero] at this
      exact this
/-- The last of all places up to the end of a text, if it is that end. -/
theorem is_iff (hl : Low ns) (t : List Nat) : isL (endL ns t 0) t.length = true ↔ Mt ns t (ns.length - 1) 0 t.length := by
  unfold isL
  rw [← mem_endL hl (Nat.zero_le _), beq_iff_eq]
  constructor
  · intro h; exact List.mem_of_getLast? h
  · intro h
    have hle : ∀ x ∈ endL ns t 0, x ≤ t.length := fun x hx => by
      have := (Mt_in hl t _ _ _ ((mem_endL hl (Nat.zero_le _)).1 hx)).2 (Nat.zero_le _)
      exact this
    have hne : endL ns t 0 ≠ [] := fun e => by rw [e] at h; cases h
    rw [List.getLast?_eq_some_getLast hne]
    congr 1
    have h1 := hle _ (List.getLast_mem hne)
    have h2 : t.length ≤ (endL ns t 0).getLast hne := by
      have hr := endL_rise ns t 0
      generalize endL ns t 0 = l at *
      rw [← List.dropLast_concat_getLast hne] at h hr
      rcases List.mem_append.1 h with q | q
      · have := (List.pairwise_append.1 hr).2.2 _ q (l.getLast hne) List.mem_cons_self
        omega
      · simp at q; omega
    omega
end
end Go.Proofs.YtcidimjjclanmaaDoor.Sy.Lg.En

/- Names expanded, by plain lists: folding, what may be nothing, the order of names, how many nodes come. -/
import Derived.Test.YtcidimjjclanmaaDoorAa
import Derived.Test.YtcidimjjclanmaaDoorM1
namespace Go.Proofs.YtcidimjjclanmaaDoor.Sy
open Go.RowKit
set_option linter.unusedVariables false

/-! ### Fold -/
def foldN (n : Nd) : Nd := ⟨n.op, foldK 123 n.s, n.l, n.lo, n.hi, n.name⟩
def foldL (l : List Nd) : List Nd := l.map foldN
def foldX (x : X) : X := ⟨foldL x.out, x.rt⟩
def foldD (D : List Df) : List Df := D.map fun d => (d.1, foldL d.2)
theorem emptyS_iff (p : Nat → Bool) : emptyS p = true ↔ ∀ x, x < 256 → p x = false := by
  unfold emptyS
  rw [List.all_eq_true]
  simp only [List.mem_range, Bool.not_eq_true']
theorem emptyS_fold (p : Nat → Bool) : emptyS (foldK 123 p) = emptyS p := by
  rw [Bool.eq_iff_iff, emptyS_iff, emptyS_iff]
  constructor
  · intro h x hx
    have := h x hx
    cases hp : p x with
    | false => rfl
    | true =>
      have : foldK 123 p x = true := (fold_iff _ _ _).2 (.inl (.inl hp))
      rw [h x hx] at this
      cases this
  · intro h x hx
    cases hp : foldK 123 p x with
    | false => rfl
    | true =>
      rcases (fold_iff _ _ _).1 hp with (q | ⟨q1, q2⟩) | ⟨q1, q2⟩
      · rw [h x hx] at q; cases q
      · rw [h (x - 32) (by omega)] at q2; cases q2
      · rw [h (x + 32) (by omega)] at q2; cases q2
theorem shape_fold (n : Nd) : shapeB (foldN n) = shapeB n := by
  unfold shapeB zeroB foldN
  simp only [emptyS_fold]
theorem Shp.fold {l : List Nd} (h : Shp l) : Shp (foldL l) := fun n hn => by
  obtain ⟨m, hm, rfl⟩ := List.mem_map.1 hn
  rw [shape_fold]
  exact h m hm
theorem Forest.fold {ns : List Nd} {a b : Nat} {ks : List Nat} (h : Forest ns a b ks) : Forest (foldL ns) a b ks := by
  induction h with
  | nil a => exact .nil a
  | @snoc a b c ks n h1 hn h2 i1 i2 => exact .snoc (n := foldN n) i1 (by unfold foldL; rw [List.getElem?_map, hn]; rfl) i2
theorem foldL_len (l : List Nd) : (foldL l).length = l.length := List.length_map ..
theorem TreeN.fold {l : List Nd} (h : TreeN l) : TreeN (foldL l) :=
  ⟨h.shp.fold, by rw [foldL_len]; exact h.pos, by rw [foldL_len]; exact h.few, by rw [foldL_len]; exact h.frs.fold⟩
theorem put_fold (n : Nd) (x : X) : putX (foldN n) (foldX x) = foldX (putX n x) := by
  unfold putX foldX foldL
  simp only [List.length_map, List.map_append, List.map_cons, List.map_nil]
  rfl
theorem findD_fold (D : List Df) (nm : List Nat) : findD (foldD D) nm = (findD D nm).map foldL := by
  unfold findD foldD
  rw [List.find?_map]
  have e : ((fun d : Df => d.1 == nm) ∘ fun d : Df => (d.1, foldL d.2)) = fun d => d.1 == nm := by funext d; rfl
  rw [e]
  cases D.find? (fun d => d.1 == nm) <;> rfl
theorem remD_fold (D : List Df) (nm : List Nat) : remD (foldD D) nm = foldD (remD D nm) := by
  unfold remD foldD
  rw [List.filter_map]
  rfl
theorem exF_fold_ (all : List Nat → Bool) : ∀ (k : Nat) (D : List Df), D.length < k → ∀ (l : List Nd) (x : X), exF all (foldD D) (foldL l) (foldX x) = mapX foldX (exF all D l x) := by
  intro k
  induction k with
  | zero => intro D hk; omega
  | succ k ihk =>
    intro D hk l
    induction l with
    | nil => intro x; show exF all (foldD D) [] _ = _; rw [exF_nil, exF_nil]; rfl
    | cons n r ih =>
      intro x
      show exF all (foldD D) (foldN n :: foldL r) _ = _
      by_cases h6 : n.op = 6
      · cases hf : findD D n.name with
        | none =>
          have hf2 : findD (foldD D) (foldN n).name = none := by rw [findD_fold]; show (findD D n.name).map foldL = none; rw [hf]; rfl
          rw [exF_none h6 hf, exF_none (n := foldN n) h6 hf2]
          rfl
        | some t =>
          have hf2 : findD (foldD D) (foldN n).name = some (foldL t) := by rw [findD_fold]; show (findD D n.name).map foldL = _; rw [hf]; rfl
          rw [exF_some h6 hf, exF_some (n := foldN n) h6 hf2]
          show (match exF all (remD (foldD D) n.name) (foldL t) (foldX x) with | .error e => (Except.error e : Except Nat X) | .ok x' => exF all (foldD D) (foldL r) x') = _
          rw [remD_fold, ihk (remD D n.name) (by have := remD_lt hf; omega)]
          cases exF all (remD D n.name) t x with
          | error e => rfl
          | ok x' => exact ih x'
      · have hlx : (foldX x).out.length = x.out.length := foldL_len _
        by_cases hl : 1024 ≤ x.out.length
        · rw [exF_long h6 hl, exF_long (n := foldN n) h6 (by rw [hlx]; exact hl)]
          rfl
        · rw [exF_put h6 hl, exF_put (n := foldN n) h6 (by rw [hlx]; exact hl), put_fold]
          exact ih _
theorem allD_fold (D : List Df) : allD (foldD D) = allD D := by
  funext m
  unfold allD
  rw [findD_fold]
  cases findD D m <;> rfl
/-- Case may be folded ahead of names, or behind. -/
theorem expN_fold {l o : List Nd} {D : List Df} (h : expN l D = .ok o) : expN (foldL l) (foldD D) = .ok (foldL o) := by
  unfold expN at h ⊢
  have e : exF (allD D) (foldD D) (foldL l) x0 = mapX foldX (exF (allD D) D l x0) := exF_fold_ (allD D) (D.length + 1) D (by omega) l x0
  rw [allD_fold, e]
  cases hx : exF (allD D) D l x0 with
  | error e => rw [hx] at h; cases h
  | ok x => rw [hx] at h; cases h; rfl
theorem fold_fold (p : Nat → Bool) (x : Nat) : foldK 123 (foldK 123 p) x = foldK 123 p x := by
  rw [Bool.eq_iff_iff, fold_iff, fold_iff (x := x - 32), fold_iff (x := x + 32), fold_iff]
  constructor
  · rintro ((h | ⟨g, ((h | ⟨k, h⟩) | ⟨k, h⟩)⟩) | ⟨g, ((h | ⟨k, h⟩) | ⟨k, h⟩)⟩)
    · exact h
    · exact .inl (.inr ⟨g, h⟩)
    · omega
    · rw [show x - 32 + 32 = x from by omega] at h; exact .inl (.inl h)
    · exact .inr ⟨g, h⟩
    · rw [show x + 32 - 32 = x from by omega] at h; exact .inl (.inl h)
    · omega
  · exact fun h => .inl (.inl h)

/-! ### What may be nothing -/
def may1 (n : Nd) (m : List Bool) : Bool :=
  if n.op = 1 then true
  else if n.op = 3 then n.l.all fun k => m.getD k false
  else if n.op = 4 then n.l.any fun k => m.getD k false
  else if n.op = 5 then n.lo == 0 || m.getD (n.l.getD 0 0) false
  else false
def mayL (l : List Nd) : List Bool := l.foldl (fun m n => m ++ [may1 n m]) []
def nulN (l : List Nd) : Bool := (mayL l).getD (l.length - 1) false
theorem mayL_snoc (l : List Nd) (n : Nd) : mayL (l ++ [n]) = mayL l ++ [may1 n (mayL l)] := by unfold mayL; rw [List.foldl_append]; rfl
theorem list_snoc {α : Type} (l : List α) : l = [] ∨ ∃ r n, l = r ++ [n] := by
  rcases List.eq_nil_or_concat l with h | ⟨r, n, h⟩
  · exact .inl h
  · exact .inr ⟨r, n, by rw [h, List.concat_eq_append]⟩
theorem mayL_len : ∀ (k : Nat) (l : List Nd), l.length = k → (mayL l).length = k
  | 0, l, h => by rw [List.eq_nil_of_length_eq_zero h]; rfl
  | k + 1, l, h => by
    rcases list_snoc l with e | ⟨r, n, e⟩
    · rw [e] at h; simp at h
    · subst e
      rw [List.length_append, List.length_singleton] at h
      rw [mayL_snoc, List.length_append, mayL_len k r (by omega), List.length_singleton]
theorem mayL_len' (l : List Nd) : (mayL l).length = l.length := mayL_len _ l rfl
theorem mayL_pre_ (a : List Nd) : ∀ (k : Nat) (b : List Nd), b.length = k → ∀ (i : Nat), i < a.length → (mayL (a ++ b)).getD i false = (mayL a).getD i false
  | 0, b, h, i, hi => by rw [List.eq_nil_of_length_eq_zero h, List.append_nil]
  | k + 1, b, h, i, hi => by
    rcases list_snoc b with e | ⟨r, n, e⟩
    · rw [e] at h; simp at h
    · subst e
      rw [List.length_append, List.length_singleton] at h
      rw [← List.append_assoc, mayL_snoc, List.getD_eq_getElem?_getD, List.getElem?_append_left (by rw [mayL_len', List.length_append]; omega), ← List.getD_eq_getElem?_getD]
      exact mayL_pre_ a k r (by omega) i hi
theorem mayL_pre (a b : List Nd) (i : Nat) (hi : i < a.length) : (mayL (a ++ b)).getD i false = (mayL a).getD i false := mayL_pre_ a _ b rfl i hi
theorem may1_congr {n : Nd} {m m' : List Bool} (h : ∀ k ∈ n.l, m.getD k false = m'.getD k false) (h5 : n.op = 5 → n.l ≠ []) : may1 n m = may1 n m' := by
  have ha : ∀ l : List Nat, (∀ k ∈ l, m.getD k false = m'.getD k false) → (l.all fun k => m.getD k false) = l.all fun k => m'.getD k false := by
    intro l
    induction l with
    | nil => intro _; rfl
    | cons x r ih => intro hl; rw [List.all_cons, List.all_cons, hl x (by simp), ih (fun k hk => hl k (by simp [hk]))]
  have hb : ∀ l : List Nat, (∀ k ∈ l, m.getD k false = m'.getD k false) → (l.any fun k => m.getD k false) = l.any fun k => m'.getD k false := by
    intro l
    induction l with
    | nil => intro _; rfl
    | cons x r ih => intro hl; rw [List.any_cons, List.any_cons, hl x (by simp), ih (fun k hk => hl k (by simp [hk]))]
  unfold may1
  rw [ha n.l h, hb n.l h]
  by_cases q : n.op = 5
  · have := h5 q
    cases hl : n.l with
    | nil => exact absurd hl this
    | cons x r => rw [h ((x :: r).getD 0 0) (by rw [hl]; simp)]
  · simp only [if_neg q]
section
variable {ns : List Nd}
theorem Forest.mem {a b : Nat} {ks : List Nat} (h : Forest ns a b ks) : ∀ k ∈ ks, a ≤ k ∧ k < b := by
  induction h with
  | nil a => intro k hk; cases hk
  | @snoc a b c ks n h1 hn h2 ih1 ih2 =>
    intro k hk
    have := h1.le
    have := h2.le
    rcases List.mem_append.1 hk with q | q
    · have := ih1 k q; omega
    · obtain rfl := List.mem_singleton.1 q
      omega
theorem Forest.kids {a b : Nat} {ks : List Nat} (h : Forest ns a b ks) : ∀ i, a ≤ i → i < b → ∃ n e, ns[i]? = some n ∧ Forest ns e i n.l := by
  induction h with
  | nil a => intro i h1 h2; omega
  | @snoc a b c ks n h1 hn h2 ih1 ih2 =>
    intro i h3 h4
    by_cases q : i < b
    · exact ih1 i h3 q
    · by_cases r : i < c
      · exact ih2 i (by omega) r
      · obtain rfl : i = c := by omega
        exact ⟨n, b, hn, h2⟩
end
theorem shp_rep {n : Nd} (h : shapeB n = true) (h5 : n.op = 5) : n.l.length = 1 := by
  unfold shapeB at h
  rw [if_neg (by omega), if_neg (by omega), if_neg (by omega), if_pos h5] at h
  simp only [Bool.and_eq_true, decide_eq_true_eq] at h
  exact h.1.1.1.2
/-- What a node of a tree may be, by its kids. -/
theorem may_at {ns : List Nd} (ht : TreeN ns) {i : Nat} {n : Nd} (hn : ns[i]? = some n) : (mayL ns).getD i false = may1 n (mayL ns) := by
  have hi := (List.getElem?_eq_some_iff.1 hn).1
  obtain ⟨n', e, h1, h2⟩ := ht.frs.kids i (Nat.zero_le _) hi
  rw [hn] at h1
  cases h1
  have e1 : ns = ns.take i ++ [n] ++ ns.drop (i + 1) := by
    have : ns.take (i + 1) = ns.take i ++ [n] := by rw [List.take_add_one, hn]; rfl
    rw [← this, List.take_append_drop]
  have e2 : (mayL ns).getD i false = may1 n (mayL (ns.take i)) := by
    have hal : (ns.take i).length = i := by rw [List.length_take]; omega
    generalize ns.take i = a at *
    generalize ns.drop (i + 1) = c at *
    subst e1
    rw [mayL_pre _ _ _ (by simp; omega), mayL_snoc, List.getD_eq_getElem?_getD, List.getElem?_append_right (by rw [mayL_len']; omega), mayL_len', show i - a.length = 0 from by omega]
    rfl
  rw [e2]
  refine may1_congr (fun k hk => ?_) (fun h5 => ?_)
  · have := (h2.mem k hk).2
    have e3 : ns = ns.take i ++ ns.drop i := (List.take_append_drop _ _).symm
    conv => rhs; rw [e3]
    rw [mayL_pre _ _ _ (by rw [List.length_take]; omega)]
  · have := shp_rep (ht.shp n (List.mem_of_getElem? hn)) h5
    intro q
    rw [q] at this
    simp at this
/-- Folding changes nothing of it. -/
theorem mayL_fold (l : List Nd) : mayL (foldL l) = mayL l := by
  unfold mayL foldL
  rw [List.foldl_map]
  rfl
theorem nulN_fold (l : List Nd) : nulN (foldL l) = nulN l := by
  unfold nulN
  rw [mayL_fold, foldL_len]

/-! ### Nodes behind others -/
def shN (c : Nat) (n : Nd) : Nd := withL n (n.l.map fun k => k + c)
theorem Forest.shift {y : List Nd} (x : List Nd) {a b : Nat} {ks : List Nat} (h : Forest y a b ks) : Forest (x ++ y.map (shN x.length)) (a + x.length) (b + x.length) (ks.map fun k => k + x.length) := by
  induction h with
  | nil a => exact .nil _
  | @snoc a b c ks n h1 hn h2 i1 i2 =>
    rw [List.map_append, show c + 1 + x.length = c + x.length + 1 from by omega]
    refine .snoc (n := shN x.length n) i1 ?_ i2
    rw [List.getElem?_append_right (by omega), Nat.add_sub_cancel, List.getElem?_map, hn]
    rfl
theorem shape_sh (c : Nat) (n : Nd) : shapeB (shN c n) = shapeB n := shape_with (by simp)
theorem may_sh {x : List Nd} : ∀ (k : Nat) (y : List Nd), y.length = k → (∀ (i : Nat) (n : Nd), y[i]? = some n → (n.op = 5 → n.l ≠ []) ∧ ∀ k ∈ n.l, k < i) → ∀ i, i < y.length → (mayL (x ++ y.map (shN x.length))).getD (i + x.length) false = (mayL y).getD i false
  | 0, y, h, _, i, hi => by omega
  | k + 1, y, h, hk, i, hi => by
    rcases list_snoc y with e | ⟨r, n, e⟩
    · rw [e] at h; simp at h
    · subst e
      rw [List.length_append, List.length_singleton] at h hi
      have hr : ∀ (i : Nat) (n' : Nd), r[i]? = some n' → (n'.op = 5 → n'.l ≠ []) ∧ ∀ k ∈ n'.l, k < i := fun j n' hj => hk j n' (by rw [List.getElem?_append_left (List.getElem?_eq_some_iff.1 hj).1]; exact hj)
      have ih := may_sh (x := x) k r (by omega) hr
      have hl1 : (mayL (x ++ r.map (shN x.length))).length = x.length + r.length := by rw [mayL_len']; simp
      have hl2 := mayL_len' r
      rw [List.map_append, ← List.append_assoc, List.map_cons, List.map_nil, mayL_snoc, mayL_snoc]
      rcases Nat.lt_or_ge i r.length with q | q
      · rw [List.getD_eq_getElem?_getD, List.getElem?_append_left (by omega), List.getD_eq_getElem?_getD, List.getElem?_append_left (by omega), ← List.getD_eq_getElem?_getD, ← List.getD_eq_getElem?_getD]
        exact ih i q
      · have hi2 : i = r.length := by omega
        subst hi2
        have hn := hk r.length n (by simp)
        rw [List.getD_eq_getElem?_getD, List.getElem?_append_right (by omega), List.getD_eq_getElem?_getD, List.getElem?_append_right (by omega), hl1, hl2, show r.length + x.length - (x.length + r.length) = 0 from by omega, Nat.sub_self]
        show may1 (shN x.length n) _ = may1 n _
        generalize mayL (x ++ r.map (shN x.length)) = M at *
        have ha : ∀ l : List Nat, (∀ k ∈ l, k < r.length) → ((l.map fun k => k + x.length).all fun k => M.getD k false) = l.all fun k => (mayL r).getD k false := by
          intro l
          induction l with
          | nil => intro _; rfl
          | cons z t iht => intro hl; rw [List.map_cons, List.all_cons, List.all_cons, ih z (hl z (by simp)), iht (fun k hk => hl k (by simp [hk]))]
        have hb : ∀ l : List Nat, (∀ k ∈ l, k < r.length) → ((l.map fun k => k + x.length).any fun k => M.getD k false) = l.any fun k => (mayL r).getD k false := by
          intro l
          induction l with
          | nil => intro _; rfl
          | cons z t iht => intro hl; rw [List.map_cons, List.any_cons, List.any_cons, ih z (hl z (by simp)), iht (fun k hk => hl k (by simp [hk]))]
        unfold may1 shN withL
        simp only
        rw [ha n.l hn.2, hb n.l hn.2]
        by_cases q5 : n.op = 5
        · cases hl : n.l with
          | nil => exact absurd hl (hn.1 q5)
          | cons z t =>
            have hz := ih z (hn.2 z (by rw [hl]; simp))
            show (if _ then _ else if _ then _ else if _ then _ else if _ then _ || M.getD (z + x.length) false else _) = _
            rw [hz]
            rfl
        · simp only [if_neg q5]
theorem TreeN.low {y : List Nd} (h : TreeN y) : ∀ (i : Nat) (n : Nd), y[i]? = some n → (n.op = 5 → n.l ≠ []) ∧ ∀ k ∈ n.l, k < i := fun i n hn => by
  obtain ⟨n', e, h1, h2⟩ := h.frs.kids i (Nat.zero_le _) (List.getElem?_eq_some_iff.1 hn).1
  rw [hn] at h1
  cases h1
  refine ⟨fun h5 q => ?_, fun k hk => (h2.mem k hk).2⟩
  have := shp_rep (h.shp n (List.mem_of_getElem? hn)) h5
  rw [q] at this
  simp at this
/-- Two trees, one behind the other, and a node over both. -/
theorem both_tree {x y : List Nd} (hx : TreeN x) (hy : TreeN y) (hl : x.length + y.length < 1024) {n : Nd} (hs : shapeB n = true) (hn : n.l = [x.length - 1, x.length + y.length - 1]) : TreeN (x ++ y.map (shN x.length) ++ [n]) := by
  have p1 := hx.pos
  have p2 := hy.pos
  have hlen : (x ++ y.map (shN x.length)).length = x.length + y.length := by simp
  refine ⟨?_, by simp; omega, by simp; omega, ?_⟩
  · refine Shp.put (fun m hm => ?_) hs
    rcases List.mem_append.1 hm with q | q
    · exact hx.shp m q
    · obtain ⟨z, hz, rfl⟩ := List.mem_map.1 q
      rw [shape_sh]
      exact hy.shp z hz
  · have f1 : Forest (x ++ y.map (shN x.length)) 0 x.length [x.length - 1] := hx.frs.more _
    have f2 := hy.frs.shift x
    rw [Nat.zero_add, Nat.add_comm y.length] at f2
    have f3 := f1.join f2
    have e : [x.length - 1] ++ ([y.length - 1].map fun k => k + x.length) = n.l := by
      rw [hn]
      show [x.length - 1, y.length - 1 + x.length] = _
      rw [show y.length - 1 + x.length = x.length + y.length - 1 from by omega]
    rw [e, ← hlen] at f3
    have f4 := Forest.put (xs := []) (ys := n.l) f3 rfl
    rw [show (x ++ y.map (shN x.length) ++ [n]).length - 1 = (x ++ y.map (shN x.length)).length from by simp]
    exact f4
theorem one_tree {x : List Nd} (hx : TreeN x) (hl : x.length < 1024) {n : Nd} (hs : shapeB n = true) (hn : n.l = [x.length - 1]) : TreeN (x ++ [n]) := by
  refine ⟨hx.shp.put hs, by simp, by simp; omega, ?_⟩
  have f4 := Forest.put (xs := []) (ys := n.l) (n := n) (ns := x) (a := 0) (by rw [hn]; exact hx.frs) rfl
  rw [show (x ++ [n]).length - 1 = x.length from by simp]
  exact f4
theorem nul_last (l : List Nd) (n : Nd) : nulN (l ++ [n]) = may1 n (mayL l) := by
  unfold nulN
  rw [mayL_snoc, List.length_append, List.length_singleton, Nat.add_sub_cancel, List.getD_eq_getElem?_getD, List.getElem?_append_right (by rw [mayL_len']; exact Nat.le_refl _), mayL_len', Nat.sub_self]
  rfl
theorem both_first {x y : List Nd} (hx : 1 ≤ x.length) : (mayL (x ++ y.map (shN x.length))).getD (x.length - 1) false = nulN x := mayL_pre x _ _ (by omega)
theorem both_second {x y : List Nd} (hy : TreeN y) : (mayL (x ++ y.map (shN x.length))).getD (x.length + y.length - 1) false = nulN y := by
  have := hy.pos
  rw [show x.length + y.length - 1 = y.length - 1 + x.length from by omega]
  exact may_sh y.length y rfl hy.low _ (by omega)

/-! ### The order of names -/
theorem findD_iff {D : List Df} (h : D.Pairwise fun a b => a.1 ≠ b.1) (m : List Nat) (t : List Nd) : findD D m = some t ↔ (m, t) ∈ D := by
  refine ⟨findD_mem, ?_⟩
  induction D with
  | nil => intro q; cases q
  | cons d r ih =>
    intro q
    obtain ⟨h1, h2⟩ := List.pairwise_cons.1 h
    unfold findD at ih ⊢
    rcases List.mem_cons.1 q with q | q
    · rw [← q, List.find?_cons_of_pos (by simp)]
      rfl
    · rw [List.find?_cons_of_neg (by simpa using h1 _ q)]
      exact ih h2 q
theorem findD_rev {D : List Df} (h : D.Pairwise fun a b => a.1 ≠ b.1) (m : List Nat) : findD D.reverse m = findD D m := by
  have h2 : D.reverse.Pairwise fun a b => a.1 ≠ b.1 := List.pairwise_reverse.2 (h.imp fun q => q.symm)
  apply Option.ext
  intro t
  rw [findD_iff h2, findD_iff h, List.mem_reverse]

/-! ### How many nodes come -/
theorem exF_count {all : List Nat → Bool} {D : List Df} : ∀ (l : List Nd), PlainN l → ∀ x : X, (x.out.length + l.length ≤ 1024 → ∃ x', exF all D l x = .ok x' ∧ x'.out.length = x.out.length + l.length) ∧ (x.out.length ≤ 1024 → 1024 < x.out.length + l.length → exF all D l x = .error 3) := by
  intro l
  induction l with
  | nil => intro _ x; exact ⟨fun _ => ⟨x, exF_nil, rfl⟩, fun h1 h2 => by simp at h2; omega⟩
  | cons n r ih =>
    intro hp x
    have h6 := hp n (by simp)
    have hlen : (putX n x).out.length = x.out.length + 1 := by unfold putX; simp
    obtain ⟨i1, i2⟩ := ih (fun y hy => hp y (by simp [hy])) (putX n x)
    rw [hlen] at i1 i2
    rw [List.length_cons]
    constructor
    · intro h
      obtain ⟨x', e1, e2⟩ := i1 (by omega)
      exact ⟨x', by rw [exF_put h6 (by omega)]; exact e1, by omega⟩
    · intro h1 h2
      by_cases hl : 1024 ≤ x.out.length
      · exact exF_long h6 hl
      · rw [exF_put h6 hl]
        exact i2 (by omega) (by omega)
/-- Names, one behind the other, that all stand for so many nodes. -/
theorem exF_refs {all : List Nat → Bool} {D : List Df} {nm : List Nat} {t : List Nd} (hf : findD D nm = some t) (hp : PlainN t) : ∀ (k : Nat) (x : X), x.out.length ≤ 1024 → (x.out.length + k * t.length ≤ 1024 → ∃ x', exF all D (List.replicate k (ndRef nm)) x = .ok x' ∧ x'.out.length = x.out.length + k * t.length) ∧ (1024 < x.out.length + k * t.length → exF all D (List.replicate k (ndRef nm)) x = .error 3) := by
  intro k
  induction k with
  | zero => intro x hx; exact ⟨fun _ => ⟨x, exF_nil, by simp⟩, fun h => by simp at h; omega⟩
  | succ k ih =>
    intro x hx
    have e : (k + 1) * t.length = k * t.length + t.length := Nat.succ_mul ..
    obtain ⟨c1, c2⟩ := exF_count (all := all) (D := remD D nm) t hp x
    rw [List.replicate_succ, exF_some (n := ndRef nm) rfl hf, e]
    constructor
    · intro h
      obtain ⟨x1, e1, e2⟩ := c1 (by omega)
      obtain ⟨i1, i2⟩ := ih x1 (by omega)
      obtain ⟨x2, e3, e4⟩ := i1 (by omega)
      refine ⟨x2, ?_, by omega⟩
      show (match exF all (remD D nm) t x with | .error e => (Except.error e : Except Nat X) | .ok x' => exF all D (List.replicate k (ndRef nm)) x') = _
      rw [e1]
      exact e3
    · intro h
      show (match exF all (remD D nm) t x with | .error e => (Except.error e : Except Nat X) | .ok x' => exF all D (List.replicate k (ndRef nm)) x') = _
      by_cases hl : x.out.length + t.length ≤ 1024
      · obtain ⟨x1, e1, e2⟩ := c1 hl
        rw [e1]
        exact (ih x1 (by omega)).2 (by omega)
      · rw [c2 hx (by omega)]
end Go.Proofs.YtcidimjjclanmaaDoor.Sy

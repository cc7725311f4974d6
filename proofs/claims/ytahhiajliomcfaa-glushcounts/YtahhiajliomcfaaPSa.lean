/- Whether nodes are a tree, by the row of those that have no parent yet. Plain lists. -/
import Derived.Test.YtahhiajliomcfaaPM2
namespace Go.Proofs.Ytahhiajliomcfaa.Sy
open Go.RowKit
set_option linter.unusedVariables false

section
variable {ns : List Nd}
theorem Forest.pos {a b : Nat} {ks : List Nat} (h : Forest ns a b ks) (hk : ks ≠ []) : a < b := by
  cases h with
  | nil => exact absurd rfl hk
  | snoc h1 _ h2 => have := h1.le; have := h2.le; omega
/-- The same roots up to the same place begin at the same place. -/
theorem Forest.start {a b : Nat} {ks : List Nat} (h : Forest ns a b ks) : ∀ a', Forest ns a' b ks → a = a' := by
  induction h with
  | nil a =>
    intro a' h'
    generalize hb : a = b at h'
    generalize hk : ([] : List Nat) = ks at h'
    cases h' with
    | nil => first | rfl | exact hb
    | snoc h1 _ h2 => simp at hk
  | @snoc a b c ks n h1 hn h2 i1 i2 =>
    intro a' h'
    generalize hb : c + 1 = b' at h'
    generalize hk : ks ++ [c] = ks' at h'
    cases h' with
    | nil => simp at hk
    | @snoc _ b2 c2 ks2 n2 g1 gn g2 =>
      have hc : c = c2 := by omega
      subst hc
      have hks : ks = ks2 := by have := List.append_inj_left' hk rfl; exact this
      subst hks
      rw [hn] at gn
      cases gn
      have := i2 b2 g2
      subst this
      exact i1 a' g1
/-- The roots between two places are told by these. -/
theorem Forest.roots {a b : Nat} {ks : List Nat} (h : Forest ns a b ks) : ∀ ks', Forest ns a b ks' → ks = ks' := by
  induction h with
  | nil a =>
    intro ks' h'
    by_cases e : ks' = []
    · exact e.symm
    · have := h'.pos e; omega
  | @snoc a b c ks n h1 hn h2 i1 i2 =>
    intro ks' h'
    have l1 := h1.le
    have l2 := h2.le
    generalize hb : c + 1 = b' at h'
    cases h' with
    | nil => omega
    | @snoc _ b2 c2 ks2 n2 g1 gn g2 =>
      have hc : c = c2 := by omega
      subst hc
      rw [hn] at gn
      cases gn
      have := h2.start b2 g2
      subst this
      rw [i1 ks2 g1]
/-- What stands ahead of a place are trees, too. -/
theorem Forest.ahead {a b : Nat} {ks : List Nat} (h : Forest ns a b ks) : ∀ i, a ≤ i → i ≤ b → ∃ ks', Forest ns a i ks' := by
  induction h with
  | nil a => intro i h1 h2; have : i = a := by omega
             subst this; exact ⟨[], .nil _⟩
  | @snoc a b c ks n h1 hn h2 i1 i2 =>
    intro i g1 g2
    rcases Nat.lt_or_ge b i with hb | hb
    · rcases Nat.lt_or_ge i (c + 1) with hc | hc
      · obtain ⟨ks', f⟩ := i2 i (by omega) (by omega)
        exact ⟨ks ++ ks', h1.join f⟩
      · have : i = c + 1 := by omega
        subst this
        exact ⟨_, .snoc h1 hn h2⟩
    · exact i1 i g1 hb
/-- The last node ahead of a place, and its kids. -/
theorem Forest.top {a i : Nat} {ks : List Nat} (h : Forest ns a (i + 1) ks) (ha : a ≤ i) : ∃ b ks2 n, ks = ks2 ++ [i] ∧ ns[i]? = some n ∧ Forest ns a b ks2 ∧ Forest ns b i n.l := by
  generalize hb : i + 1 = b' at h
  cases h with
  | nil => omega
  | @snoc _ b2 c2 ks2 n2 g1 gn g2 =>
    have hc : i = c2 := by omega
    subst hc
    exact ⟨b2, ks2, n2, rfl, gn, g1, g2⟩
end

/-- A node of memory, as plain lists have it. -/
def toN (g : Gd) : Nd := ⟨g.op.toNat, g.s, g.l.map Int.toNat, g.lo, g.hi, bs g.nm⟩
theorem map_back {l : List Int} (h : ∀ k ∈ l, 0 ≤ k) : l = (l.map Int.toNat).map fun k : Nat => (k : Int) := by
  induction l with
  | nil => rfl
  | cons x r ih =>
    have := h x (by simp)
    rw [List.map_cons, List.map_cons, ← ih (fun k hk => h k (by simp [hk]))]
    congr 1
    omega
theorem map_id_back (l : List Nat) : (l.map fun k : Nat => (k : Int)).map Int.toNat = l := by
  induction l with
  | nil => rfl
  | cons x r ih => rw [List.map_cons, List.map_cons, ih]; rfl
theorem gn1_to {g : Gd} (h0 : 0 ≤ g.op) (hl : ∀ k ∈ g.l, 0 ≤ k) : GN1 g (toN g) := by
  refine ⟨?_, fun _ _ => rfl, map_back hl, rfl, rfl, rfl⟩
  show g.op = ((g.op.toNat : Nat) : Int)
  omega
theorem shape_op {g : Gd} (h : shapeG g = true) : 0 ≤ g.op := by
  unfold shapeG shapeV at h
  split at h
  · omega
  · split at h
    · omega
    · split at h
      · omega
      · split at h
        · omega
        · split at h
          · omega
          · cases h
theorem shape_same {g : Gd} {n : Nd} (h : GN1 g n) : shapeG g = shapeB n := by
  have he : emptyS g.s = emptyS n.s := by
    unfold emptyS
    rw [Bool.eq_iff_iff, List.all_eq_true, List.all_eq_true]
    constructor
    · intro h1 x hx
      rw [← h.s x (List.mem_range.1 hx)]
      exact h1 x hx
    · intro h1 x hx
      rw [h.s x (List.mem_range.1 hx)]
      exact h1 x hx
  have hm : g.nm.toList.isEmpty = (n.name == []) := by
    rw [← h.nm, ByteArray.toList_eq]
    unfold bs
    cases g.nm.data.toList <;> rfl
  have hll : g.l.length = n.l.length := by rw [h.l, List.length_map]
  have hl0 : decide (n.l.length = 0) = (n.l == []) := by cases n.l <;> simp
  unfold shapeG shapeV shapeB hiOk zeroB
  rw [he, hm, hll, h.op, h.lo, h.hi, h.nm, hl0]
  generalize emptyS n.s = e
  generalize (n.name == []) = m
  generalize nameB n.name = nb
  generalize (n.l == []) = z
  have c1 : ((n.op : Int) = 1) = (n.op = 1) := by apply propext; omega
  have c2 : ((n.op : Int) = 2) = (n.op = 2) := by apply propext; omega
  have c3 : ((n.op : Int) = 3) = (n.op = 3) := by apply propext; omega
  have c4 : ((n.op : Int) = 4) = (n.op = 4) := by apply propext; omega
  have c5 : ((n.op : Int) = 5) = (n.op = 5) := by apply propext; omega
  have c6 : ((n.op : Int) = 6) = (n.op = 6) := by apply propext; omega
  simp only [c1, c2, c3, c4, c5, c6]
  generalize (n.lo == 0) = a
  generalize (n.hi == 0) = b
  split
  · cases e <;> cases a <;> cases b <;> cases m <;> cases z <;> rfl
  · split
    · cases e <;> cases a <;> cases b <;> cases m <;> cases z <;> rfl
    · split
      · generalize decide (2 ≤ n.l.length) = y
        cases e <;> cases a <;> cases b <;> cases m <;> cases y <;> rfl
      · split
        · generalize decide (n.l.length = 1) = y
          generalize decide (0 ≤ n.lo) = y1
          generalize decide (n.lo ≤ 4096) = y2
          generalize (n.hi == -1 || (decide (1 ≤ n.hi) && decide (n.hi ≤ 4096) && decide (n.lo ≤ n.hi))) = y3
          cases e <;> cases m <;> cases y <;> cases y1 <;> cases y2 <;> cases y3 <;> rfl
        · split
          · cases e <;> cases a <;> cases b <;> cases nb <;> cases z <;> rfl
          · rfl

/-- The nodes that have no parent yet, ahead of place i; none: something does not fit. -/
def stk (gs : List Gd) : Nat → Option (List Nat)
  | 0 => some []
  | i + 1 => match stk gs i with
    | none => none
    | some st => if shapeG (gs.getD i gd0) = true ∧ (gs.getD i gd0).l.length ≤ st.length ∧ (st.drop (st.length - (gs.getD i gd0).l.length)).map (fun k : Nat => (k : Int)) = (gs.getD i gd0).l
      then some (st.take (st.length - (gs.getD i gd0).l.length) ++ [i]) else none
theorem stk_none {gs : List Gd} {i : Nat} (h : stk gs i = none) : ∀ n, i ≤ n → stk gs n = none := by
  intro n hn
  induction n with
  | zero => have : i = 0 := by omega
            subst this; exact h
  | succ n ih =>
    rcases Nat.eq_or_lt_of_le hn with e | e
    · rw [← e]; exact h
    · rw [stk, ih (by omega)]
theorem stk_go {gs : List Gd} {i : Nat} {st : List Nat} (h : stk gs i = some st) (h1 : shapeG (gs.getD i gd0) = true) (h2 : (gs.getD i gd0).l.length ≤ st.length) (h3 : (st.drop (st.length - (gs.getD i gd0).l.length)).map (fun k : Nat => (k : Int)) = (gs.getD i gd0).l) :
    stk gs (i + 1) = some (st.take (st.length - (gs.getD i gd0).l.length) ++ [i]) := by
  rw [stk, h]
  simp only
  rw [if_pos ⟨h1, h2, h3⟩]
theorem stk_no {gs : List Gd} {i : Nat} {st : List Nat} (h : stk gs i = some st) (h1 : ¬ (shapeG (gs.getD i gd0) = true ∧ (gs.getD i gd0).l.length ≤ st.length ∧ (st.drop (st.length - (gs.getD i gd0).l.length)).map (fun k : Nat => (k : Int)) = (gs.getD i gd0).l)) :
    stk gs (i + 1) = none := by
  rw [stk, h]
  simp only
  rw [if_neg h1]
theorem toN_at {gs : List Gd} {i : Nat} (hi : i < gs.length) : (gs.map toN)[i]? = some (toN (gs.getD i gd0)) := by
  rw [List.getElem?_map, List.getElem?_eq_getElem hi, List.getD_eq_getElem?_getD, List.getElem?_eq_getElem hi]
  rfl
theorem stk_forest (gs : List Gd) : ∀ (i : Nat) (st : List Nat), i ≤ gs.length → stk gs i = some st → Forest (gs.map toN) 0 i st ∧ (∀ j, j < i → shapeG (gs.getD j gd0) = true ∧ ∀ k ∈ (gs.getD j gd0).l, 0 ≤ k)
  | 0, st, _, h => by
    cases h
    exact ⟨.nil 0, fun j hj => by omega⟩
  | i + 1, st, hi, h => by
    cases hs : stk gs i with
    | none => rw [stk, hs] at h; cases h
    | some st0 =>
      obtain ⟨f, ih⟩ := stk_forest gs i st0 (by omega) hs
      by_cases hc : shapeG (gs.getD i gd0) = true ∧ (gs.getD i gd0).l.length ≤ st0.length ∧ (st0.drop (st0.length - (gs.getD i gd0).l.length)).map (fun k : Nat => (k : Int)) = (gs.getD i gd0).l
      · rw [stk_go hs hc.1 hc.2.1 hc.2.2] at h
        cases h
        obtain ⟨h1, h2, h3⟩ := hc
        obtain ⟨b, f1, f2⟩ := f.split (st0.take (st0.length - (gs.getD i gd0).l.length)) (st0.drop (st0.length - (gs.getD i gd0).l.length)) (List.take_append_drop _ _).symm
        have hl : (toN (gs.getD i gd0)).l = st0.drop (st0.length - (gs.getD i gd0).l.length) := by
          show (gs.getD i gd0).l.map Int.toNat = _
          rw [← congrArg (List.map Int.toNat) h3, map_id_back]
        refine ⟨.snoc f1 (toN_at (by omega)) (by rw [hl]; exact f2), fun j hj => ?_⟩
        rcases Nat.lt_or_ge j i with h4 | h4
        · exact ih j h4
        · have : j = i := by omega
          subst this
          refine ⟨h1, fun k hk => ?_⟩
          rw [← h3] at hk
          obtain ⟨x, _, rfl⟩ := List.mem_map.1 hk
          omega
      · rw [stk_no hs hc] at h
        cases h
/-- P4.1's Right, by that row. -/
theorem right_iff (gs : List Gd) (h1 : 1 ≤ gs.length) (h2 : gs.length ≤ 1024) : (∃ st, stk gs gs.length = some st ∧ st.length = 1) ↔ RightG gs := by
  constructor
  · rintro ⟨st, hs, hl⟩
    obtain ⟨f, ha⟩ := stk_forest gs gs.length st (Nat.le_refl _) hs
    have hgn : GN gs (gs.map toN) := by
      refine ⟨by simp, fun i hi => ?_⟩
      have : (gs.map toN).getD i nd0 = toN (gs.getD i gd0) := by rw [List.getD_eq_getElem?_getD, toN_at hi]; rfl
      rw [this]
      exact gn1_to (shape_op (ha i hi).1) (ha i hi).2
    refine ⟨gs.map toN, hgn, fun n hn => ?_, by simpa using h1, by simpa using h2, ?_⟩
    · obtain ⟨i, hi, rfl⟩ := List.getElem_of_mem hn
      rw [List.length_map] at hi
      have g1 := hgn.2 i hi
      have e : (gs.map toN).getD i nd0 = (gs.map toN)[i] := by rw [List.getD_eq_getElem?_getD, List.getElem?_eq_getElem (by simpa using hi)]; rfl
      rw [e] at g1
      rw [← shape_same g1]
      exact (ha i hi).1
    · match st, hl with
      | [r], _ =>
        have := f.last
        rw [List.length_map]
        rw [show gs.length - 1 = r from by omega]
        exact f
  · rintro ⟨ns, hgn, hsh, h3, h4, f⟩
    have hlen : gs.length = ns.length := hgn.1
    have key : ∀ i, i ≤ gs.length → ∃ st, stk gs i = some st ∧ Forest ns 0 i st := by
      intro i
      induction i with
      | zero => intro _; exact ⟨[], rfl, .nil 0⟩
      | succ i ih =>
        intro hi
        obtain ⟨st, hs, fi⟩ := ih (by omega)
        obtain ⟨ks, fk⟩ := f.ahead (i + 1) (Nat.zero_le _) (by omega)
        obtain ⟨b, ks2, n, hk, hn, f1, f2⟩ := fk.top (Nat.zero_le _)
        have hst : st = ks2 ++ n.l := fi.roots _ (f1.join f2)
        have g1 := hgn.2 i (by omega)
        have e : ns.getD i nd0 = n := by rw [List.getD_eq_getElem?_getD, hn]; rfl
        rw [e] at g1
        have hgl : (gs.getD i gd0).l.length = n.l.length := by rw [g1.l, List.length_map]
        have hsl : st.length = ks2.length + n.l.length := by rw [hst, List.length_append]
        have hdr : st.length - (gs.getD i gd0).l.length = ks2.length := by omega
        have hgo := stk_go hs (by rw [shape_same g1]; exact hsh n (List.mem_of_getElem? hn)) (by omega) (by rw [hdr, hst, List.drop_left, g1.l])
        rw [hdr, hst, List.take_left] at hgo
        exact ⟨_, hgo, .snoc f1 hn f2⟩
    obtain ⟨st, hs, fs⟩ := key gs.length (Nat.le_refl _)
    rw [hlen] at fs
    have := fs.roots _ f
    refine ⟨st, hs, by rw [this]; rfl⟩
end Go.Proofs.Ytahhiajliomcfaa.Sy

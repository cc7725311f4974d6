/- A tree printed: the landed Tree. -/
import Derived.Test.YtaagkfiaccmepaaPDf
import Derived.Test.YtaagkfiaccmepaaPHg
namespace Go.Proofs.Ytaagkfiaccmepaa.Sy.Pn
open Go.RowKit
set_option maxRecDepth 100000
set_option linter.unusedVariables false

section
variable {ns : List Nd}
theorem forest_mem {a b : Nat} {ks : List Nat} (h : Forest ns a b ks) : ∀ k ∈ ks, a ≤ k ∧ k < b := by
  induction h with
  | nil a => intro k hk; cases hk
  | @snoc a b c ks n h1 hn h2 ih1 ih2 =>
    intro k hk
    have := h1.le
    have := h2.le
    rcases List.mem_append.1 hk with q | q
    · have := ih1 k q; omega
    · obtain rfl := List.mem_singleton.1 q
      omega
theorem forest_len {a b : Nat} {ks : List Nat} (h : Forest ns a b ks) : ks.length ≤ b - a := by
  induction h with
  | nil a => simp
  | @snoc a b c ks n h1 hn h2 ih1 ih2 =>
    have := h1.le
    have := h2.le
    rw [List.length_append, List.length_singleton]
    omega
theorem forest_kids {a b : Nat} {ks : List Nat} (h : Forest ns a b ks) : ∀ i, a ≤ i → i < b → ∃ n e, ns[i]? = some n ∧ Forest ns e i n.l := by
  induction h with
  | nil a => intro i h1 h2; omega
  | @snoc a b c ks n h1 hn h2 ih1 ih2 =>
    intro i h3 h4
    by_cases q : i < b
    · exact ih1 i h3 q
    · by_cases r : i < c
      · exact ih2 i (by omega) r
      · obtain rfl : i = c := by omega
        exact ⟨n, b, hn, h2⟩
theorem getD_of {i : Nat} {n : Nd} (h : ns[i]? = some n) : ns.getD i nd0 = n := by rw [List.getD_eq_getElem?_getD, h]; rfl
/-- How long the texts of some nodes are together, each with three bytes more. -/
def sumT (ns : List Nd) (f : Nat) (ks : List Nat) : Nat := (ks.map fun k => (nodeT ns f (ns.getD k nd0)).length + 3).sum
theorem sumT_app (f : Nat) (xs ys : List Nat) : sumT ns f (xs ++ ys) = sumT ns f xs + sumT ns f ys := by simp [sumT]
theorem kidsT_sum (sep : List Nat) (hs : sep.length ≤ 1) (f : Nat) (n : Nd) : ∀ m, m ≤ n.l.length → (kidsT sep (kidT ns f n) m).length ≤ sumT ns f (n.l.take m)
  | 0, _ => by simp [kidsT_zero]
  | m + 1, h => by
    have h1 := kidsT_sum sep hs f n m (by omega)
    rw [kidsT_succ, List.take_succ_eq_append_getElem (by omega), sumT_app]
    have e : n.l.getD m 0 = n.l[m] := by rw [List.getD_eq_getElem?_getD, List.getElem?_eq_getElem (by omega)]; rfl
    have h2 : (kidT ns f n m).length ≤ (nodeT ns f (ns.getD n.l[m] nd0)).length + 2 := by
      unfold kidT
      rw [e]
      unfold wrapT
      split <;> simp
    have h3 : sumT ns f [n.l[m]] = (nodeT ns f (ns.getD n.l[m] nd0)).length + 3 := by simp [sumT]
    rw [List.length_append, List.length_append, h3]
    split
    · omega
    · rw [List.length_nil]
      omega
theorem headT_sum (f : Nat) (n : Nd) (hs : shapeB n = true) : (nodeT ns (f + 1) n).length ≤ max 2400 (sumT ns f n.l + 11) := by
  have k0 := kidsT_sum (ns := ns) [] (by simp) f n n.l.length (Nat.le_refl _)
  have k1 := kidsT_sum (ns := ns) [124] (by simp) f n n.l.length (Nat.le_refl _)
  rw [List.take_length] at k0 k1
  rw [nodeT_succ]
  unfold headT
  split
  · have := (setT_fit n.s).2; omega
  · split
    · have := shape_name hs
      simp
      omega
    · split
      · rename_i h5
        have q := shape_op5 hs h5
        have := (timesT_fit (lo := n.lo) (hi := n.hi) (by omega) (by omega)).2
        rw [List.length_append]
        omega
      · split
        · omega
        · split
          · omega
          · simp
theorem forest_sum (hs : Shp ns) {a b : Nat} {ks : List Nat} (h : Forest ns a b ks) : ∀ f, sumT ns f ks ≤ 3000 * (b - a) := by
  induction h with
  | nil a => intro f; simp [sumT]
  | @snoc a b c ks n h1 hn h2 ih1 ih2 =>
    intro f
    have l1 := h1.le
    have l2 := h2.le
    have q1 := ih1 f
    rw [sumT_app]
    have e : sumT ns f [c] = (nodeT ns f n).length + 3 := by simp only [sumT, List.map_cons, List.map_nil, List.sum_cons, List.sum_nil]; rw [getD_of hn]; rfl
    rw [e]
    cases f with
    | zero =>
      have : (nodeT ns 0 n).length = 0 := rfl
      omega
    | succ f =>
      have q2 := ih2 f
      have q3 := headT_sum (ns := ns) f n (hs n (List.mem_of_getElem? hn))
      omega
theorem nodeT_lt (hb : ∀ i, (∀ x ∈ (ns.getD i nd0).name, x < 256) ∧ ((ns.getD i nd0).op = 5 → (ns.getD i nd0).lo ≤ 9999 ∧ (ns.getD i nd0).hi ≤ 9999)) : ∀ (f i : Nat), ∀ x ∈ nodeT ns f (ns.getD i nd0), x < 256
  | 0, _ => by intro x hx; cases hx
  | f + 1, i => by
    have hk : ∀ j, ∀ x ∈ kidT ns f (ns.getD i nd0) j, x < 256 := fun j => (wrapT_fit (nodeT_lt hb f _)).1
    obtain ⟨h1, h2⟩ := hb i
    rw [nodeT_succ]
    intro x hx
    unfold headT at hx
    split at hx
    · exact (setT_fit _).1 x hx
    · split at hx
      · simp at hx
        rcases hx with rfl | hx | rfl
        · omega
        · exact h1 x hx
        · omega
      · split at hx
        · rename_i h5
          rcases List.mem_append.1 hx with q | q
          · exact kidsT_fit (by simp) (by simp) _ (fun j _ => hk j) x q
          · exact (timesT_fit (h2 h5).1 (h2 h5).2).1 x q
        · split at hx
          · exact kidsT_fit (by simp) (by simp) _ (fun j _ => hk j) x hx
          · split at hx
            · exact kidsT_fit (by simp) (by simp) _ (fun j _ => hk j) x hx
            · cases hx
end
/-- The nodes are this tree. -/
structure RN (gs : List Gd) (ns : List Nd) : Prop where
  gn : GN gs ns
  shp : Shp ns
  pos : 1 ≤ ns.length
  len : ns.length ≤ 1024
  tree : Forest ns 0 ns.length [ns.length - 1]
theorem rn_of {gs : List Gd} (h : RightG gs) : ∃ ns, RN gs ns := by
  obtain ⟨ns, h1, h2, h3, h4, h5⟩ := h
  exact ⟨ns, h1, h2, h3, h4, h5⟩
theorem RN.right {gs : List Gd} {ns : List Nd} (h : RN gs ns) : RightG gs := ⟨ns, h.gn, h.shp, h.pos, h.len, h.tree⟩
theorem shp_at {ns : List Nd} (h : Shp ns) {i : Nat} (hi : i < ns.length) : shapeB (ns.getD i nd0) = true := h _ (by rw [List.getD_eq_getElem?_getD, List.getElem?_eq_getElem hi]; exact List.getElem_mem hi)
theorem RN.lt {gs : List Gd} {ns : List Nd} (h : RN gs ns) : ∀ x ∈ treeT ns, x < 256 := by
  unfold treeT
  refine nodeT_lt (fun i => ?_) _ _
  by_cases hi : i < ns.length
  · have hg := h.gn.2 i (by rw [h.gn.1]; exact hi)
    refine ⟨fun x hx => ?_, fun h5 => ?_⟩
    · rw [← hg.nm] at hx
      exact bs_lt _ x hx
    · have := shape_op5 (shp_at h.shp hi) h5
      omega
  · have e : ns.getD i nd0 = nd0 := by rw [List.getD_eq_getElem?_getD, List.getElem?_eq_none (by omega)]; rfl
    rw [e]
    exact ⟨fun x hx => (by cases hx), fun h5 => (by cases h5)⟩
theorem RN.size {gs : List Gd} {ns : List Nd} (h : RN gs ns) : (treeT ns).length ≤ 4000000 := by
  have h1 := forest_sum h.shp h.tree ns.length
  have h2 : sumT ns ns.length [ns.length - 1] = (treeT ns).length + 3 := by simp [sumT, treeT]
  have := h.len
  omega
theorem env_of {gs : List Gd} {ns : List Nd} (h : RN gs ns) {W0 : World} {b : Nat} {A : Option Addr} (hb : W0.heap.size ≤ b) (hN : Nds W0 W0.heap.size A gs) (hT : TV W0) : Env W0 W0.heap.size b gs.length A gs ns := by
  have hl := h.gn.1
  refine ⟨rfl, hb, hN, h.gn, rfl, by have := h.len; omega, hT, fun i hi k hk => ?_, fun i hi => shp_at h.shp (by omega), fun g hg => ?_⟩
  · obtain ⟨n, e, hn, hF⟩ := forest_kids h.tree i (Nat.zero_le _) (by omega)
    rw [getD_of hn] at hk
    exact (forest_mem hF k hk).2
  · obtain ⟨i, hi, rfl⟩ := List.getElem_of_mem hg
    have e1 : gs[i] = gs.getD i gd0 := by rw [List.getD_eq_getElem?_getD, List.getElem?_eq_getElem hi]; rfl
    have hg := h.gn.2 i hi
    have hs := shape_name (shp_at h.shp (i := i) (by omega))
    obtain ⟨n, e, hn, hF⟩ := forest_kids h.tree i (Nat.zero_le _) (by omega)
    have := forest_len hF
    rw [e1]
    refine ⟨?_, ?_⟩
    · rw [← bs_len, hg.nm]; omega
    · rw [hg.l, List.length_map, getD_of hn]
      have := h.len
      omega
/-- What Tree tells. -/
def TreeR (gs : List Gd) (w : World) (e : Ending) (w' : World) : Prop :=
  ((∃ ns, RN gs ns ∧ e = .returned (.tuple #[.string (txt (treeT ns)), .bool true])) ∨ (¬ RightG gs ∧ e = .returned (.tuple #[.string { data := #[] }, .bool false]))) ∧ Below w.heap.size w w'
end Go.Proofs.Ytaagkfiaccmepaa.Sy.Pn

namespace Go.Proofs.Ytaagkfiaccmepaa.Sy.Pn
open Go.RowKit
set_option maxRecDepth 100000
set_option linter.unusedVariables false

/-- Two nodes whose sets have the same bytes. -/
structure NE1 (n m : Nd) : Prop where
  op : n.op = m.op
  s : ∀ b, b < 256 → n.s b = m.s b
  l : n.l = m.l
  lo : n.lo = m.lo
  hi : n.hi = m.hi
  name : n.name = m.name
theorem map_inj_int {a b : List Nat} (h : (a.map fun k : Nat => (k : Int)) = b.map fun k : Nat => (k : Int)) : a = b := by
  have := congrArg (List.map Int.toNat) h
  rwa [map_id_back, map_id_back] at this
theorem ne_of {g : Gd} {n m : Nd} (h : GN1 g n) (h' : GN1 g m) : NE1 n m :=
  ⟨by have := h.op; rw [h'.op] at this; omega, fun b hb => (h.s b hb).symm.trans (h'.s b hb), map_inj_int (h.l.symm.trans h'.l), h.lo.symm.trans h'.lo, h.hi.symm.trans h'.hi, h.nm.symm.trans h'.nm⟩
def NE (ns ms : List Nd) : Prop := ns.length = ms.length ∧ ∀ i, NE1 (ns.getD i nd0) (ms.getD i nd0)
theorem NE1.refl (n : Nd) : NE1 n n := ⟨rfl, fun _ _ => rfl, rfl, rfl, rfl, rfl⟩
theorem nes_of {gs : List Gd} {ns ms : List Nd} (h : GN gs ns) (h' : GN gs ms) : NE ns ms := by
  refine ⟨h.1.symm.trans h'.1, fun i => ?_⟩
  by_cases hi : i < gs.length
  · exact ne_of (h.2 i hi) (h'.2 i hi)
  · have e1 : ns.getD i nd0 = nd0 := by rw [List.getD_eq_getElem?_getD, List.getElem?_eq_none (by rw [← h.1]; omega)]; rfl
    have e2 : ms.getD i nd0 = nd0 := by rw [List.getD_eq_getElem?_getD, List.getElem?_eq_none (by rw [← h'.1]; omega)]; rfl
    rw [e1, e2]
    exact NE1.refl _
theorem headT_congr {n m : Nd} (h : NE1 n m) {f g : Nat → List Nat} (hf : f = g) : headT f n = headT g m := by
  subst hf
  unfold headT
  rw [h.op, h.l, h.lo, h.hi, h.name, setT_congr h.s]
theorem nodeT_congr {ns ms : List Nd} (h : NE ns ms) : ∀ (f : Nat) (n m : Nd), NE1 n m → nodeT ns f n = nodeT ms f m
  | 0, _, _, _ => rfl
  | f + 1, n, m, hn => by
    rw [nodeT_succ, nodeT_succ]
    refine headT_congr hn ?_
    funext i
    unfold kidT
    have h1 := h.2 (m.l.getD i 0)
    rw [hn.l, hn.op, h1.op, nodeT_congr h f _ _ h1]
theorem treeT_congr {ns ms : List Nd} (h : NE ns ms) : treeT ns = treeT ms := by
  unfold treeT
  rw [h.1]
  exact nodeT_congr h _ _ _ (h.2 _)
theorem setT_one : ∀ c, c < 256 → setT (oneS c) = byteT c := by decide +kernel
theorem rn_lens {gs : List Gd} {ns : List Nd} (h : RN gs ns) : ∀ g ∈ gs, g.nm.size ≤ maxLen ∧ g.l.length ≤ maxLen := fun g hg => by
  obtain ⟨i, hi, rfl⟩ := List.getElem_of_mem hg
  have hl := h.gn.1
  have e1 : gs[i] = gs.getD i gd0 := by rw [List.getD_eq_getElem?_getD, List.getElem?_eq_getElem hi]; rfl
  have hg := h.gn.2 i hi
  have hs := shape_name (shp_at h.shp (i := i) (by omega))
  obtain ⟨n, e, hn, hF⟩ := forest_kids h.tree i (Nat.zero_le _) (by omega)
  have := forest_len hF
  rw [e1]
  unfold maxLen
  refine ⟨?_, ?_⟩
  · rw [← bs_len, hg.nm]; omega
  · rw [hg.l, List.length_map, getD_of hn]
    have := h.len
    omega
end Go.Proofs.Ytaagkfiaccmepaa.Sy.Pn

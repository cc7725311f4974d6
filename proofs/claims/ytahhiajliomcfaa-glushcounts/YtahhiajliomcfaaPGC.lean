/- The places of nodes rise, and lie where their trees do. -/
import Derived.Test.YtahhiajliomcfaaPG1
import Derived.Test.YtahhiajliomcfaaPGA
import Derived.Test.YtahhiajliomcfaaPAx
namespace Go.Proofs.Ytahhiajliomcfaa.Sy.Gl
open Go.RowKit Go.Proofs.Ytahhiajliomcfaa.Sy.Ap Go.Proofs.Ytahhiajliomcfaa.Sy.Lg Go.Proofs.Ytahhiajliomcfaa.Sy.Pl
set_option maxRecDepth 100000
set_option linter.unusedVariables false

abbrev Rise (l : List Nat) : Prop := l.Pairwise (· < ·)
def InR (a b : Nat) (l : List Nat) : Prop := ∀ x ∈ l, a ≤ x ∧ x < b
theorem rise_len : ∀ (l : List Nat) (a b : Nat), Rise l → InR a b l → l.length ≤ b - a
  | [], a, b, _, _ => Nat.zero_le _
  | x :: l, a, b, h, hr => by
    have h1 := hr x (by simp)
    have h2 : InR (x + 1) b l := fun y hy => ⟨(List.pairwise_cons.1 h).1 y hy, (hr y (by simp [hy])).2⟩
    have := rise_len l (x + 1) b (List.pairwise_cons.1 h).2 h2
    rw [List.length_cons]
    omega
theorem rise_app {l l' : List Nat} {a b c : Nat} (h : Rise l) (h' : Rise l') (hr : InR a b l) (hr' : InR b c l') : Rise (l ++ l') := by
  refine List.pairwise_append.2 ⟨h, h', fun x hx y hy => ?_⟩
  have h1 := (hr x hx).2
  have h2 := (hr' y hy).1
  omega
theorem inr_app {l l' : List Nat} {a b c : Nat} (hr : InR a b l) (hr' : InR b c l') (hab : a ≤ b) (hbc : b ≤ c) : InR a c (l ++ l') := fun x hx => by
  rcases List.mem_append.1 hx with h | h
  · have := hr x h; omega
  · have := hr' x h; omega
theorem flat_sub (φ : Pt → List Nat) {ks : List Pt} : ((ks.getD 0 pt0 |> φ) = [] ∨ ks ≠ []) → (φ (ks.getD 0 pt0)).Sublist (ks.flatMap φ) := fun h => by
  cases ks with
  | nil =>
    rcases h with h | h
    · have h : φ (([] : List Pt).getD 0 pt0) = [] := h
      rw [h]
      exact List.nil_sublist _
    · exact absurd rfl h
  | cons k ks =>
    rw [List.flatMap_cons]
    exact List.sublist_append_left _ _
theorem rowG_sub (f : Fol) : ∀ (j : Nat) (ks : List Pt), ks.length = j → (rowG ks f).1.first.Sublist (ks.flatMap Pt.first) ∧ (rowG ks f).1.last.Sublist (ks.flatMap Pt.last)
  | 0, ks, h => by rw [List.eq_nil_of_length_eq_zero h]; exact ⟨List.Sublist.refl _, List.Sublist.refl _⟩
  | j + 1, ks, h => by
    rcases list_snoc ks with e | ⟨r, n, e⟩
    · rw [e] at h; simp at h
    · subst e
      rw [List.length_append, List.length_singleton] at h
      obtain ⟨h1, h2⟩ := rowG_sub f j r (by omega)
      have e1 : [n].flatMap Pt.first = n.first := by simp
      have e2 : [n].flatMap Pt.last = n.last := by simp
      rw [rowG_snoc, List.flatMap_append, List.flatMap_append, e1, e2]
      constructor
      · show (if (rowG r f).1.nul then (rowG r f).1.first ++ n.first else (rowG r f).1.first).Sublist _
        split
        · exact h1.append (List.Sublist.refl _)
        · exact h1.trans (List.sublist_append_left _ _)
      · show ((if n.nul then (rowG r f).1.last else []) ++ n.last).Sublist _
        split
        · exact h2.append (List.Sublist.refl _)
        · exact List.sublist_append_right _ _
theorem takeG_sub {rule : Nat} {n : Nd} {ks : List Pt} {g : Gs} (h2 : n.op ≠ 2) : (takeG rule n ks g).1.1.Sublist (ks.flatMap Pt.first) ∧ (takeG rule n ks g).1.2.Sublist (ks.flatMap Pt.last) := by
  have hk : ((ks.getD 0 pt0).first = [] ∨ ks ≠ []) ∧ ((ks.getD 0 pt0).last = [] ∨ ks ≠ []) := by
    cases ks with
    | nil => exact ⟨.inl rfl, .inl rfl⟩
    | cons k r => exact ⟨.inr (by simp), .inr (by simp)⟩
  unfold takeG
  rw [if_neg h2]
  by_cases h3 : n.op = 3
  · rw [if_pos h3]
    exact rowG_sub g.f _ ks rfl
  · rw [if_neg h3]
    by_cases h4 : n.op = 4
    · rw [if_pos h4]
      exact ⟨List.Sublist.refl _, List.Sublist.refl _⟩
    · rw [if_neg h4]
      by_cases h5 : n.op = 5
      · rw [if_pos h5]
        split
        · exact ⟨flat_sub Pt.first hk.1, flat_sub Pt.last hk.2⟩
        · exact ⟨flat_sub Pt.first hk.1, flat_sub Pt.last hk.2⟩
      · rw [if_neg h5]
        exact ⟨List.nil_sublist _, List.nil_sublist _⟩
section
variable {rule : Nat} {ns : List Nd} {g : Gs}
/-- The part of a node. -/
def PT (rule : Nat) (ns : List Nd) (g : Gs) (k : Nat) : Pt := (addG rule (ns.take (k + 1)) g).1.getD k pt0
theorem addG_step {i : Nat} {n : Nd} (hi : ns[i]? = some n) : addG rule (ns.take (i + 1)) g = addStep rule (addG rule (ns.take i) g) n := by
  have hl := (List.getElem?_eq_some_iff.1 hi).1
  have e : ns.take (i + 1) = ns.take i ++ [n] := by
    rw [List.take_succ_eq_append_getElem hl]
    congr
    exact (List.getElem?_eq_some_iff.1 hi).2
  rw [e, addG_snoc]
theorem PT_stay : ∀ (d k : Nat), k + 1 + d ≤ ns.length → (addG rule (ns.take (k + 1 + d)) g).1.getD k pt0 = PT rule ns g k
  | 0, k, h => rfl
  | d + 1, k, h => by
    have hi : ns[k + 1 + d]? = some ns[k + 1 + d] := List.getElem?_eq_getElem (by omega)
    rw [show k + 1 + (d + 1) = k + 1 + d + 1 by omega, addG_step hi]
    unfold addStep
    have hl : (addG rule (ns.take (k + 1 + d)) g).1.length = k + 1 + d := by rw [addG_len rule g _ _ rfl, List.length_take]; omega
    rw [List.getD_eq_getElem?_getD, List.getElem?_append_left (by rw [hl]; omega), ← List.getD_eq_getElem?_getD]
    exact PT_stay d k (by omega)
theorem PT_at {k i : Nat} (hk : k < i) (hi : i ≤ ns.length) : (addG rule (ns.take i) g).1.getD k pt0 = PT rule ns g k := by
  have := PT_stay (rule := rule) (ns := ns) (g := g) (i - (k + 1)) k (by omega)
  rw [show k + 1 + (i - (k + 1)) = i by omega] at this
  exact this
/-- A node's part, by those of its kids. -/
theorem PT_eq {k : Nat} {n : Nd} (hk : ns[k]? = some n) (hlow : ∀ c ∈ n.l, c < k) : PT rule ns g k = ⟨(takeG rule n (n.l.map (PT rule ns g)) (addG rule (ns.take k) g).2).1.1, (takeG rule n (n.l.map (PT rule ns g)) (addG rule (ns.take k) g).2).1.2, may1 n ((addG rule (ns.take k) g).1.map Pt.nul)⟩ := by
  have hl := (List.getElem?_eq_some_iff.1 hk).1
  have hk2 : kidsG n (addG rule (ns.take k) g).1 = n.l.map (PT rule ns g) := by
    unfold kidsG
    apply List.map_congr_left
    intro c hc
    exact PT_at (hlow c hc) (by omega)
  unfold PT
  rw [addG_step hk]
  unfold addStep
  have hlen : (addG rule (ns.take k) g).1.length = k := by rw [addG_len rule g _ _ rfl, List.length_take]; omega
  rw [List.getD_eq_getElem?_getD, List.getElem?_append_right (by rw [hlen]; exact Nat.le_refl _), hlen, Nat.sub_self, hk2]
  rfl
/-- How many places there are ahead of a node. -/
def plQ (ns : List Nd) (g : Gs) (i : Nat) : Nat := g.ps.length + bytesN (ns.take i)
theorem plQ_eq {i : Nat} : (addG rule (ns.take i) g).2.ps.length = plQ ns g i := addG_ps rule g _ _ rfl
theorem plQ_succ {i : Nat} {n : Nd} (hi : ns[i]? = some n) : plQ ns g (i + 1) = plQ ns g i + if n.op = 2 then 1 else 0 := by
  have hl := (List.getElem?_eq_some_iff.1 hi).1
  have e : ns.take (i + 1) = ns.take i ++ [n] := by
    rw [List.take_succ_eq_append_getElem hl]
    congr
    exact (List.getElem?_eq_some_iff.1 hi).2
  unfold plQ
  rw [e, bytesN_snoc]
  omega
theorem plQ_mono : ∀ (d i : Nat), i + d ≤ ns.length → plQ ns g i ≤ plQ ns g (i + d)
  | 0, i, _ => Nat.le_refl _
  | d + 1, i, h => by
    have h1 := plQ_mono d i (by omega)
    have h2 := plQ_succ (g := g) (List.getElem?_eq_getElem (show i + d < ns.length by omega))
    rw [show i + (d + 1) = i + d + 1 by omega, h2]
    omega
theorem plQ_le {i j : Nat} (h : i ≤ j) (hj : j ≤ ns.length) : plQ ns g i ≤ plQ ns g j := by
  have := plQ_mono (ns := ns) (g := g) (j - i) i (by omega)
  rw [show i + (j - i) = j by omega] at this
  exact this
/-- The places of trees rise, and lie where these do. -/
theorem parts_rise {a b : Nat} {ks : List Nat} (h : Forest ns a b ks) : b ≤ ns.length → (Rise (ks.flatMap fun k => (PT rule ns g k).first) ∧ InR (plQ ns g a) (plQ ns g b) (ks.flatMap fun k => (PT rule ns g k).first)) ∧ (Rise (ks.flatMap fun k => (PT rule ns g k).last) ∧ InR (plQ ns g a) (plQ ns g b) (ks.flatMap fun k => (PT rule ns g k).last)) := by
  induction h with
  | nil a => exact fun _ => ⟨⟨List.Pairwise.nil, fun x hx => absurd hx List.not_mem_nil⟩, List.Pairwise.nil, fun x hx => absurd hx List.not_mem_nil⟩
  | @snoc a b c ks n h1 hn h2 i1 i2 =>
    intro hc
    have hb1 := h1.le
    have hb2 := h2.le
    obtain ⟨⟨r1, s1⟩, r2, s2⟩ := i1 (by omega)
    obtain ⟨⟨r3, s3⟩, r4, s4⟩ := i2 (by omega)
    have hlow : ∀ k ∈ n.l, k < c := forest_lt h2
    have hPT := PT_eq (rule := rule) (g := g) hn hlow
    have hm1 : plQ ns g a ≤ plQ ns g b := plQ_le hb1 (by omega)
    have hm2 : plQ ns g b ≤ plQ ns g c := plQ_le hb2 (by omega)
    have hm3 := plQ_succ (g := g) hn
    have key : (Rise (PT rule ns g c).first ∧ InR (plQ ns g b) (plQ ns g (c + 1)) (PT rule ns g c).first) ∧ (Rise (PT rule ns g c).last ∧ InR (plQ ns g b) (plQ ns g (c + 1)) (PT rule ns g c).last) := by
      by_cases e2 : n.op = 2
      · rw [if_pos e2] at hm3
        have e : (takeG rule n (n.l.map (PT rule ns g)) (addG rule (ns.take c) g).2).1 = ([plQ ns g c], [plQ ns g c]) := by
          unfold takeG
          rw [if_pos e2, plQ_eq]
        rw [hPT, e]
        have hI : InR (plQ ns g b) (plQ ns g (c + 1)) [plQ ns g c] := fun x hx => by
          rw [List.mem_singleton] at hx
          omega
        exact ⟨⟨List.pairwise_singleton _ _, hI⟩, List.pairwise_singleton _ _, hI⟩
      · rw [if_neg e2] at hm3
        obtain ⟨t1, t2⟩ := takeG_sub (rule := rule) (ks := n.l.map (PT rule ns g)) (g := (addG rule (ns.take c) g).2) e2
        rw [List.flatMap_map] at t1 t2
        rw [hPT]
        exact ⟨⟨r3.sublist t1, fun x hx => by have := s3 x (t1.subset hx); omega⟩, r4.sublist t2, fun x hx => by have := s4 x (t2.subset hx); omega⟩
    obtain ⟨⟨k1, k2⟩, k3, k4⟩ := key
    have hm4 : plQ ns g b ≤ plQ ns g (c + 1) := by omega
    have e1 : (ks ++ [c]).flatMap (fun k => (PT rule ns g k).first) = ks.flatMap (fun k => (PT rule ns g k).first) ++ (PT rule ns g c).first := by rw [List.flatMap_append]; simp
    have e2 : (ks ++ [c]).flatMap (fun k => (PT rule ns g k).last) = ks.flatMap (fun k => (PT rule ns g k).last) ++ (PT rule ns g c).last := by rw [List.flatMap_append]; simp
    rw [e1, e2]
    exact ⟨⟨rise_app r1 k1 s1 k2, inr_app s1 k2 hm1 hm4⟩, rise_app r2 k3 s2 k4, inr_app s2 k4 hm1 hm4⟩
/-- Each node's kids are trees one behind the other. -/
theorem forest_node {a b : Nat} {ks : List Nat} (h : Forest ns a b ks) : ∀ k, a ≤ k → k < b → ∃ c n, ns[k]? = some n ∧ Forest ns c k n.l ∧ a ≤ c := by
  induction h with
  | nil a => intro k h1 h2; omega
  | @snoc a b c ks n h1 hn h2 i1 i2 =>
    intro k hk1 hk2
    have hb1 := h1.le
    rcases Nat.lt_or_ge k b with q | q
    · exact i1 k hk1 q
    · rcases Nat.lt_or_ge k c with r | r
      · obtain ⟨c', n', e1, e2, e3⟩ := i2 k q r
        exact ⟨c', n', e1, e2, by omega⟩
      · have : k = c := by omega
        subst this
        exact ⟨b, n, hn, h2, hb1⟩
end
end Go.Proofs.Ytahhiajliomcfaa.Sy.Gl

namespace Go.Proofs.Ytahhiajliomcfaa.Sy.Gl
open Go.RowKit Go.Proofs.Ytahhiajliomcfaa.Sy.Ap Go.Proofs.Ytahhiajliomcfaa.Sy.Ap.Wk Go.Proofs.Ytahhiajliomcfaa.Sy.Lg Go.Proofs.Ytahhiajliomcfaa.Sy.Pl
set_option maxRecDepth 100000
set_option linter.unusedVariables false

def tv0 : Tv := (pt0, (none, 0), none, 0)
theorem ptsC_rep (n : Nat) : madeCells ptZ (n * 3) = (ptsC (List.replicate n tv0)).toArray := by
  apply Array.ext_getElem?
  intro i
  by_cases hi : i < n * 3
  · have h1 : (List.replicate n tv0)[i / 3]? = some tv0 := by
      rw [List.getElem?_replicate, if_pos (by omega)]
    have h2 := ptsC_at (List.replicate n tv0) (i / 3) (i % 3) tv0 h1 (Nat.mod_lt _ (by omega))
    rw [show i / 3 * 3 + i % 3 = i by omega] at h2
    have hr : ((ptsC (List.replicate n tv0)).toArray)[i]? = (ptL tv0)[i % 3]? := by rw [List.getElem?_toArray, h2]
    rw [hr]
    have hs : (madeCells ptZ (n * 3)).size = n * 3 := size_madeCells _ _
    rw [Array.getElem?_eq_getElem (by rw [hs]; exact hi)]
    have hm : i % 3 < 3 := Nat.mod_lt _ (by omega)
    simp only [madeCells, Array.getElem_map, Array.getElem_range]
    have hsz : ptZ.size = 3 := rfl
    rw [hsz]
    rcases (by omega : i % 3 = 0 ∨ i % 3 = 1 ∨ i % 3 = 2) with q | q | q <;> (rw [q]; rfl)
  · rw [Array.getElem?_eq_none (by rw [size_madeCells]; omega), List.getElem?_toArray, List.getElem?_eq_none (by rw [ptsC_len, List.length_replicate]; omega)]
theorem make_parts (n : Nat) (hn : n ≤ 1000000) (w : World) : (Instr.makeSlice 81 (.int .i64 (n : Int)) (.int .i64 (n : Int))).run Try.prog w =
    .ok (.slice (some ⟨w.heap.size, 0, none⟩) n n) (w.alloc (.cells (ptsC (List.replicate n tv0)).toArray 57)) := by
  obtain ⟨i0, hi0, hz0, hz1, hz2⟩ := info_parts part_info
  have := run_make (P := Try.prog) w 81 57 i0 _ Try.underlying81 hi0 hz0 .i64 .i64 (n : Int) (n : Int) (by omega) (Int.le_refl _) (by rw [hz2]; omega) (by omega)
  rw [this, hz1, Int.toNat_natCast]
  have e : (Value.agg #[.slice none 0 0, .slice none 0 0, .bool false]).cells = ptZ := rfl
  rw [e, ptsC_rep]
theorem ptsC_set3 : ∀ (l : List Tv) (i : Nat) (x : Tv), i < l.length → ((((ptsC l).set (i * 3) (.slice x.2.1.1 x.1.first.length x.2.1.2)).set (i * 3 + 1) (.slice x.2.2.1 x.1.last.length x.2.2.2)).set (i * 3 + 2) (.bool x.1.nul)) = ptsC (l.set i x)
  | [], i, x, h => by cases h
  | y :: r, 0, x, _ => rfl
  | y :: r, i + 1, x, h => by
    have e : ptsC (y :: r) = ptL y ++ ptsC r := rfl
    have e' : ptsC ((y :: r).set (i + 1) x) = ptL y ++ ptsC (r.set i x) := rfl
    have hl : (ptL y).length = 3 := rfl
    have hr : i < r.length := by simpa using h
    rw [e, e', ← ptsC_set3 r i x hr]
    rw [List.set_append_right _ _ (by rw [hl]; omega), List.set_append_right _ _ (by rw [hl]; omega), List.set_append_right _ _ (by rw [hl]; omega), hl, show (i + 1) * 3 - 3 = i * 3 by omega, show (i + 1) * 3 + 1 - 3 = i * 3 + 1 by omega, show (i + 1) * 3 + 2 - 3 = i * 3 + 2 by omega]
theorem ptsC_set2 : ∀ (l : List Tv) (i : Nat) (x : Tv) (z : Bool), l[i]? = some x → (ptsC l).set (i * 3 + 2) (.bool z) = ptsC (l.set i (⟨x.1.first, x.1.last, z⟩, x.2))
  | [], i, x, z, h => by simp at h
  | y :: r, 0, x, z, h => by
    have h : y = x := by simpa using h
    subst h
    rfl
  | y :: r, i + 1, x, z, h => by
    have h : r[i]? = some x := by simpa using h
    have e : ptsC (y :: r) = ptL y ++ ptsC r := rfl
    have e' : ptsC ((y :: r).set (i + 1) (⟨x.1.first, x.1.last, z⟩, x.2)) = ptL y ++ ptsC (r.set i (⟨x.1.first, x.1.last, z⟩, x.2)) := rfl
    have hl : (ptL y).length = 3 := rfl
    rw [e, e', ← ptsC_set2 r i x z h, List.set_append_right _ _ (by rw [hl]; omega), hl, show (i + 1) * 3 + 2 - 3 = i * 3 + 2 by omega]
section
variable {w : World} {q : Nat} {P : List Tv}
theorem parts_at (r : RowA w q 57 (ptsC P).toArray) {k : Nat} (hk : k < P.length) : w.rangeAt q (k * 3) (ptL (P.getD k tv0)) := fun j v hj => by
  have hj3 : j < 3 := by
    rcases Nat.lt_or_ge j 3 with q | q
    · exact q
    · rw [List.getElem?_eq_none (by show 3 ≤ j; exact q)] at hj; cases hj
  have e : P[k]? = some (P.getD k tv0) := by rw [List.getD_eq_getElem?_getD, List.getElem?_eq_getElem hk]; rfl
  exact r.at_ (by rw [List.getElem?_toArray, ptsC_at P k j _ e hj3]; exact hj)
theorem parts_set (r : RowA w q 57 (ptsC P).toArray) {k : Nat} (hk : k < P.length) (x : Tv) : RowA (w.setCells q (k * 3) (ptL x)) q 57 (ptsC (P.set k x)).toArray := by
  have h := ((r.set (k * 3) (.slice x.2.1.1 x.1.first.length x.2.1.2)).set (k * 3 + 1) (.slice x.2.2.1 x.1.last.length x.2.2.2)).set (k * 3 + 1 + 1) (.bool x.1.nul)
  rw [← ptsC_set3 P k x hk]
  simp only [List.setIfInBounds_toArray] at h
  exact h
/-- Whether it may be nothing is written. -/
theorem parts_nul (r : RowA w q 57 (ptsC P).toArray) {k : Nat} (hk : k < P.length) (z : Bool) : RowA (w.setCell ⟨q, k * 3 + 2, none⟩ (.bool z)) q 57 (ptsC (P.set k (⟨(P.getD k tv0).1.first, (P.getD k tv0).1.last, z⟩, (P.getD k tv0).2))).toArray := by
  have h := r.set (k * 3 + 2) (.bool z)
  have e : P[k]? = some (P.getD k tv0) := by rw [List.getD_eq_getElem?_getD, List.getElem?_eq_getElem hk]; rfl
  have e2 := ptsC_set2 P k _ z e
  rw [← e2]
  simp only [List.setIfInBounds_toArray] at h
  exact h
end
end Go.Proofs.Ytahhiajliomcfaa.Sy.Gl

/- The landed parser: parentheses, an item, a row, an alternative. -/
import Derived.Test.YtghjkbjpdjlddaaDoorTq
namespace Go.Proofs.YtghjkbjpdjlddaaDoor.Sy
open Go.RowKit
set_option maxRecDepth 100000
set_option linter.unusedVariables false

/-- Something is wrong. -/
def BadR (w : World) (b : Nat) (s : ByteArray) (v : Value) (r : Except Bad (List Nd)) (e : Ending) (w' : World) : Prop :=
  ∃ (k : Int) (x p j : Nat) (v' : Value) (d' : Int), e = .returned (.tuple #[.int .i64 k, .bool false]) ∧ r = .error (x, p) ∧ PR w' b s (j : Int) (x : Int) (p : Int) v' d' ∧ Fr b v v' w w'
/-- An atom, or an item, was read. -/
def ItemR (w : World) (b : Nat) (s : ByteArray) (v : Value) (l : List NR) (i : Nat) (ns : List Nd) (st : List (List Nat × List Nat)) (aa I : List Nat) (e : Ending) (w' : World) : Prop :=
  (∃ (k j : Nat) (ns' : List Nd) (v' : Value) (l' : List NR), e = .returned (.tuple #[.int .i64 (k : Int), .bool true]) ∧ run (bs s) ⟨i, ns, st, aa, I⟩ = run (bs s) ⟨j, ns', st, aa, I ++ [k]⟩ ∧ i < j ∧ j ≤ s.size ∧
    PS w' b s (j : Int) 0 0 (st.length : Int) v' l' ∧ GN (l'.map (·.1)) ns' ∧ Goes b v l v' l' w w' ∧ l'.length + 2 * i ≤ l.length + 2 * j) ∨
  BadR w b s v (run (bs s) ⟨i, ns, st, aa, I⟩) e w'
/-- An alternative was read. -/
def AltR (w : World) (b : Nat) (s : ByteArray) (v : Value) (l : List NR) (i : Nat) (ns : List Nd) (st : List (List Nat × List Nat)) (e : Ending) (w' : World) : Prop :=
  (∃ (k j : Nat) (ns1 : List Nd) (a1 I1 : List Nat) (ns' : List Nd) (v' : Value) (l' : List NR), e = .returned (.tuple #[.int .i64 (k : Int), .bool true]) ∧ run (bs s) ⟨i, ns, st, [], []⟩ = run (bs s) ⟨j, ns1, st, a1, I1⟩ ∧ close ns1 a1 I1 = (ns', k) ∧ i ≤ j ∧ j ≤ s.size ∧ (j < s.size → at_ (bs s) j = 41) ∧
    PS w' b s (j : Int) 0 0 (st.length : Int) v' l' ∧ GN (l'.map (·.1)) ns' ∧ Goes b v l v' l' w w' ∧ l'.length + 2 * i ≤ l.length + 2 * j + 1) ∨
  BadR w b s v (run (bs s) ⟨i, ns, st, [], []⟩) e w'
/-- A row was read. -/
def RowR (w : World) (b : Nat) (s : ByteArray) (v : Value) (l : List NR) (i : Nat) (ns : List Nd) (st : List (List Nat × List Nat)) (aa : List Nat) (e : Ending) (w' : World) : Prop :=
  (∃ (k j : Nat) (ns1 : List Nd) (I1 : List Nat) (ns' : List Nd) (v' : Value) (l' : List NR), e = .returned (.tuple #[.int .i64 (k : Int), .bool true]) ∧ run (bs s) ⟨i, ns, st, aa, []⟩ = run (bs s) ⟨j, ns1, st, aa, I1⟩ ∧ mkRow ns1 I1 = (ns', k) ∧ i ≤ j ∧ j ≤ s.size ∧ (j < s.size → at_ (bs s) j = 124 ∨ at_ (bs s) j = 41) ∧
    PS w' b s (j : Int) 0 0 (st.length : Int) v' l' ∧ GN (l'.map (·.1)) ns' ∧ Goes b v l v' l' w w' ∧ l'.length + 2 * i ≤ l.length + 2 * j + 1) ∨
  BadR w b s v (run (bs s) ⟨i, ns, st, aa, []⟩) e w'
/-- What an alternative owes, n bytes ahead of the end. -/
def AltC (n : Nat) : Prop := ∀ (w : World) (b : Nat) (s : ByteArray) (v : Value) (l : List NR) (i : Nat) (ns : List Nd) (st : List (List Nat × List Nat)),
  s.size - i < n → PS w b s (i : Int) 0 0 (st.length : Int) v l → GN (l.map (·.1)) ns → i ≤ s.size → s.size ≤ 1024 → st.length ≤ 64 → l.length ≤ 2 * i →
  Calls Tryd.prog 36 #[.pointer (some ⟨b, 0, none⟩)] w fun e w' => AltR w b s v l i ns st e w'

section
variable {w w' w1 : World} {b : Nat} {s : ByteArray} {v v1 : Value} {l l1 : List NR} {i : Nat} {ns : List Nd} {st : List (List Nat × List Nat)} {aa I : List Nat}
theorem BadR.from {r : Except Bad (List Nd)} {e : Ending} (f : Fr b v v1 w w1) (h : BadR w1 b s v1 r e w') : BadR w b s v r e w' := by
  obtain ⟨k, x, p, j, v', d', h1, h2, h3, h4⟩ := h
  exact ⟨k, x, p, j, v', d', h1, h2, h3, f.trans h4⟩
theorem gn_snoc {gs : List Gd} {ns : List Nd} {g : Gd} {n : Nd} (h : GN gs ns) (h1 : GN1 g n) : GN (gs ++ [g]) (ns ++ [n]) := by
  refine ⟨by simp [h.1], fun i hi => ?_⟩
  rw [List.length_append, List.length_singleton] at hi
  rcases Nat.lt_or_ge i gs.length with h2 | h2
  · have e1 : (gs ++ [g]).getD i gd0 = gs.getD i gd0 := by rw [List.getD_eq_getElem?_getD, List.getD_eq_getElem?_getD, List.getElem?_append_left h2]
    have e2 : (ns ++ [n]).getD i nd0 = ns.getD i nd0 := by rw [List.getD_eq_getElem?_getD, List.getD_eq_getElem?_getD, List.getElem?_append_left (by rw [← h.1]; exact h2)]
    rw [e1, e2]
    exact h.2 i h2
  · have hi2 : i = gs.length := by omega
    subst hi2
    have e1 : (gs ++ [g]).getD gs.length gd0 = g := by simp [List.getD_eq_getElem?_getD]
    have e2 : (ns ++ [n]).getD gs.length nd0 = n := by rw [h.1]; simp [List.getD_eq_getElem?_getD]
    rw [e1, e2]
    exact h1
theorem gn_map {l : List NR} {ns : List Nd} {x : NR} {n : Nd} (h : GN (l.map (·.1)) ns) (h1 : GN1 x.1 n) : GN ((l ++ [x]).map (·.1)) (ns ++ [n]) := by
  rw [List.map_append]
  exact gn_snoc h h1
/-- An atom that is no parenthesis is an atom. -/
theorem item_lone {e : Ending} (h : GotL w b s (st.length : Int) v l (lone (bs s) i) e w') (hg : GN (l.map (·.1)) ns) (hi : i < s.size) (h1 : at_ (bs s) i ≠ 124) (h2 : at_ (bs s) i ≠ 41) (h3 : I = [] ∨ repAt (bs s) i = false) (h4 : at_ (bs s) i ≠ 40) : ItemR w b s v l i ns st aa I e w' := by
  have hbl := bs_len s
  have hr : run (bs s) ⟨i, ns, st, aa, I⟩ = _ := run_lone (by rw [hbl]; exact hi) h1 h2 h3 h4
  unfold GotL at h
  cases hl : lone (bs s) i with
  | ok x =>
    obtain ⟨n, j⟩ := x
    rw [hl] at h hr
    obtain ⟨he, v', x, p1, g1, g2, f⟩ := h
    have hj := lone_ok (by rw [hbl]; exact hi) hl
    rw [hbl] at hj
    have hnl : ns.length = l.length := by have := hg.1; rw [List.length_map] at this; exact this.symm
    refine .inl ⟨l.length, j, ns ++ [n], v', l ++ [x], he, by rw [hr, hnl], hj.1, hj.2, p1, gn_map hg g1, (Goes.refl b v l w).add f (fun y _ hne => absurd g2 hne), by rw [List.length_append, List.length_singleton]; omega⟩
  | error x =>
    obtain ⟨x, pp⟩ := x
    rw [hl] at h hr
    obtain ⟨⟨k, he⟩, j, v', d', h5, f⟩ := h
    exact .inr ⟨k, x, pp, j, v', d', he, hr, h5, f⟩
end

end Go.Proofs.YtghjkbjpdjlddaaDoor.Sy

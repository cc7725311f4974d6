/- Two trees, one behind the other, in memory. -/
import Derived.Test.YtgppanbikfobbaaBc
import Derived.ArgAppend
namespace Go.Proofs.Ytgppanbikfobbaa.Sy.Ap
open Go.RowKit
set_option maxRecDepth 100000
set_option linter.unusedVariables false

theorem addr_addO (g o r : Nat) : (⟨g, o, none⟩ : Addr).add r = ⟨g, o + r, none⟩ := by
  unfold Addr.add
  split
  · rename_i h; rw [h]; rfl
  · rfl
theorem nodesC_len (l : List NR) : (nodesC l).length = l.length * 9 := by
  induction l with
  | nil => rfl
  | cons x r ih =>
    have e : nodesC (x :: r) = gdL x.1 x.2.1 x.2.2 ++ nodesC r := rfl
    rw [e, List.length_append, gdL_len, ih, List.length_cons]
    omega
theorem nodesC_one (l : List NR) : ∀ u ∈ nodesC l, u.oneCell' = true := by
  intro u hu
  unfold nodesC at hu
  obtain ⟨x, _, hx⟩ := List.mem_flatMap.1 hu
  unfold gdL at hx
  simp only [List.mem_cons, List.not_mem_nil, or_false] at hx
  rcases hx with rfl | rfl | rfl | rfl | rfl | rfl | rfl | rfl | rfl <;> rfl
/-- Nodes that a slice shows: their cells, and where their kids lie. -/
theorem nds_cells {w : World} {B : Nat} {A : Option Addr} {gs : List Gd} (h : Nds w B A gs) (hne : gs ≠ []) : ∃ (b off : Nat) (l : List NR), A = some ⟨b, off, none⟩ ∧ b < B ∧ l.map (·.1) = gs ∧ (∀ j u, (nodesC l)[j]? = some u → w.cell? ((⟨b, off, none⟩ : Addr).add j) = some u) ∧ ∀ x ∈ l, Its w B x.2.1 x.1.l := by
  obtain ⟨b, off, hA, hb, hi⟩ := h hne
  have h1 : ∀ i : Nat, ∃ p : Option Addr × Nat, i < gs.length → Its w B p.1 (gs.getD i gd0).l ∧ w.rangeAt b (off + i * 9) (gdL (gs.getD i gd0) p.1 p.2) := by
    intro i
    by_cases q : i < gs.length
    · obtain ⟨A', c', h2, h3⟩ := hi i q
      exact ⟨(A', c'), fun _ => ⟨h2, h3⟩⟩
    · exact ⟨(none, 0), fun r => absurd r q⟩
  obtain ⟨f, hf⟩ := Classical.axiomOfChoice h1
  refine ⟨b, off, (List.range gs.length).map fun i => (gs.getD i gd0, f i), hA, hb, ?_, fun j u hu => ?_, fun x hx => ?_⟩
  · rw [List.map_map]
    apply List.ext_getElem?
    intro i
    rcases Nat.lt_or_ge i gs.length with q | q
    · rw [List.getElem?_map, List.getElem?_range q, List.getElem?_eq_getElem q]
      show some (gs.getD i gd0) = _
      rw [List.getD_eq_getElem?_getD, List.getElem?_eq_getElem q]
      rfl
    · rw [List.getElem?_eq_none q, List.getElem?_eq_none (by simp; exact q)]
  · have hl : j < gs.length * 9 := by
      rcases Nat.lt_or_ge j (gs.length * 9) with q | q
      · exact q
      · rw [List.getElem?_eq_none (by rw [nodesC_len, List.length_map, List.length_range]; exact q)] at hu; cases hu
    have hq : j / 9 < gs.length := by omega
    have e : j = j / 9 * 9 + j % 9 := by omega
    have hx : ((List.range gs.length).map fun i => ((gs.getD i gd0, f i) : NR))[j / 9]? = some (gs.getD (j / 9) gd0, f (j / 9)) := by
      rw [List.getElem?_map, List.getElem?_range hq]
      rfl
    rw [e, nodesC_at _ _ _ _ hx (by omega)] at hu
    have := (hf (j / 9) hq).2 _ _ hu
    rw [addr_addO]
    rw [show off + j = off + j / 9 * 9 + j % 9 from by omega]
    exact this
  · obtain ⟨i, hi2, rfl⟩ := List.mem_map.1 hx
    exact (hf i (List.mem_range.1 hi2)).1
def shfG (c : Nat) (g : Gd) : Gd := withG g (g.l.map fun k => k + (c : Int))
theorem gn_snoc {gs : List Gd} {ns : List Nd} (h : GN gs ns) {g : Gd} {n : Nd} (h1 : GN1 g n) : GN (gs ++ [g]) (ns ++ [n]) := by
  refine ⟨by rw [List.length_append, List.length_append, h.1]; rfl, fun i hi => ?_⟩
  rw [List.length_append, List.length_singleton] at hi
  have hl := h.1
  rcases Nat.lt_or_ge i gs.length with q | q
  · rw [List.getD_eq_getElem?_getD, List.getElem?_append_left q, List.getD_eq_getElem?_getD, List.getElem?_append_left (by omega), ← List.getD_eq_getElem?_getD, ← List.getD_eq_getElem?_getD]
    exact h.2 i q
  · have e : i = gs.length := by omega
    subst e
    rw [List.getD_eq_getElem?_getD, List.getElem?_append_right (Nat.le_refl _), List.getD_eq_getElem?_getD, List.getElem?_append_right (by omega), Nat.sub_self, hl, Nat.sub_self]
    exact h1
theorem gn_app {gs gs' : List Gd} {ns ns' : List Nd} (h : GN gs ns) (h' : GN gs' ns') : GN (gs ++ gs') (ns ++ ns') := by
  refine ⟨by rw [List.length_append, List.length_append, h.1, h'.1], fun i hi => ?_⟩
  rw [List.length_append] at hi
  have hl := h.1
  rcases Nat.lt_or_ge i gs.length with q | q
  · rw [List.getD_eq_getElem?_getD, List.getElem?_append_left q, List.getD_eq_getElem?_getD, List.getElem?_append_left (by omega), ← List.getD_eq_getElem?_getD, ← List.getD_eq_getElem?_getD]
    exact h.2 i q
  · rw [List.getD_eq_getElem?_getD, List.getElem?_append_right q, List.getD_eq_getElem?_getD, List.getElem?_append_right (by omega), ← List.getD_eq_getElem?_getD, ← List.getD_eq_getElem?_getD, hl]
    exact h'.2 _ (by omega)
theorem gn_shf {gs : List Gd} {ns : List Nd} (h : GN gs ns) (c : Nat) : GN (gs.map (shfG c)) (ns.map (shN c)) := by
  refine ⟨by rw [List.length_map, List.length_map]; exact h.1, fun i hi => ?_⟩
  rw [List.length_map] at hi
  have hi2 : i < ns.length := by rw [← h.1]; exact hi
  have h1 := h.2 i hi
  rw [List.getD_eq_getElem?_getD, List.getElem?_eq_getElem hi, List.getD_eq_getElem?_getD, List.getElem?_eq_getElem hi2] at h1
  rw [List.getD_eq_getElem?_getD, List.getElem?_map, List.getElem?_eq_getElem hi, List.getD_eq_getElem?_getD, List.getElem?_map, List.getElem?_eq_getElem hi2]
  refine ⟨h1.op, h1.s, ?_, h1.lo, h1.hi, h1.nm⟩
  show (gs[i].l.map fun k => k + (c : Int)) = (ns[i].l.map fun k => k + c).map fun k : Nat => (k : Int)
  have hl : gs[i].l = ns[i].l.map fun k : Nat => (k : Int) := h1.l
  rw [hl, List.map_map, List.map_map]
  apply List.map_congr_left
  intro k _
  simp
theorem gn_kid {gs : List Gd} {ns : List Nd} (hg : GN gs ns) (ht : TreeN ns) {i : Nat} (hi : i < gs.length) {j : Nat} (hj : j < (gs.getD i gd0).l.length) : 0 ≤ (gs.getD i gd0).l.getD j 0 ∧ (gs.getD i gd0).l.getD j 0 < 1024 := by
  have h1 := hg.2 i hi
  have hi2 : i < ns.length := by rw [← hg.1]; exact hi
  have h2 := ht.low i ns[i] (List.getElem?_eq_getElem hi2)
  have hf := ht.few
  rw [h1.l] at hj ⊢
  rw [List.length_map] at hj
  have e : ns.getD i nd0 = ns[i] := by rw [List.getD_eq_getElem?_getD, List.getElem?_eq_getElem hi2]; rfl
  rw [e] at hj ⊢
  rw [List.getD_eq_getElem?_getD, List.getElem?_map, List.getElem?_eq_getElem hj]
  have := h2.2 _ (List.getElem_mem hj)
  show 0 ≤ ((ns[i].l[j] : Nat) : Int) ∧ ((ns[i].l[j] : Nat) : Int) < 1024
  omega
/-- Both so far: the first nodes, and i of the others. -/
structure PrS (w : World) (gx gy : List Gd) (i : Nat) (ov : Value) (l : List NR) (wr : World) : Prop where
  own : wr.ownsRow w.heap.size 41 9 ov l.length (nodesC l)
  map : l.map (·.1) = gx ++ (gy.take i).map (shfG gx.length)
  kid : ∀ x ∈ l, Its wr w.heap.size x.2.1 x.1.l ∨ wr.ownsRow w.heap.size 3 1 (.slice x.2.1 x.1.l.length x.2.2) x.1.l.length (ints x.1.l)
  bel : Below w.heap.size w wr
theorem PrS.len {w : World} {gx gy : List Gd} {i : Nat} {ov : Value} {l : List NR} {wr : World} (h : PrS w gx gy i ov l wr) (hi : i ≤ gy.length) : l.length = gx.length + i := by
  have := congrArg List.length h.map
  rw [List.length_map, List.length_append, List.length_map, List.length_take] at this
  omega
theorem PrS.its {w : World} {gx gy : List Gd} {i : Nat} {ov : Value} {l : List NR} {wr : World} (h : PrS w gx gy i ov l wr) : ∀ x ∈ l, Its wr wr.heap.size x.2.1 x.1.l := fun x hx => by
  rcases h.kid x hx with q | q
  · exact q.more h.bel.size
  · exact its_own q rfl
/-- The first nodes, copied. -/
theorem PrS.first {w w' : World} {gx gy : List Gd} {v : Value} {l : List NR} (hm : l.map (·.1) = gx) (hI : ∀ x ∈ l, Its w w.heap.size x.2.1 x.1.l) (ho : w'.ownsRow w.heap.size 41 9 v l.length (nodesC l)) (hb : Below w.heap.size w w') : PrS w gx gy 0 v l w' :=
  ⟨ho, by rw [hm]; simp, fun x hx => .inl ((hI x hx).below hb), hb⟩
theorem PrS.next {w : World} {gx gy : List Gd} {i : Nat} {ov v' : Value} {l : List NR} {wr u w7 : World} {g : Gd} {A : Option Addr} {c k : Nat} (h : PrS w gx gy i ov l wr) (hi : i < gy.length) (hg : gy.getD i gd0 = g) (hb : Below wr.heap.size wr u)
    (ho : u.ownsRow w.heap.size 3 1 (.slice A g.l.length c) g.l.length (ints (g.l.map fun k => k + (gx.length : Int)))) (hk : l.length = k) (hgr : u.grownBy w7 ov.ownBlock) (h7 : w7.ownsRow w.heap.size 41 9 v' (k + 1) (nodesC l ++ gdL (shfG gx.length g) A c)) : PrS w gx gy (i + 1) v' (l ++ [(shfG gx.length g, A, c)]) w7 := by
  have hown := own_below h.own hb (Nat.le_refl _)
  refine ⟨own_last (k := k) h7 hk, ?_, fun x hx => ?_, ?_⟩
  · rw [List.map_append, h.map, takeG_snoc hi, List.map_append, hg]
    simp
  · rcases List.mem_append.1 hx with q | q
    · rcases h.kid x q with r | r
      · left
        have b2 : Below w.heap.size u w7 := bel_row (Below.refl _ _) (Nat.le_trans h.bel.size hb.size) hgr (fun k hk => (hown.lt k hk).1)
        exact (r.below (hb.mono h.bel.size)).below b2
      · right
        have k1 := own_below r hb (Nat.le_refl _)
        exact own_kept k1 hgr (fun k hk => fun r => own_apart hown k1 (by decide) k hk r)
    · rw [List.mem_singleton] at q
      subst q
      right
      have e : (shfG gx.length g).l.length = g.l.length := by simp [shfG, withG]
      have ho2 : u.ownsRow w.heap.size 3 1 (.slice A (shfG gx.length g).l.length c) (shfG gx.length g).l.length (ints (shfG gx.length g).l) := by rw [e]; exact ho
      exact own_kept ho2 hgr (fun k hk => fun r => own_apart hown ho2 (by decide) k hk r)
  · exact bel_row (h.bel.trans (hb.mono h.bel.size)) (Nat.le_trans h.bel.size hb.size) hgr (fun k hk => (hown.lt k hk).1)
theorem ints_snoc (xs : List Int) (v : Int) : ints xs ++ [.int .i64 v] = ints (xs ++ [v]) := by simp [ints]
theorem takeI_snoc {xs : List Int} {k : Nat} (hk : k < xs.length) : xs.take (k + 1) = xs.take k ++ [xs.getD k 0] := by
  rw [List.take_add_one, List.getElem?_eq_getElem hk, List.getD_eq_getElem?_getD, List.getElem?_eq_getElem hk]
  rfl
/-- One behind a full slice: a new row. -/
theorem wp_append_full {P : Program} {w : World} {o : Oper} {a : Act} {K : Act → World → Prop} {Q : Exit → Act → World → Prop} (s x : Operand) (t : TypeId) (hop : o.op = Op.call { callee := Callee.builtin Builtin.append, args := #[s, x], argTypes := #[t, t] })
    (e : TypeId) (i : TypeInfo) (z : Value) (size bytes : Nat) (h1 : P.underlying t = some (.slice e)) (h2 : P.info? e = some i) (h3 : i.zero = some z) (h4 : i.size = size) (h5 : i.bytes = bytes) (h6 : z.cells.size = size) (h7 : 0 < size)
    (b : Addr) (n : Nat) (olds : List Value) (hs : a.eval s = .slice (some b) n n) (hlo : olds.length = n * size) (holds : ∀ j u, olds[j]? = some u → w.cell? (b.add j) = some u)
    (ad : Addr) (m c : Nat) (news : List Value) (hx : a.eval x = .slice (some ad) m c) (hn : news.length = m * size) (hc : ∀ j u, news[j]? = some u → w.cell? (ad.add j) = some u)
    (hm : 0 < m) (b1 : n + m ≤ maxLen) (b2 : (n + m) * bytes ≤ 140737488355328)
    (hK : ∀ v' w', w'.ownsRow w.heap.size e size v' (n + m) (olds ++ news) → w.grownBy w' none → K (a.put o.dst v') w') : o.wp P a w K Q := by
  obtain ⟨v', w', hrun, r1, r2⟩ := run_append_arg_grows (P := P) w t o.type e i z size bytes h1 h2 h3 h4 h5 h6 h7 b n n olds hlo holds ad m c news hn hc (by omega) b1 b2
  unfold Oper.wp
  simp [execOp, hop, resolve, invoke, builtin, hs, hx, hrun, Result.andThen]
  exact hK v' w' r1 r2
theorem grown_none {w w' : World} (h : w.grownBy w' none) : Below w.heap.size w w' := bel_row (Below.refl _ _) (Nat.le_refl _) h (fun k hk => by cases hk)
/-- Nullable of nodes and one more. -/
theorem null_full {u u' : World} {l : List NR} {x : NR} {v' : Value} {k : Nat} (hk : l.length = k) (hI : ∀ y ∈ l, Its u u.heap.size y.2.1 y.1.l) (hX : Its u u.heap.size x.2.1 x.1.l) (h : u'.ownsRow u.heap.size 41 9 v' (k + 1) (nodesC l ++ gdL x.1 x.2.1 x.2.2)) (hg : u.grownBy u' none) {ns : List Nd} (hG : GN (l.map (·.1) ++ [x.1]) ns) (ht : TreeN ns) :
    Calls Try.prog 14 #[v'] u' fun e w' => e = .returned (.bool (nulN ns)) ∧ Below u'.heap.size u' w' := by
  have hb := grown_none hg
  have hG2 : GN ((l ++ [x]).map (·.1)) ns := by rw [List.map_append]; exact hG
  obtain ⟨A, c, hv, hN, hc⟩ := own_nds (own_last (x := x) h hk) (fun y hy => by
    rcases List.mem_append.1 hy with q | q
    · exact ((hI y q).below hb).more hb.size
    · rw [List.mem_singleton] at q
      subst q
      exact (hX.below hb).more hb.size)
  have h2 := null_ok A c ((l ++ [x]).map (·.1)) ns u' hN hG2 ht
  rw [hv]
  rw [List.length_map] at h2
  exact h2
theorem pair_nodes {gx gy : List Gd} {ns ms : List Nd} (hx : GN gx ns) (hy : GN gy ms) (tx : TreeN ns) (ty : TreeN ms) (hl : ns.length + ms.length < 1024) {g : Gd} {n : Nd} (h1 : GN1 g n) (hs : shapeB n = true) (hn : n.l = [ns.length - 1, ns.length + ms.length - 1]) : GN (gx ++ gy.map (shfG gx.length) ++ [g]) (ns ++ ms.map (shN ns.length) ++ [n]) ∧ TreeN (ns ++ ms.map (shN ns.length) ++ [n]) :=
  ⟨gn_snoc (gn_app hx (by rw [hx.1]; exact gn_shf hy _)) h1, both_tree tx ty hl hs hn⟩
theorem two_kids {ns ms : List Nd} {k kk : Nat} (h1 : ns.length = k) (h2 : ns.length + ms.length = kk) (p1 : 1 ≤ ns.length) : [(k : Int) - 1, (kk : Int) - 1] = [ns.length - 1, ns.length + ms.length - 1].map fun k : Nat => (k : Int) := by
  show _ = [((ns.length - 1 : Nat) : Int), ((ns.length + ms.length - 1 : Nat) : Int)]
  congr 1
  · omega
  · congr 1
    omega
end Go.Proofs.Ytgppanbikfobbaa.Sy.Ap

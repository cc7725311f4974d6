/- NormName: a name alone; names that nothing has, or that stand for themselves. -/
import Derived.Test.YtgppanbikfobbaaAu
namespace Go.Proofs.Ytgppanbikfobbaa.Sy.Ap
open Go.RowKit
set_option maxRecDepth 100000
set_option linter.unusedVariables false

abbrev aA : ByteArray := { data := #[97] }
abbrev bA : ByteArray := { data := #[98] }
abbrev cA : ByteArray := { data := #[99] }
abbrev eA : ByteArray := { data := #[101] }
abbrev fA : ByteArray := { data := #[102] }
def nmD (ns : List Nd) : List Df := [([97], ns), ([98], [ndRef [97]]), ([99], [ndRef [99]]), ([100], [ndRef [101]]), ([101], [ndRef [100]])]
def nmG (gs : List Gd) : List DG := [(aA, gs), (bA, [refG aA]), (cA, [refG cA]), (dA, [refG eA]), (eA, [refG dA])]
theorem ref_tree {m : List Nat} (h : shapeB (ndRef m) = true) : TreeN [ndRef m] := lone_tree h rfl
theorem gn_ref1 (b : ByteArray) : GN [refG b] [ndRef (bs b)] := ⟨rfl, fun i hi => by
  have : i = 0 := by simp at hi; omega
  subst this
  exact gn_ref b⟩
theorem nm_gd {gs : List Gd} {ns : List Nd} (hg : GN gs ns) (ht : TreeN ns) : GD (nmG gs) (nmD ns) :=
  GD.cons (GD.cons (GD.cons (GD.cons (GD.cons gd_nil rfl (gn_ref1 dA) (ref_tree rfl)) rfl (gn_ref1 eA) (ref_tree rfl)) rfl (gn_ref1 cA) (ref_tree rfl)) rfl (gn_ref1 aA) (ref_tree rfl)) rfl hg ht
theorem nm_right {gs : List Gd} {ns : List Nd} (hg : GN gs ns) (ht : TreeN ns) : RightDs (nmG gs) := by
  refine ⟨fun d hd => ?_, ?_⟩
  · unfold nmG at hd
    simp only [List.mem_cons, List.not_mem_nil, or_false] at hd
    rcases hd with rfl | rfl | rfl | rfl | rfl
    · exact ⟨rfl, tree_rg hg ht⟩
    · exact ⟨rfl, tree_rg (gn_ref1 aA) (ref_tree rfl)⟩
    · exact ⟨rfl, tree_rg (gn_ref1 cA) (ref_tree rfl)⟩
    · exact ⟨rfl, tree_rg (gn_ref1 eA) (ref_tree rfl)⟩
    · exact ⟨rfl, tree_rg (gn_ref1 dA) (ref_tree rfl)⟩
  · unfold nmG
    simp only [List.pairwise_cons, List.mem_cons, List.not_mem_nil, or_false, forall_eq_or_imp, forall_eq]
    refine ⟨⟨by decide, by decide, by decide, by decide⟩, ⟨by decide, by decide, by decide⟩, ⟨by decide, by decide⟩, by decide, fun _ h => h.elim, List.Pairwise.nil⟩
theorem nm_twice {gs : List Gd} : ¬ RightDs (nmG gs ++ [(aA, gs)]) := fun h => by
  have := h.2
  rw [List.pairwise_append] at this
  exact this.2.2 (aA, gs) (by unfold nmG; simp) (aA, gs) (by simp) rfl
theorem nm_b {ns : List Nd} (ht : TreeN ns) (hp : PlainN ns) : expN [ndRef [98]] (nmD ns) = .ok ns := by
  unfold expN
  have f1 : findD (nmD ns) [98] = some [ndRef [97]] := rfl
  have f2 : findD (remD (nmD ns) (ndRef [98]).name) [97] = some ns := rfl
  rw [exF_some (n := ndRef [98]) rfl f1, exF_some (n := ndRef [97]) rfl f2, exF_stays ht hp]
  simp only [exF_nil]
theorem nm_c (ns : List Nd) : expN [ndRef [99]] (nmD ns) = .error 61 := by
  unfold expN
  have f1 : findD (nmD ns) [99] = some [ndRef [99]] := rfl
  have f2 : findD (remD (nmD ns) (ndRef [99]).name) [99] = none := rfl
  rw [exF_some (n := ndRef [99]) rfl f1, exF_none (n := ndRef [99]) rfl f2]
  rfl
theorem nm_d (ns : List Nd) : expN [ndRef [100]] (nmD ns) = .error 61 := by
  unfold expN
  have f1 : findD (nmD ns) [100] = some [ndRef [101]] := rfl
  have f2 : findD (remD (nmD ns) (ndRef [100]).name) [101] = some [ndRef [100]] := rfl
  have f3 : findD (remD (remD (nmD ns) (ndRef [100]).name) (ndRef [101]).name) [100] = none := rfl
  rw [exF_some (n := ndRef [100]) rfl f1, exF_some (n := ndRef [101]) rfl f2, exF_none (n := ndRef [100]) rfl f3]
  rfl
theorem nm_f (ns : List Nd) : expN [ndRef [102]] (nmD ns) = .error 60 := by
  unfold expN
  have f1 : findD (nmD ns) [102] = none := rfl
  rw [exF_none (n := ndRef [102]) rfl f1]
  rfl
theorem nm_size {gs : List Gd} : ∀ d ∈ nmG gs, d.1.size ≤ maxLen := fun d hd => by
  unfold nmG at hd
  simp only [List.mem_cons, List.not_mem_nil, or_false] at hd
  unfold maxLen
  rcases hd with rfl | rfl | rfl | rfl | rfl <;> (show 1 ≤ _; omega)
theorem nm_dok {gs : List Gd} {ns : List Nd} (hg : GN gs ns) (ht : TreeN ns) : DOk (nmG gs) := dok_of (nm_gd hg ht) (by show 5 ≤ 1000; omega) nm_size
theorem nm_dok2 {gs : List Gd} {ns : List Nd} (hg : GN gs ns) (ht : TreeN ns) : DOk (nmG gs ++ [(aA, gs)]) := by
  have h := nm_dok hg ht
  have hm : ∀ d ∈ nmG gs ++ [(aA, gs)], d ∈ nmG gs := fun d hd => by
    rcases List.mem_append.1 hd with q | q
    · exact q
    · rw [List.mem_singleton] at q
      subst q
      unfold nmG
      simp
  exact ⟨by show 6 ≤ 1000; omega, fun d hd => h.nm d (hm d hd), fun d hd => h.few d (hm d hd), fun d hd => h.nds d (hm d hd)⟩
section
variable {P : Program} {ops : Array Oper} {rest : List Oper} {o : Oper} {a : Act} {w : World} {Q : Exit → Act → World → Prop}
/-- An operation behind a guard that is met. -/
theorem wpList_wanted (hw : Region.wanted o (yielded ops a.tmps) = true) (h : ∀ K : Act → World → Prop, (∀ a w, wpList P ops Q rest a w → K a w) → o.wp P a w K Q) : wpList P ops Q (o :: rest) a w :=
  wpList_step fun K hK => by rw [if_pos hw]; exact h K hK
theorem load_midG (hw : Region.wanted o (yielded ops a.tmps) = true) (ty : TypeId) (x : Operand) (ho : o.op = .load ty x)
    (b off : Nat) (hx : a.eval x = .pointer (some ⟨b, off, none⟩)) (cs : List Value) (d : TypeDesc) (hc : w.rangeAt b off cs)
    (hu : P.underlying ty = some d) (hd : d.isRow = true) (hi : (P.info? ty).map (·.size) = some cs.length)
    (h : wpList P ops Q rest (a.put o.dst (.agg cs.toArray)) w) : wpList P ops Q (o :: rest) a w :=
  wpList_wanted hw fun _ hK => wp_load_mid ty x ho b off hx cs d hc hu hd hi (hK _ _ h)
theorem append_liesG (hw : Region.wanted o (yielded ops a.tmps) = true) (s x : Operand) (t : TypeId)
    (ho : o.op = .call { callee := .builtin .append, args := #[s, x], argTypes := #[t, t] })
    (base : Nat) (e : TypeId) (i : TypeInfo) (z : Value) (size bytes : Nat) (ht : P.underlying t = some (.slice e)) (hi : P.info? e = some i) (hz : i.zero = some z)
    (hsize : i.size = size) (hby : i.bytes = bytes) (hzs : z.cells.size = size) (hsz : 0 < size)
    (v : Value) (n : Nat) (xs : List Value) (hs : a.eval s = v) (hown : w.ownsRow base e size v n xs)
    (ad : Addr) (m c : Nat) (news : List Value) (hx : a.eval x = .slice (some ad) m c) (hl : news.length = m * size) (hnews : ∀ j u, news[j]? = some u → w.cell? (ad.add j) = some u) (h1 : ∀ u ∈ news, u.oneCell' = true)
    (hm : 0 < m) (h63 : n + m ≤ maxLen) (hbytes : (n + m) * bytes ≤ 140737488355328) (hbase : base ≤ w.heap.size) (H : Nat) (hH : w.heap.size = H)
    (h : ∀ g cap w', w'.ownsRow base e size (.slice (some ⟨g, 0, none⟩) (n + m) cap) (n + m) (xs ++ news) → w.grownBy w' v.ownBlock → (v.ownBlock = some g ∨ g = H) → g < w'.heap.size → wpList P ops Q rest (a.put o.dst (.slice (some ⟨g, 0, none⟩) (n + m) cap)) w') : wpList P ops Q (o :: rest) a w :=
  wpList_wanted hw fun _ hK => wp_append_lies w s x t ho base e i z size bytes ht hi hz hsize hby hzs hsz v n xs hs hown ad m c news hx hl hnews h1 hm h63 hbytes hbase H hH fun g cap w' h2 h3 h4 h5 => hK _ _ (h g cap w' h2 h3 h4 h5)
end
/-- The five Defs in a row of our own. -/
structure NmS (w : World) (gs : List Gd) (A : Option Addr) (b : Nat) (l : List DR) (wr : World) : Prop where
  nds : Nds wr wr.heap.size A gs
  map : l.map (·.1) = nmG gs
  its : ∀ x ∈ l, Nds wr b x.2.1 x.1.2 ∧ x.1.2.length ≤ x.2.2
  lt : b < wr.heap.size
  own : wr.ownsRow w.heap.size 35 2 (.slice (some ⟨b, 0, none⟩) 5 5) 5 (dfsC l)
  bel : Below w.heap.size w wr
theorem NmS.len {w : World} {gs : List Gd} {A : Option Addr} {b : Nat} {l : List DR} {wr : World} (h : NmS w gs A b l wr) : l.length = 5 := by
  have := h.map
  rw [← List.length_map (f := (·.1)), this]
  rfl
theorem NmS.next {w : World} {gs : List Gd} {A : Option Addr} {b : Nat} {l : List DR} {wr w' : World} (h : NmS w gs A b l wr) (hb : Below wr.heap.size wr w') : NmS w gs A b l w' :=
  ⟨(h.nds.below hb).more hb.size, h.map, fun x hx => ⟨(h.its x hx).1.below (hb.mono (Nat.le_of_lt h.lt)), (h.its x hx).2⟩, Nat.lt_of_lt_of_le h.lt hb.size, own_below h.own hb (Nat.le_refl _), h.bel.trans (hb.mono h.bel.size)⟩
theorem NmS.dfs {w : World} {gs : List Gd} {A : Option Addr} {b : Nat} {l : List DR} {wr : World} (h : NmS w gs A b l wr) : Dfs wr wr.heap.size (some ⟨b, 0, none⟩) (nmG gs) := by
  have ho := h.own
  have hl := h.len
  obtain ⟨A2, c2, hv, hD⟩ := dfs_own (l := l) (v := .slice (some ⟨b, 0, none⟩) 5 5) (B2 := wr.heap.size) (by rw [hl]; exact ho) (fun k hk => (ho.lt k hk).2) (fun x hx => ⟨(h.its x hx).1.more (Nat.le_of_lt h.lt), (h.its x hx).2⟩)
  rw [h.map] at hD hv
  cases hv
  exact hD
theorem NmS.call {w : World} {gs : List Gd} {ns : List Nd} {A : Option Addr} {b : Nat} {l : List DR} {wr : World} (h : NmS w gs A b l wr) (hg : GN gs ns) (ht : TreeN ns) {A7 : Option Addr} {q : ByteArray} (hN : Nds wr wr.heap.size A7 [refG q]) (hq : shapeB (ndRef (bs q)) = true) :
    Calls Try.prog 6 #[.slice A7 1 1, .slice (some ⟨b, 0, none⟩) 5 5] wr fun e w' => XpR wr (expN [ndRef (bs q)] (nmD ns)) e w' :=
  xpand_ok A7 1 [refG q] [ndRef (bs q)] (some ⟨b, 0, none⟩) 5 (nmG gs) (nmD ns) wr hN (Nat.le_refl _) (gn_sm (gn_ref1 q) (ref_tree hq)) h.dfs (nm_dok hg ht) (gn_ref1 q) (ref_tree hq) (nm_right hg ht) (nm_gd hg ht)
end Go.Proofs.Ytgppanbikfobbaa.Sy.Ap

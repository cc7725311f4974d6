/- NormOrder: the loop that turns Defs round, and folds them. -/
import Derived.Test.YtgppanbikfobbaaAz
namespace Go.Proofs.Ytgppanbikfobbaa.Sy.Ap
open Go.RowKit
set_option maxRecDepth 100000
set_option linter.unusedVariables false

open Classical in
/-- What Fold makes of any nodes. -/
noncomputable def gF (gs : List Gd) : List Gd := if RightG gs then gs.map foldG else []
theorem gF_yes {gs : List Gd} (h : RightG gs) : gF gs = gs.map foldG := if_pos h
theorem gF_no {gs : List Gd} (h : ¬ RightG gs) : gF gs = [] := if_neg h
theorem fold_all (A : Option Addr) (c : Nat) (gs : List Gd) (w : World) (hN : Nds w w.heap.size A gs) (hl : gs.length ≤ 2000) (hsm : Small gs) :
    Calls Try.prog 12 #[.slice A gs.length c] w fun e w' => (∃ A', e = .returned (.slice A' (gF gs).length (gF gs).length) ∧ NdT w' A' (gF gs)) ∧ Below w.heap.size w w' := by
  by_cases h : RightG gs
  · obtain ⟨ns, hg, ht⟩ := gn_tree h
    refine (fold_okT A c gs ns w hN hg ht).mono ?_
    rintro e w' ⟨hb, A', h1, h2⟩
    rw [gF_yes h]
    exact ⟨⟨A', by rw [List.length_map]; exact h1, h2⟩, hb⟩
  · refine (fold_bad A c gs w hN hl hsm h).mono ?_
    rintro e w' ⟨hb, h1⟩
    rw [gF_no h]
    exact ⟨⟨none, h1, fun q => absurd rfl q⟩, hb⟩
/-- A Def with a folded tree, in a row of its own. -/
def FdV (gs : List Gd) (v : Value) (u : World) : Prop := ∃ A, v = .slice A (gF gs).length (gF gs).length ∧ NdT u A (gF gs)
def FdA (d : DG) (v : Value) (u : World) : Prop := ∃ A, v = .agg #[.string d.1, .slice A (gF d.2).length (gF d.2).length] ∧ NdT u A (gF d.2)
def FdW (d : DG) (v : Value) (u : World) : Prop := ∃ q A, v = .slice (some ⟨q, 0, none⟩) 1 1 ∧ RowA u q 35 #[.string d.1, .slice A (gF d.2).length (gF d.2).length] ∧ NdT u A (gF d.2)
theorem FdV.below {gs : List Gd} {v : Value} {u u' : World} (h : FdV gs v u) (hb : Below u.heap.size u u') : FdV gs v u' := by
  obtain ⟨A, h1, h2⟩ := h
  exact ⟨A, h1, h2.below hb⟩
theorem FdA.below {d : DG} {v : Value} {u u' : World} (h : FdA d v u) (hb : Below u.heap.size u u') : FdA d v u' := by
  obtain ⟨A, h1, h2⟩ := h
  exact ⟨A, h1, h2.below hb⟩
theorem FdW.below {d : DG} {v : Value} {u u' : World} (h : FdW d v u) (hb : Below u.heap.size u u') : FdW d v u' := by
  obtain ⟨q, A, h1, h2, h3⟩ := h
  exact ⟨q, A, h1, h2.below hb h2.lt, h3.below hb⟩
theorem FdW.make {d : DG} {A : Option Addr} {u : World} (h : NdT u A (gF d.2)) : FdW d (.slice (some ⟨u.heap.size, 0, none⟩) 1 1) (u.alloc (.cells #[.string d.1, .slice A (gF d.2).length (gF d.2).length] 35)) :=
  ⟨_, A, rfl, RowA.new _ _ _, h.below ((Below.refl _ _).alloc (Nat.le_refl _) _)⟩
structure OrS (w : World) (bx o : Nat) (d : DG) (A : Option Addr) (c : Nat) (u : World) : Prop where
  nd : u.rangeAt bx o (dfL d A c)
  nds : Nds u w.heap.size A d.2
  bel : Below w.heap.size w u
  lt : bx < w.heap.size
theorem OrS.below {w : World} {bx o : Nat} {d : DG} {A : Option Addr} {c : Nat} {u u' : World} (h : OrS w bx o d A c u) (hb : Below u.heap.size u u') : OrS w bx o d A c u' :=
  ⟨fun j v hv => by rw [hb.cell (by have := h.lt; have := h.bel.size; show bx < _; omega)]; exact h.nd j v hv, h.nds.below (hb.mono h.bel.size), h.bel.trans (hb.mono h.bel.size), h.lt⟩
theorem fold_sl {w : World} {bx o : Nat} {d : DG} {A : Option Addr} {c : Nat} {u : World} (hS : OrS w bx o d A c u) (hl : d.2.length ≤ 2000) (hsm : Small d.2) :
    Calls Try.prog 12 #[.slice A d.2.length c] u fun e w' => (∃ v, e = .returned v ∧ FdV d.2 v w') ∧ Below u.heap.size u w' :=
  (fold_all A c d.2 u (hS.nds.more hS.bel.size) hl hsm).mono fun e w' h => by
    obtain ⟨⟨A', h1, h2⟩, h3⟩ := h
    exact ⟨⟨_, h1, A', rfl, h2⟩, h3⟩
/-- So many of both rows: y, the Defs from the last one on; z, those with folded trees. -/
structure OrR (w : World) (ds : List DG) (iy iz : Nat) (yv zv : Value) (ly lz : List DR) (wr : World) : Prop where
  yo : wr.ownsRow w.heap.size 35 2 yv ly.length (dfsC ly)
  zo : wr.ownsRow w.heap.size 35 2 zv lz.length (dfsC lz)
  far : ∀ k, yv.ownBlock = some k → zv.ownBlock ≠ some k
  ym : ly.map (·.1) = ds.reverse.take iy
  zm : lz.map (·.1) = (ds.take iz).map (fun d => (d.1, gF d.2))
  yi : ∀ x ∈ ly, Nds wr w.heap.size x.2.1 x.1.2 ∧ x.1.2.length ≤ x.2.2
  zi : ∀ x ∈ lz, NdT wr x.2.1 x.1.2 ∧ x.1.2.length ≤ x.2.2
  bel : Below w.heap.size w wr
section
variable {w : World} {ds : List DG} {iy iz : Nat} {yv zv : Value} {ly lz : List DR} {wr u w' : World}
theorem OrR.below (h : OrR w ds iy iz yv zv ly lz wr) (hb : Below wr.heap.size wr u) : OrR w ds iy iz yv zv ly lz u :=
  ⟨own_below h.yo hb (Nat.le_refl _), own_below h.zo hb (Nat.le_refl _), h.far, h.ym, h.zm, fun x hx => ⟨(h.yi x hx).1.below (hb.mono h.bel.size), (h.yi x hx).2⟩, fun x hx => ⟨(h.zi x hx).1.below hb, (h.zi x hx).2⟩, h.bel.trans (hb.mono h.bel.size)⟩
theorem rev_at (ds : List DG) {i : Nat} (hi : i < ds.length) : ds.reverse.getD i dg0 = ds.getD (ds.length - 1 - i) dg0 := by
  rw [List.getD_eq_getElem?_getD, List.getElem?_reverse hi, List.getD_eq_getElem?_getD]
/-- y gets one more. -/
theorem OrR.ynext (h : OrR w ds iy iz yv zv ly lz u) (hi : iy < ds.length) {d : DG} (hd : ds.getD (ds.length - 1 - iy) dg0 = d) {A : Option Addr} {c : Nat} (hN : Nds u w.heap.size A d.2) (hc : d.2.length ≤ c) {v' : Value} (hg : u.grownBy w' yv.ownBlock)
    (h7 : w'.ownsRow w.heap.size 35 2 v' (ly.length + 1) (dfsC ly ++ dfL d A c)) (hat : v'.ownBlock = yv.ownBlock ∨ v'.ownBlock = some u.heap.size) : OrR w ds (iy + 1) iz v' zv (ly ++ [(d, A, c)]) lz w' := by
  have hb : Below w.heap.size u w' := bel_row (Below.refl _ _) h.bel.size hg (fun k hk => (h.yo.lt k hk).1)
  refine ⟨?_, own_kept h.zo hg h.far, fun k hk q => ?_, ?_, h.zm, fun x hx => ?_, fun x hx => ⟨(h.zi x hx).1.grown h.yo hg, (h.zi x hx).2⟩, h.bel.trans hb⟩
  · rw [List.length_append, ← dfsC_snoc]
    exact h7
  · rcases hat with e | e
    · exact h.far k (e ▸ hk) q
    · rw [e] at hk
      have := (h.zo.lt k q).2
      have := Option.some.inj hk
      omega
  · rw [List.map_append, h.ym, take_snoc (by rw [List.length_reverse]; exact hi), rev_at ds hi, hd]
    rfl
  · rcases List.mem_append.1 hx with q | q
    · exact ⟨(h.yi x q).1.below hb, (h.yi x q).2⟩
    · rw [List.mem_singleton] at q
      subst q
      exact ⟨hN.below hb, hc⟩
/-- z gets one more. -/
theorem OrR.znext (h : OrR w ds iy iz yv zv ly lz u) (hi : iz < ds.length) {d : DG} (hd : ds.getD iz dg0 = d) {A : Option Addr} (hN : NdT u A (gF d.2)) {v' : Value} (hg : u.grownBy w' zv.ownBlock)
    (h7 : w'.ownsRow w.heap.size 35 2 v' (lz.length + 1) (dfsC lz ++ dfL (d.1, gF d.2) A (gF d.2).length)) (hat : v'.ownBlock = zv.ownBlock ∨ v'.ownBlock = some u.heap.size) : OrR w ds iy (iz + 1) yv v' ly (lz ++ [((d.1, gF d.2), A, (gF d.2).length)]) w' := by
  have hb : Below w.heap.size u w' := bel_row (Below.refl _ _) h.bel.size hg (fun k hk => (h.zo.lt k hk).1)
  refine ⟨own_kept h.yo hg (fun k hk q => h.far k q hk), ?_, fun k hk q => ?_, h.ym, ?_, fun x hx => ⟨(h.yi x hx).1.below hb, (h.yi x hx).2⟩, fun x hx => ?_, h.bel.trans hb⟩
  · rw [List.length_append, ← dfsC_snoc]
    exact h7
  · rcases hat with e | e
    · exact h.far k hk (e ▸ q)
    · rw [e] at q
      have := (h.yo.lt k hk).2
      have := Option.some.inj q
      omega
  · rw [List.map_append, h.zm, take_snoc hi, List.map_append, hd]
    rfl
  · rcases List.mem_append.1 hx with q | q
    · exact ⟨(h.zi x q).1.grown h.zo hg, (h.zi x q).2⟩
    · rw [List.mem_singleton] at q
      subst q
      exact ⟨hN.grown h.zo hg, Nat.le_refl _⟩
/-- Both rows as Defs. -/
theorem OrR.ydfs (h : OrR w ds iy iz yv zv ly lz u) : ∃ A c, yv = .slice A (ds.reverse.take iy).length c ∧ Dfs u u.heap.size A (ds.reverse.take iy) := by
  have := dfs_own (B2 := u.heap.size) h.yo (fun k hk => (h.yo.lt k hk).2) (fun x hx => ⟨(h.yi x hx).1.more h.bel.size, (h.yi x hx).2⟩)
  rw [h.ym] at this
  exact this
theorem OrR.zdfs (h : OrR w ds iy iz yv zv ly lz u) : ∃ A c, zv = .slice A ((ds.take iz).map (fun d => (d.1, gF d.2))).length c ∧ Dfs u u.heap.size A ((ds.take iz).map (fun d => (d.1, gF d.2))) := by
  have := dfs_own (B2 := u.heap.size) h.zo (fun k hk => (h.zo.lt k hk).2) (fun x hx => ⟨(h.zi x hx).1.nds, (h.zi x hx).2⟩)
  rw [h.zm] at this
  exact this
end
/-! ### What Expand tells of both -/
theorem rightDs_rev {ds : List DG} : RightDs ds.reverse ↔ RightDs ds := by
  unfold RightDs
  rw [List.pairwise_reverse]
  constructor
  · rintro ⟨h1, h2⟩
    exact ⟨fun d hd => h1 d (List.mem_reverse.2 hd), h2.imp fun h e => h e.symm⟩
  · rintro ⟨h1, h2⟩
    exact ⟨fun d hd => h1 d (List.mem_reverse.1 hd), h2.imp fun h e => h e.symm⟩
theorem rightDs_fold {ds : List DG} (h : RightDs ds) : RightDs (ds.map (fun d => (d.1, gF d.2))) := by
  refine ⟨fun d hd => ?_, ?_⟩
  · obtain ⟨x, hx, rfl⟩ := List.mem_map.1 hd
    obtain ⟨h1, h2⟩ := h.1 x hx
    obtain ⟨ns, hg, ht⟩ := gn_tree h2
    exact ⟨h1, by show RightG (gF x.2); rw [gF_yes h2]; exact tree_rg (gn_fold hg ht.shp) ht.fold⟩
  · rw [List.pairwise_map]
    exact h.2
theorem gd_fold {ds : List DG} {D : List Df} (h : GD ds D) (hr : RightDs ds) : GD (ds.map (fun d => (d.1, gF d.2))) (foldD D) := by
  refine ⟨by rw [List.length_map, foldD, List.length_map]; exact h.len, fun i hi => ?_, fun x hx => ?_⟩
  · rw [List.length_map] at hi
    have hi2 : i < D.length := by rw [← h.len]; exact hi
    have h1 := h.at_ i hi
    have e1 : ds.getD i dg0 = ds[i] := by rw [List.getD_eq_getElem?_getD, List.getElem?_eq_getElem hi]; rfl
    have e2 : D.getD i df0 = D[i] := by rw [List.getD_eq_getElem?_getD, List.getElem?_eq_getElem hi2]; rfl
    have e3 : (ds.map (fun d => (d.1, gF d.2))).getD i dg0 = (ds[i].1, gF ds[i].2) := by rw [List.getD_eq_getElem?_getD, List.getElem?_map, List.getElem?_eq_getElem hi]; rfl
    have e4 : (foldD D).getD i df0 = (D[i].1, foldL D[i].2) := by unfold foldD; rw [List.getD_eq_getElem?_getD, List.getElem?_map, List.getElem?_eq_getElem hi2]; rfl
    rw [e1, e2] at h1
    rw [e3, e4]
    refine ⟨h1.1, ?_⟩
    show GN (gF ds[i].2) (foldL D[i].2)
    rw [gF_yes (hr.1 _ (List.getElem_mem hi)).2]
    exact gn_fold h1.2 (h.trs _ (List.getElem_mem hi2)).shp
  · unfold foldD at hx
    obtain ⟨y, hy, rfl⟩ := List.mem_map.1 hx
    exact (h.trs y hy).fold
end Go.Proofs.Ytgppanbikfobbaa.Sy.Ap

/- A tree's pattern read again by the landed Parse. -/
import Derived.Test.YtghjkbjpdjlddaaGreatDoorDk
namespace Go.Proofs.YtghjkbjpdjlddaaGreatDoor.Sy.Pn
open Go.RowKit
set_option maxRecDepth 100000
set_option linter.unusedVariables false

theorem name_lt {b : List Nat} (h : nameB b = true) : ∀ c ∈ b, c < 256 := by
  unfold nameB at h
  simp at h
  obtain ⟨⟨h1, h2⟩, h3⟩ := h
  have key : ∀ (l : List Nat) (i : Nat), nameAt i l = true → (∀ c ∈ l, c < 256) := by
    intro l
    induction l with
    | nil => intro _ _ c hc; cases hc
    | cons x l ih =>
      intro i hi c hc
      unfold nameAt at hi
      simp only [Bool.and_eq_true] at hi
      rcases List.mem_cons.1 hc with rfl | hc
      · have := hi.1
        unfold letterB digitB at this
        simp at this
        omega
      · exact ih (i + 1) hi.2 c hc
  exact key b 0 h3
theorem nodeT_lt2 {ns : List Nd} (hSh : Shp ns) : ∀ (f : Nat) (n : Nd), (shapeB n = true ∨ n = nd0) → ∀ x ∈ nodeT ns f n, x < 256
  | 0, _, _ => fun x hx => by cases hx
  | f + 1, n, hn => by
    have hk : ∀ i, ∀ x ∈ kidT ns f n i, x < 256 := fun i => by
      unfold kidT
      refine (wrapT_fit (nodeT_lt2 hSh f _ ?_)).1
      by_cases hi : n.l.getD i 0 < ns.length
      · left
        have h1 : ns[n.l.getD i 0]? = some ns[n.l.getD i 0] := List.getElem?_eq_getElem hi
        rw [getD_of h1]
        exact hSh _ (List.getElem_mem hi)
      · right
        rw [List.getD_eq_getElem?_getD, List.getElem?_eq_none (by omega)]
        rfl
    rw [nodeT_succ]
    rcases hn with hn | rfl
    · have h5 := shape_op5 hn
      have hnm : n.op = 6 → nameB n.name = true := fun o => by
        rcases shape_kind hn with h | h | h | h | h | h
        · omega
        · omega
        · omega
        · omega
        · omega
        · exact h.2.2
      unfold headT
      intro x hx
      split at hx
      · exact (setT_fit n.s).1 x hx
      · split at hx
        · rename_i o
          simp only [List.mem_cons, List.mem_append, List.not_mem_nil, or_false] at hx
          rcases hx with rfl | hx | rfl
          · omega
          · exact name_lt (hnm o) x hx
          · omega
        · split at hx
          · rename_i o
            have := h5 o
            rcases List.mem_append.1 hx with hx | hx
            · exact kidsT_fit (by simp) (by simp) _ (fun i _ => hk i) x hx
            · exact (timesT_fit (by omega) (by omega)).1 x hx
          · split at hx
            · exact kidsT_fit (by simp) (by simp) _ (fun i _ => hk i) x hx
            · split at hx
              · exact kidsT_fit (by simp) (by simp) _ (fun i _ => hk i) x hx
              · cases hx
    · intro x hx
      have e : headT (kidT ns f nd0) nd0 = [] := rfl
      rw [e] at hx
      cases hx
theorem treeT_lt {ns : List Nd} (hSh : Shp ns) (hp : 1 ≤ ns.length) : ∀ x ∈ treeT ns, x < 256 := by
  unfold treeT
  refine nodeT_lt2 hSh _ _ (.inl ?_)
  have hi : ns.length - 1 < ns.length := by omega
  have h1 : ns[ns.length - 1]? = some ns[ns.length - 1] := List.getElem?_eq_getElem hi
  rw [getD_of h1]
  exact hSh _ (List.getElem_mem hi)
theorem gn_ne {gs : List Gd} {ns ms : List Nd} (h : GN gs ms) (e : NE ns ms) : GN gs ns :=
  ⟨h.1.trans e.1.symm, fun i hi => by
    have a := h.2 i hi
    have b := e.2 i
    exact ⟨a.op.trans (by rw [b.op]), fun x hx => (a.s x hx).trans (b.s x hx).symm, a.l.trans (by rw [b.l]), a.lo.trans b.lo.symm, a.hi.trans b.hi.symm, a.nm.trans b.name.symm⟩⟩
/-- What Parse tells of a tree's pattern, in memory. -/
theorem parse_again {gs : List Gd} {ns : List Nd} (h : RN gs ns) (h40 : (treeT ns).count 40 ≤ 64) (hlen : (treeT ns).length ≤ 1024) (w : World) (hE : EV w) :
    Calls Tryz.prog 10 #[.string (txt (treeT ns))] w fun e w' => ∃ A c gs', e = .returned (.tuple #[.slice A gs'.length c, .int .i64 0, .int .i64 0]) ∧ Nds w' w'.heap.size A gs' ∧ GN gs' ns ∧ Below w.heap.size w w' := by
  have hp : parse (bs (txt (treeT ns))) = .ok (ns.map cN) := by
    rw [bs_txt (treeT_lt h.shp h.pos)]
    exact parse_print h.shp h.pos h.len h.tree h40 hlen
  refine (parseC.ok (by rw [txt_size]; omega) hp w hE).mono ?_
  rintro e w' ⟨A, c, gs', h1, h2, h3, h4⟩
  exact ⟨A, c, gs', h1, h2, gn_ne h3 (ne_map h.shp), h4⟩
theorem same_gn {gs gs' : List Gd} {ns : List Nd} (h : RN gs ns) (h' : GN gs' ns) (A A2 : Option Addr) (c c2 : Nat) (w : World) (hx : Nds w w.heap.size A gs) (hy : Nds w w.heap.size A2 gs') :
    Calls Tryz.prog 11 #[.slice A gs.length c, .slice A2 gs'.length c2] w fun e w' => e = .returned (.bool true) ∧ Below w.heap.size w w' := by
  refine same_any A A2 c c2 gs gs' w hx hy (h.gn.leq h') (by have := h.gn.1; have := h.len; omega) (fun g hg => ?_)
  obtain ⟨i, hi, rfl⟩ := List.getElem_of_mem hg
  have hl := h.gn.1
  have e1 : gs[i] = gs.getD i gd0 := by rw [List.getD_eq_getElem?_getD, List.getElem?_eq_getElem hi]; rfl
  have hg := h.gn.2 i hi
  obtain ⟨n, e, hn, hF⟩ := forest_kids h.tree i (Nat.zero_le _) (by omega)
  have := forest_len hF
  rw [e1, hg.l, List.length_map, getD_of hn]
  have := h.len
  omega
end Go.Proofs.YtghjkbjpdjlddaaGreatDoor.Sy.Pn

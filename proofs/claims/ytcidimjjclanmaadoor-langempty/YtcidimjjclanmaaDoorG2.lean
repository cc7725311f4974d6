/- Texts laid as one: Aq At Au Av Aw Ax Ay Az As Bc Bf Bb Rs Bg. -/
import Derived.Test.YtcidimjjclanmaaDoorAo
import Derived.ArgAppend
import Derived.Test.YtcidimjjclanmaaDoorRr

/- Rows of nodes that a law makes; NormLong's trees. -/
namespace Go.Proofs.YtcidimjjclanmaaDoor.Sy.Ap
open Go.RowKit
set_option maxRecDepth 100000
set_option linter.unusedVariables false

theorem its_own {w : World} {base n c : Nat} {A : Option Addr} {xs : List Int} (h : w.ownsRow base 3 1 (.slice A n c) n (ints xs)) (hn : xs.length = n) : Its w w.heap.size A xs := fun hne => by
  have hpos : 0 < n := by
    rcases Nat.eq_zero_or_pos xs.length with q | q
    · exact absurd (List.eq_nil_of_length_eq_zero q) hne
    · omega
  obtain ⟨q, cq, hq, _, hlt⟩ := own_pos h hpos
  have hA : A = some ⟨q, 0, none⟩ := by injection hq
  refine ⟨q, 0, hA, hlt, fun j hj => ?_⟩
  have := h.cells (g := q) (by rw [hq]; rfl) j (.int .i64 (xs.getD j 0)) (by
    unfold ints
    rw [List.getElem?_map, List.getElem?_eq_getElem hj, List.getD_eq_getElem?_getD, List.getElem?_eq_getElem hj]
    rfl)
  rw [addr_add] at this
  rw [Nat.zero_add]
  exact this
theorem own_nds {w : World} {B : Nat} {v : Value} {l : List NR} (h : w.ownsRow B 43 9 v l.length (nodesC l)) (hk : ∀ x ∈ l, Its w w.heap.size x.2.1 x.1.l) : ∃ A c, v = .slice A l.length c ∧ Nds w w.heap.size A (l.map (·.1)) ∧ l.length ≤ c := by
  obtain ⟨A, c, hv⟩ := own_form h
  have hcap := own_cap (by rw [hv] at h; exact h)
  rcases Nat.eq_zero_or_pos l.length with h0 | h0
  · refine ⟨A, c, hv, fun hne => absurd ?_ hne, hcap⟩
    rw [List.eq_nil_of_length_eq_zero h0]
    rfl
  · obtain ⟨g, c', hv', _, hg⟩ := own_pos h h0
    rw [hv] at hv'
    cases hv'
    refine ⟨_, c, hv, fun _ => ⟨g, 0, rfl, hg, fun i hi => ?_⟩, hcap⟩
    rw [List.length_map] at hi
    have hx : l[i]? = some l[i] := List.getElem?_eq_getElem hi
    have e : (l.map (·.1)).getD i gd0 = l[i].1 := by rw [List.getD_eq_getElem?_getD, List.getElem?_map, hx]; rfl
    rw [e]
    refine ⟨l[i].2.1, l[i].2.2, hk _ (List.getElem_mem hi), fun j u hu => ?_⟩
    have hj : j < 9 := by
      rcases Nat.lt_or_ge j 9 with h | h
      · exact h
      · rw [List.getElem?_eq_none (by rw [gdL_len]; exact h)] at hu; cases hu
    have := h.cells (g := g) (by rw [hv]; rfl) (i * 9 + j) u (by rw [nodesC_at l i j _ hx hj]; exact hu)
    rw [Nat.zero_add]
    rw [addr_add] at this
    exact this
/-- Leaves, and a node over them all. -/
theorem leaves_forest : ∀ (L : List Nd), (∀ n ∈ L, n.l = []) → Forest L 0 L.length (List.range L.length) := by
  intro L
  have key : ∀ i, i ≤ L.length → (∀ n ∈ L, n.l = []) → Forest L 0 i (List.range i) := by
    intro i
    induction i with
    | zero => intro _ _; exact .nil 0
    | succ i ih =>
      intro hi hL
      have hx : L[i]? = some L[i] := List.getElem?_eq_getElem (by omega)
      rw [List.range_succ]
      exact .snoc (ih (by omega) hL) hx (by rw [hL _ (List.getElem_mem (by omega))]; exact .nil _)
  exact key L.length (Nat.le_refl _)
theorem leaves_tree {L : List Nd} {n : Nd} (hL : ∀ m ∈ L, m.l = []) (hs : Shp L) (hn : shapeB n = true) (hl : n.l = List.range L.length) (hf : L.length < 1024) : TreeN (L ++ [n]) := by
  refine ⟨hs.put hn, by simp, by simp; omega, ?_⟩
  have f4 := Forest.put (xs := []) (ys := n.l) (n := n) (ns := L) (a := 0) (by rw [hl]; exact leaves_forest L hL) rfl
  rw [show (L ++ [n]).length - 1 = L.length from by simp]
  exact f4
theorem lone_tree {n : Nd} (hn : shapeB n = true) (hl : n.l = []) : TreeN [n] := by
  refine ⟨fun m hm => by rw [List.mem_singleton] at hm; subst hm; exact hn, by simp, by simp, ?_⟩
  exact .snoc (.nil 0) (n := n) rfl (by rw [hl]; exact .nil 0)
/-! ### NormLong's trees -/
def s1 : Nat → Bool := oneB 0
theorem W_s0 : W s1 0 = 1 := by kernel_rfl
theorem W_s1 : W s1 1 = 0 := by kernel_rfl
theorem W_s2 : W s1 2 = 0 := by kernel_rfl
theorem W_s3 : W s1 3 = 0 := by kernel_rfl
def litN : NR := (Rf.setG s1, none, 0)
def refN : NR := (refG dA, none, 0)
theorem litL : gdL (Rf.setG s1) none 0 = [.int .u8 2, .int .u64 1, .int .u64 0, .int .u64 0, .int .u64 0, .slice none 0 0, .int .i64 0, .int .i64 0, .string { data := #[] }] := by
  unfold gdL Rf.setG
  simp only [W_s0, W_s1, W_s2, W_s3, List.length_nil]
theorem refL : gdL (refG dA) none 0 = [.int .u8 6, .int .u64 0, .int .u64 0, .int .u64 0, .int .u64 0, .slice none 0 0, .int .i64 0, .int .i64 0, .string { data := #[100] }] := by
  unfold gdL refG
  simp only [W_zero, List.length_nil]
theorem catL (op : Int) (xs : List Int) (A : Option Addr) (c : Nat) : gdL (catG op xs) A c = [.int .u8 op, .int .u64 0, .int .u64 0, .int .u64 0, .int .u64 0, .slice A xs.length c, .int .i64 0, .int .i64 0, .string { data := #[] }] := by
  unfold gdL catG
  simp only [W_zero]
theorem gn_rep {x : Gd} {n : Nd} (h : GN1 x n) (k : Nat) : GN (List.replicate k x) (List.replicate k n) := by
  refine ⟨by simp, fun i hi => ?_⟩
  rw [List.length_replicate] at hi
  have e1 : (List.replicate k x).getD i gd0 = x := by rw [List.getD_eq_getElem?_getD, List.getElem?_replicate, if_pos hi]; rfl
  have e2 : (List.replicate k n).getD i nd0 = n := by rw [List.getD_eq_getElem?_getD, List.getElem?_replicate, if_pos hi]; rfl
  rw [e1, e2]
  exact h
def dT (n : Nat) : List Nd := List.replicate n (ndBytes s1) ++ [ndCat (List.range n)]
def lT (k : Nat) : List Nd := if k = 1 then [ndRef [100]] else List.replicate k (ndRef [100]) ++ [ndAlt (List.range k)]
theorem s1_some : emptyS s1 = false := emptyS_of (x := 0) (by omega) rfl
theorem dT_tree {n : Nat} (h2 : 2 ≤ n) (h : n < 1024) : TreeN (dT n) := by
  refine leaves_tree (fun m hm => by rw [List.eq_of_mem_replicate hm]; rfl) (fun m hm => by rw [List.eq_of_mem_replicate hm]; exact shape_bytes s1_some) (shape_kids (by simpa using h2)).1 ?_ (by simpa using h)
  show List.range n = _
  rw [List.length_replicate]
theorem dT_len (n : Nat) : (dT n).length = n + 1 := by unfold dT; simp
theorem dT_plain (n : Nat) : PlainN (dT n) := fun m hm => by
  unfold dT at hm
  rcases List.mem_append.1 hm with q | q
  · rw [List.eq_of_mem_replicate q]; decide
  · rw [List.mem_singleton] at q; subst q; show (3 : Nat) ≠ 6; decide
theorem lT_tree {k : Nat} (h1 : 1 ≤ k) (h : k < 1024) : TreeN (lT k) := by
  unfold lT
  split
  · exact lone_tree (shape_ref rfl) rfl
  · refine leaves_tree (fun m hm => by rw [List.eq_of_mem_replicate hm]; rfl) (fun m hm => by rw [List.eq_of_mem_replicate hm]; exact shape_ref rfl) (shape_kids (by simp; omega)).2 ?_ (by simpa using h)
    show List.range k = _
    rw [List.length_replicate]
def sumL (n k : Nat) : Nat := if k = 1 then k * (n + 1) else k * (n + 1) + 1
/-- P6.1: how many nodes come, or too many. -/
theorem long_exp {n k : Nat} (h1 : 1 ≤ k) : (1024 < sumL n k → expN (lT k) [([100], dT n)] = .error 3) ∧ (sumL n k ≤ 1024 → ∃ o, expN (lT k) [([100], dT n)] = .ok o ∧ o.length = sumL n k) := by
  have hf : findD [([100], dT n)] [100] = some (dT n) := rfl
  have hR := exF_refs (all := allD [([100], dT n)]) hf (dT_plain n) k x0 (by show 0 ≤ 1024; omega)
  rw [dT_len] at hR
  have hx : x0.out.length = 0 := rfl
  rw [hx, Nat.zero_add] at hR
  unfold lT sumL expN
  by_cases hk : k = 1
  · subst hk
    rw [if_pos rfl, if_pos rfl]
    refine ⟨fun h => ?_, fun h => ?_⟩
    · have : exF (allD [([100], dT n)]) [([100], dT n)] [ndRef [100]] x0 = .error 3 := hR.2 h
      rw [this]
    · obtain ⟨x', e1, e2⟩ := hR.1 h
      have e1' : exF (allD [([100], dT n)]) [([100], dT n)] [ndRef [100]] x0 = .ok x' := e1
      exact ⟨x'.out, by rw [e1'], e2⟩
  · rw [if_neg hk, if_neg hk]
    have hA : (ndAlt (List.range k)).op ≠ 6 := by show (4 : Nat) ≠ 6; decide
    refine ⟨fun h => ?_, fun h => ?_⟩
    · rw [exF_append]
      by_cases hl : k * (n + 1) ≤ 1024
      · obtain ⟨x', e1, e2⟩ := hR.1 hl
        rw [e1]
        simp only
        rw [exF_long hA (by omega)]
      · rw [hR.2 (by omega)]
    · obtain ⟨x', e1, e2⟩ := hR.1 (by omega)
      rw [exF_append, e1]
      simp only
      rw [exF_put hA (by omega), exF_nil]
      refine ⟨_, rfl, ?_⟩
      show (x'.out ++ [_]).length = _
      rw [List.length_append, List.length_singleton, e2]
end Go.Proofs.YtcidimjjclanmaaDoor.Sy.Ap

/- The law's own few and some; the reference's Plain. -/
namespace Go.Proofs.YtcidimjjclanmaaDoor.Sy.Ap
open Go.RowKit
set_option maxRecDepth 100000
set_option linter.unusedVariables false

theorem nds_take {w : World} {B : Nat} {A : Option Addr} {gs : List Gd} (h : Nds w B A gs) (n : Nat) : Nds w B A (gs.take n) := fun hne => by
  obtain ⟨b, off, e, hb, ha⟩ := h (fun e => hne (by rw [e]; simp))
  refine ⟨b, off, e, hb, fun i hi => ?_⟩
  rw [List.length_take] at hi
  have := ha i (by omega)
  rw [List.getD_eq_getElem?_getD, List.getElem?_take, if_pos (by omega), ← List.getD_eq_getElem?_getD]
  exact this
theorem small_take {gs : List Gd} (h : Small gs) (n : Nat) : Small (gs.take n) := fun g hg => h g (List.mem_of_mem_take hg)

/-! ### some -/
def goodD (d : DG) : Bool := decide (d.2.length ≤ 100)
def someL (ds : List DG) : List DG := (ds.take 6).filter goodD
theorem dfsC_snoc (l : List DR) (x : DR) : dfsC l ++ dfL x.1 x.2.1 x.2.2 = dfsC (l ++ [x]) := by simp [dfsC]
theorem some_len (ds : List DG) (k : Nat) : (someL (ds.take k)).length ≤ 6 := by
  unfold someL
  have := List.length_filter_le goodD ((ds.take k).take 6)
  rw [List.length_take] at this
  omega
theorem some_yes {ds : List DG} {k : Nat} (hk : k < ds.length) (h6 : k < 6) (hg : (ds.getD k dg0).2.length ≤ 100) : someL (ds.take (k + 1)) = someL (ds.take k) ++ [ds.getD k dg0] := by
  unfold someL
  rw [List.take_take, List.take_take, show min 6 (k + 1) = k + 1 from by omega, show min 6 k = k from by omega, take_snoc hk, List.filter_append, List.filter_cons_of_pos (by unfold goodD; exact decide_eq_true hg)]
  rfl
theorem some_no {ds : List DG} {k : Nat} (hk : k < ds.length) (h : ¬ (k < 6 ∧ (ds.getD k dg0).2.length ≤ 100)) : someL (ds.take (k + 1)) = someL (ds.take k) := by
  unfold someL
  by_cases h6 : k < 6
  · rw [List.take_take, List.take_take, show min 6 (k + 1) = k + 1 from by omega, show min 6 k = k from by omega, take_snoc hk, List.filter_append, List.filter_cons_of_neg (by unfold goodD; rw [decide_eq_true_eq]; exact fun q => h ⟨h6, q⟩)]
    simp
  · rw [List.take_take, List.take_take, show min 6 (k + 1) = 6 from by omega, show min 6 k = 6 from by omega]
theorem some_dok {ds : List DG} (hn : ∀ d ∈ ds, d.1.size ≤ maxLen) (hs : ∀ d ∈ ds, Small d.2) : DOk (someL ds) := by
  have hmem : ∀ d ∈ someL ds, d ∈ ds ∧ d.2.length ≤ 100 := fun d hd => by
    unfold someL at hd
    have h1 := List.mem_filter.1 hd
    exact ⟨List.mem_of_mem_take h1.1, by have := h1.2; unfold goodD at this; exact of_decide_eq_true this⟩
  refine ⟨?_, fun d hd => hn d (hmem d hd).1, fun d hd => by have := (hmem d hd).2; omega, fun d hd => hs d (hmem d hd).1⟩
  have := some_len ds ds.length
  rw [List.take_length] at this
  omega

/-! ### The reference's Plain -/
def PlainG (gs : List Gd) : Prop := (∀ g ∈ gs, g.op ≠ 6) ∧ RightG gs
def PlnR (gs : List Gd) (w : World) (e : Ending) (w' : World) : Prop := ∃ b, e = .returned (.bool b) ∧ (b = true ↔ PlainG gs) ∧ Below w.heap.size w w'
set_option maxHeartbeats 1000000 in
theorem plain_any (A : Option Addr) (c : Nat) (gs : List Gd) (w : World) (hx : Nds w w.heap.size A gs) (hl : gs.length ≤ 2000) (hsm : Small gs) :
    Calls Tryd.prog 34 #[.slice A gs.length c] w fun e w' => PlnR gs w e w' := by
  have hrr := refRight_any A c gs w hx hl hsm
  generalize hn : gs.length = n at *
  have HN0 := hidd hn
  clear hn hsm
  go_enter Tryd.func34, Tryd.ntmps34
  go_wp2
  go_loopw [3] (fun s3 wr => ∃ k : Nat, k ≤ n ∧ s3 = .int .i64 (k : Int) ∧ (∀ i, i < k → (gs.getD i gd0).op ≠ 6) ∧ wr = w) (fun s3 _ => n - (intOf s3).toNat)
  case atStart => exact ⟨0, Nat.zero_le _, rfl, fun i hi => absurd hi (Nat.not_lt_zero _), rfl⟩
  case round =>
    obtain ⟨k, hk0, rfl, hp, rfl⟩ := hrel
    have HP := hidd hp
    clear hp
    by_cases hlt : k < n
    · obtain ⟨b1, o1, rfl, hb1, A3, c3, -, r1⟩ := hx.at_ (k := k) (by rw [HN0.out]; exact hlt)
      have a0 : wr.cell? ⟨b1, o1 + k * 9, none⟩ = some (.int .u8 (gs.getD k gd0).op) := r1 0 _ rfl
      have hki : (k : Int) < (n : Int) := by omega
      have hgm : gs.getD k gd0 ∈ gs := by
        have h2 : k < gs.length := by rw [HN0.out]; exact hlt
        rw [List.getD_eq_getElem?_getD, List.getElem?_eq_getElem h2]
        exact List.getElem_mem h2
      have HNP : Hid ((gs.getD k gd0).op = 6 → ¬ PlainG gs) := fun q h => h.1 _ hgm q
      clear r1 hgm
      by_cases h6 : (gs.getD k gd0).op = 6
      · have HN := hidd (HNP.out h6)
        rw [h6] at a0
        clear h6 hrr HNP
        go_wp2
        go_ret
        exact ⟨false, rfl, ⟨fun q => (by cases q), fun q => absurd q HN.out⟩, Below.refl _ _⟩
      · have h6i : ((gs.getD k gd0).op == 6) = false := beq_eq_false_iff_ne.2 h6
        have HX : Hid (∀ i, i < k + 1 → (gs.getD i gd0).op ≠ 6) := fun i hi => by
          rcases Nat.lt_or_ge i k with q | q
          · exact HP.out i q
          · have : i = k := by omega
            subst this
            exact h6
        clear h6 hrr HNP HP
        generalize (gs.getD k gd0).op = op at *
        go_wp2
        exact ⟨⟨k + 1, by omega, rfl, HX.out, by first | trivial | rfl⟩, by simp [intOf]; omega⟩
    · have hke : k = n := by omega
      subst hke
      have HALL : Hid (∀ g ∈ gs, g.op ≠ 6) := fun g hg => by
        obtain ⟨i, hi, rfl⟩ := List.getElem_of_mem hg
        have := HP.out i (by rw [← HN0.out]; exact hi)
        rw [List.getD_eq_getElem?_getD, List.getElem?_eq_getElem hi] at this
        exact this
      clear hx
      go_wp2_with fail
      refine hrr.mono ?_
      rintro e w2 ⟨b, rfl, hb, bel⟩
      have HB := hidd (⟨hb, bel⟩ : (b = true ↔ RightG gs) ∧ Below wr.heap.size wr w2)
      clear hrr hb bel
      go_wp2
      go_ret
      exact ⟨b, rfl, ⟨fun q => ⟨HALL.out, HB.out.1.1 q⟩, fun q => HB.out.1.2 q.2⟩, HB.out.2⟩
theorem plain_tree {gs : List Gd} {ns : List Nd} (hg : GN gs ns) (ht : TreeN ns) : PlainG gs ↔ PlainN ns := by
  refine ⟨fun h n hn => ?_, fun h => ⟨fun g hg2 => ?_, tree_rg hg ht⟩⟩
  · obtain ⟨i, hi, rfl⟩ := List.getElem_of_mem hn
    have hi2 : i < gs.length := by rw [hg.1]; exact hi
    have h1 := hg.2 i hi2
    have e1 : gs.getD i gd0 = gs[i] := by rw [List.getD_eq_getElem?_getD, List.getElem?_eq_getElem hi2]; rfl
    have e2 : ns.getD i nd0 = ns[i] := by rw [List.getD_eq_getElem?_getD, List.getElem?_eq_getElem hi]; rfl
    rw [e1, e2] at h1
    have := h.1 _ (List.getElem_mem hi2)
    rw [h1.op] at this
    omega
  · obtain ⟨i, hi2, rfl⟩ := List.getElem_of_mem hg2
    have hi : i < ns.length := by rw [← hg.1]; exact hi2
    have h1 := hg.2 i hi2
    have e1 : gs.getD i gd0 = gs[i] := by rw [List.getD_eq_getElem?_getD, List.getElem?_eq_getElem hi2]; rfl
    have e2 : ns.getD i nd0 = ns[i] := by rw [List.getD_eq_getElem?_getD, List.getElem?_eq_getElem hi]; rfl
    rw [e1, e2] at h1
    have := h _ (List.getElem_mem hi)
    rw [h1.op]
    omega
end Go.Proofs.YtcidimjjclanmaaDoor.Sy.Ap

/- NormPlain: what Expand tells is plain, and stays. -/
namespace Go.Proofs.YtcidimjjclanmaaDoor.Sy.Ap
open Go.RowKit
set_option maxRecDepth 100000
set_option linter.unusedVariables false

theorem dfs_nil (w : World) (B : Nat) (A : Option Addr) : Dfs w B A [] := fun h => absurd rfl h
theorem dok_nil : DOk [] := ⟨Nat.zero_le _, fun d hd => absurd hd List.not_mem_nil, fun d hd => absurd hd List.not_mem_nil, fun d hd => absurd hd List.not_mem_nil⟩
theorem rds_nil : RightDs [] := ⟨fun d hd => absurd hd List.not_mem_nil, List.Pairwise.nil⟩
/-- What Expand tells of anything. -/
def XpA (w : World) (gs : List Gd) (ds : List DG) (e : Ending) (w' : World) : Prop :=
  Below w.heap.size w w' ∧ ((∃ er : Nat, 1 ≤ er ∧ e = .returned (.tuple #[.slice none 0 0, .int .i64 (er : Int)])) ∨
    ∃ A c go o, e = .returned (.tuple #[.slice A go.length c, .int .i64 0]) ∧ Nds w' w'.heap.size A go ∧ GN go o ∧ go.length ≤ c ∧ TreeN o ∧ PlainN o ∧ RightDs ds ∧ (PlainG gs → GN gs o))
end Go.Proofs.YtcidimjjclanmaaDoor.Sy.Ap

/- NormName: a name alone; names that nothing has, or that stand for themselves. -/
namespace Go.Proofs.YtcidimjjclanmaaDoor.Sy.Ap
open Go.RowKit
set_option maxRecDepth 100000
set_option linter.unusedVariables false

abbrev aA : ByteArray := { data := #[97] }
abbrev bA : ByteArray := { data := #[98] }
abbrev cA : ByteArray := { data := #[99] }
abbrev eA : ByteArray := { data := #[101] }
abbrev fA : ByteArray := { data := #[102] }
def nmD (ns : List Nd) : List Df := [([97], ns), ([98], [ndRef [97]]), ([99], [ndRef [99]]), ([100], [ndRef [101]]), ([101], [ndRef [100]])]
def nmG (gs : List Gd) : List DG := [(aA, gs), (bA, [refG aA]), (cA, [refG cA]), (dA, [refG eA]), (eA, [refG dA])]
theorem ref_tree {m : List Nat} (h : shapeB (ndRef m) = true) : TreeN [ndRef m] := lone_tree h rfl
theorem gn_ref1 (b : ByteArray) : GN [refG b] [ndRef (bs b)] := ⟨rfl, fun i hi => by
  have : i = 0 := by simp at hi; omega
  subst this
  exact gn_ref b⟩
theorem nm_gd {gs : List Gd} {ns : List Nd} (hg : GN gs ns) (ht : TreeN ns) : GD (nmG gs) (nmD ns) :=
  GD.cons (GD.cons (GD.cons (GD.cons (GD.cons gd_nil rfl (gn_ref1 dA) (ref_tree rfl)) rfl (gn_ref1 eA) (ref_tree rfl)) rfl (gn_ref1 cA) (ref_tree rfl)) rfl (gn_ref1 aA) (ref_tree rfl)) rfl hg ht
theorem nm_right {gs : List Gd} {ns : List Nd} (hg : GN gs ns) (ht : TreeN ns) : RightDs (nmG gs) := by
  refine ⟨fun d hd => ?_, ?_⟩
  · unfold nmG at hd
    simp only [List.mem_cons, List.not_mem_nil, or_false] at hd
    rcases hd with rfl | rfl | rfl | rfl | rfl
    · exact ⟨rfl, tree_rg hg ht⟩
    · exact ⟨rfl, tree_rg (gn_ref1 aA) (ref_tree rfl)⟩
    · exact ⟨rfl, tree_rg (gn_ref1 cA) (ref_tree rfl)⟩
    · exact ⟨rfl, tree_rg (gn_ref1 eA) (ref_tree rfl)⟩
    · exact ⟨rfl, tree_rg (gn_ref1 dA) (ref_tree rfl)⟩
  · unfold nmG
    simp only [List.pairwise_cons, List.mem_cons, List.not_mem_nil, or_false, forall_eq_or_imp, forall_eq]
    refine ⟨⟨by decide, by decide, by decide, by decide⟩, ⟨by decide, by decide, by decide⟩, ⟨by decide, by decide⟩, by decide, fun _ h => h.elim, List.Pairwise.nil⟩
theorem nm_twice {gs : List Gd} : ¬ RightDs (nmG gs ++ [(aA, gs)]) := fun h => by
  have := h.2
  rw [List.pairwise_append] at this
  exact this.2.2 (aA, gs) (by unfold nmG; simp) (aA, gs) (by simp) rfl
theorem nm_b {ns : List Nd} (ht : TreeN ns) (hp : PlainN ns) : expN [ndRef [98]] (nmD ns) = .ok ns := by
  unfold expN
  have f1 : findD (nmD ns) [98] = some [ndRef [97]] := rfl
  have f2 : findD (remD (nmD ns) (ndRef [98]).name) [97] = some ns := rfl
  rw [exF_some (n := ndRef [98]) rfl f1, exF_some (n := ndRef [97]) rfl f2, exF_stays ht hp]
  simp only [exF_nil]
theorem nm_c (ns : List Nd) : expN [ndRef [99]] (nmD ns) = .error 61 := by
  unfold expN
  have f1 : findD (nmD ns) [99] = some [ndRef [99]] := rfl
  have f2 : findD (remD (nmD ns) (ndRef [99]).name) [99] = none := rfl
  rw [exF_some (n := ndRef [99]) rfl f1, exF_none (n := ndRef [99]) rfl f2]
  rfl
theorem nm_d (ns : List Nd) : expN [ndRef [100]] (nmD ns) = .error 61 := by
  unfold expN
  have f1 : findD (nmD ns) [100] = some [ndRef [101]] := rfl
  have f2 : findD (remD (nmD ns) (ndRef [100]).name) [101] = some [ndRef [100]] := rfl
  have f3 : findD (remD (remD (nmD ns) (ndRef [100]).name) (ndRef [101]).name) [100] = none := rfl
  rw [exF_some (n := ndRef [100]) rfl f1, exF_some (n := ndRef [101]) rfl f2, exF_none (n := ndRef [100]) rfl f3]
  rfl
theorem nm_f (ns : List Nd) : expN [ndRef [102]] (nmD ns) = .error 60 := by
  unfold expN
  have f1 : findD (nmD ns) [102] = none := rfl
  rw [exF_none (n := ndRef [102]) rfl f1]
  rfl
theorem nm_size {gs : List Gd} : ∀ d ∈ nmG gs, d.1.size ≤ maxLen := fun d hd => by
  unfold nmG at hd
  simp only [List.mem_cons, List.not_mem_nil, or_false] at hd
  unfold maxLen
  rcases hd with rfl | rfl | rfl | rfl | rfl <;> (show 1 ≤ _; omega)
theorem nm_dok {gs : List Gd} {ns : List Nd} (hg : GN gs ns) (ht : TreeN ns) : DOk (nmG gs) := dok_of (nm_gd hg ht) (by show 5 ≤ 1000; omega) nm_size
theorem nm_dok2 {gs : List Gd} {ns : List Nd} (hg : GN gs ns) (ht : TreeN ns) : DOk (nmG gs ++ [(aA, gs)]) := by
  have h := nm_dok hg ht
  have hm : ∀ d ∈ nmG gs ++ [(aA, gs)], d ∈ nmG gs := fun d hd => by
    rcases List.mem_append.1 hd with q | q
    · exact q
    · rw [List.mem_singleton] at q
      subst q
      unfold nmG
      simp
  exact ⟨by show 6 ≤ 1000; omega, fun d hd => h.nm d (hm d hd), fun d hd => h.few d (hm d hd), fun d hd => h.nds d (hm d hd)⟩
section
variable {P : Program} {ops : Array Oper} {rest : List Oper} {o : Oper} {a : Act} {w : World} {Q : Exit → Act → World → Prop}
/-- An operation behind a guard that is met. -/
theorem wpList_wanted (hw : Region.wanted o (yielded ops a.tmps) = true) (h : ∀ K : Act → World → Prop, (∀ a w, wpList P ops Q rest a w → K a w) → o.wp P a w K Q) : wpList P ops Q (o :: rest) a w :=
  wpList_step fun K hK => by rw [if_pos hw]; exact h K hK
theorem load_midG (hw : Region.wanted o (yielded ops a.tmps) = true) (ty : TypeId) (x : Operand) (ho : o.op = .load ty x)
    (b off : Nat) (hx : a.eval x = .pointer (some ⟨b, off, none⟩)) (cs : List Value) (d : TypeDesc) (hc : w.rangeAt b off cs)
    (hu : P.underlying ty = some d) (hd : d.isRow = true) (hi : (P.info? ty).map (·.size) = some cs.length)
    (h : wpList P ops Q rest (a.put o.dst (.agg cs.toArray)) w) : wpList P ops Q (o :: rest) a w :=
  wpList_wanted hw fun _ hK => wp_load_mid ty x ho b off hx cs d hc hu hd hi (hK _ _ h)
theorem append_liesG (hw : Region.wanted o (yielded ops a.tmps) = true) (s x : Operand) (t : TypeId)
    (ho : o.op = .call { callee := .builtin .append, args := #[s, x], argTypes := #[t, t] })
    (base : Nat) (e : TypeId) (i : TypeInfo) (z : Value) (size bytes : Nat) (ht : P.underlying t = some (.slice e)) (hi : P.info? e = some i) (hz : i.zero = some z)
    (hsize : i.size = size) (hby : i.bytes = bytes) (hzs : z.cells.size = size) (hsz : 0 < size)
    (v : Value) (n : Nat) (xs : List Value) (hs : a.eval s = v) (hown : w.ownsRow base e size v n xs)
    (ad : Addr) (m c : Nat) (news : List Value) (hx : a.eval x = .slice (some ad) m c) (hl : news.length = m * size) (hnews : ∀ j u, news[j]? = some u → w.cell? (ad.add j) = some u) (h1 : ∀ u ∈ news, u.oneCell' = true)
    (hm : 0 < m) (h63 : n + m ≤ maxLen) (hbytes : (n + m) * bytes ≤ 140737488355328) (hbase : base ≤ w.heap.size) (H : Nat) (hH : w.heap.size = H)
    (h : ∀ g cap w', w'.ownsRow base e size (.slice (some ⟨g, 0, none⟩) (n + m) cap) (n + m) (xs ++ news) → w.grownBy w' v.ownBlock → (v.ownBlock = some g ∨ g = H) → g < w'.heap.size → wpList P ops Q rest (a.put o.dst (.slice (some ⟨g, 0, none⟩) (n + m) cap)) w') : wpList P ops Q (o :: rest) a w :=
  wpList_wanted hw fun _ hK => wp_append_lies w s x t ho base e i z size bytes ht hi hz hsize hby hzs hsz v n xs hs hown ad m c news hx hl hnews h1 hm h63 hbytes hbase H hH fun g cap w' h2 h3 h4 h5 => hK _ _ (h g cap w' h2 h3 h4 h5)
end
end Go.Proofs.YtcidimjjclanmaaDoor.Sy.Ap

/- The landed Fold. -/
namespace Go.Proofs.YtcidimjjclanmaaDoor.Sy.Ap
open Go.RowKit
set_option maxRecDepth 100000
set_option linter.unusedVariables false

def setSG (g : Gd) (s : Nat → Bool) : Gd := ⟨g.op, s, g.l, g.lo, g.hi, g.nm⟩
def foldG (g : Gd) : Gd := if g.op = 2 then setSG g (foldK 123 g.s) else g
theorem foldK_congr {p q : Nat → Bool} (h : ∀ b, b < 256 → p b = q b) : ∀ b, b < 256 → foldK 123 p b = foldK 123 q b := fun b hb => by
  unfold foldK
  rw [h b hb]
  congr 1
  · congr 1
    by_cases h1 : 97 ≤ b ∧ b < 123
    · rw [h (b - 32) (by omega)]
    · rw [decide_eq_false h1]; rfl
  · by_cases h1 : 65 ≤ b ∧ b + 32 < 123
    · rw [h (b + 32) (by omega)]
    · rw [decide_eq_false h1]; rfl
theorem shape_set {n : Nd} (h : shapeB n = true) (h2 : n.op ≠ 2) : emptyS n.s = true := by
  unfold shapeB zeroB at h
  repeat' split at h
  all_goals first
    | contradiction
    | (simp only [Bool.and_eq_true] at h; simp only [h])
    | cases h
theorem gn1_fold {g : Gd} {n : Nd} (h : GN1 g n) (hs : shapeB n = true) : GN1 (foldG g) (foldN n) := by
  unfold foldG
  by_cases h2 : g.op = 2
  · rw [if_pos h2]
    exact ⟨h.op, foldK_congr h.s, h.l, h.lo, h.hi, h.nm⟩
  · rw [if_neg h2]
    have he := shape_set hs (fun q => h2 (by rw [h.op, q]; rfl))
    have hf : emptyS (foldK 123 n.s) = true := by rw [emptyS_fold]; exact he
    refine ⟨h.op, fun b hb => ?_, h.l, h.lo, h.hi, h.nm⟩
    rw [h.s b hb, (emptyS_iff _).1 he b hb]
    exact ((emptyS_iff _).1 hf b hb).symm
theorem gn_fold {gs : List Gd} {ns : List Nd} (h : GN gs ns) (hs : Shp ns) : GN (gs.map foldG) (foldL ns) := by
  refine ⟨by rw [List.length_map, foldL_len]; exact h.1, fun i hi => ?_⟩
  rw [List.length_map] at hi
  have hi2 : i < ns.length := by rw [← h.1]; exact hi
  have h1 := h.2 i hi
  unfold foldL
  rw [List.getD_eq_getElem?_getD, List.getElem?_eq_getElem hi, List.getD_eq_getElem?_getD, List.getElem?_eq_getElem hi2] at h1
  rw [List.getD_eq_getElem?_getD, List.getElem?_map, List.getElem?_eq_getElem hi, List.getD_eq_getElem?_getD, List.getElem?_map, List.getElem?_eq_getElem hi2]
  exact gn1_fold h1 (hs _ (List.getElem_mem hi2))
theorem gn_nm {gs : List Gd} {ns : List Nd} (hg : GN gs ns) (hs : Shp ns) : ∀ g ∈ gs, g.nm.size ≤ 100000 := by
  intro g hgm
  obtain ⟨i, hi, rfl⟩ := List.getElem_of_mem hgm
  have h1 := (hg.2 i hi).nm
  have hi2 : i < ns.length := by rw [← hg.1]; exact hi
  rw [List.getD_eq_getElem?_getD, List.getElem?_eq_getElem hi, List.getD_eq_getElem?_getD, List.getElem?_eq_getElem hi2] at h1
  simp only [Option.getD_some] at h1
  have h3 := name_short (hs _ (List.getElem_mem hi2))
  rw [← h1, bs_len] at h3
  omega

theorem there_row {w : World} {g : Nat} {t : TypeId} {cs : Array Value} (r : RowA w g t cs) {o n : Nat} (h : o + n ≤ cs.size) : w.there g o n := fun j hj => by
  refine ⟨?_, r.thawed _⟩
  have hlt : o + j < cs.size := by omega
  rw [r.at_ (k := o + j) (v := cs[o + j]) (Array.getElem?_eq_getElem hlt)]
  rfl
theorem row_cells {g : Nat} {t : TypeId} : ∀ (vs : List Value) (o : Nat) (w : World) (cs : Array Value), RowA w g t cs → ∃ cs', RowA (w.setCells g o vs) g t cs' ∧ cs'.size = cs.size
  | [], _, w, cs, r => ⟨cs, r, rfl⟩
  | v :: vs, o, w, cs, r => by
    obtain ⟨c2, r2, h2⟩ := row_cells vs (o + 1) _ _ (r.set o v)
    exact ⟨c2, r2, by rw [h2]; simp⟩
theorem bel_cells {B g : Nat} {a : World} (hB : B ≤ g) : ∀ (vs : List Value) (o : Nat) (w : World), Below B a w → Below B a (w.setCells g o vs)
  | [], _, w, h => h
  | v :: vs, o, w, h => bel_cells hB vs (o + 1) _ (bel_set h _ v hB)
theorem own_cells {base : Nat} {e e' : TypeId} {sz n g : Nat} {v : Value} {xs : List Value} (hne : e ≠ e') : ∀ (vs : List Value) (o : Nat) (w : World) (cs : Array Value), RowA w g e' cs → w.ownsRow base e sz v n xs → (w.setCells g o vs).ownsRow base e sz v n xs
  | [], _, w, cs, _, h => h
  | u :: vs, o, w, cs, r, h => own_cells hne vs (o + 1) _ _ (r.set o u) (own_sb h (own_neR h r hne) u)
/-- So many nodes are folded. -/
structure FdS (w : World) (b n : Nat) (gs : List Gd) (k : Nat) (wr : World) : Prop where
  row : ∃ cs, RowA wr b 43 cs ∧ cs.size = n * 9
  rows : ∀ i, i < k → ∃ A c, wr.ownsRow w.heap.size 3 1 (.slice A (gs.getD i gd0).l.length c) (gs.getD i gd0).l.length (ints (gs.getD i gd0).l) ∧ wr.rangeAt b (i * 9) (gdL (foldG (gs.getD i gd0)) A c)
  bel : Below w.heap.size w wr
  base : w.heap.size ≤ b
theorem foldG_l (g : Gd) : (foldG g).l = g.l := by unfold foldG; split <;> rfl
/-- Once more round: what the round did far from the row (w'), and the row's node. -/
theorem FdS.next {w : World} {b n : Nat} {gs : List Gd} {k : Nat} {wr w' : World} (h : FdS w b n gs k wr) (hk : k < n) (hb : Below wr.heap.size wr w') {A : Option Addr} {c : Nat} {g : Gd} (hg : gs.getD k gd0 = g)
    (ho : w'.ownsRow w.heap.size 3 1 (.slice A g.l.length c) g.l.length (ints g.l)) : FdS w b n gs (k + 1) (w'.setCells b (k * 9) (gdL (foldG g) A c)) := by
  obtain ⟨cs, r, hcs⟩ := h.row
  have r' : RowA w' b 43 cs := r.below hb r.lt
  obtain ⟨cs2, r2, h2⟩ := row_cells (gdL (foldG g) A c) (k * 9) w' cs r'
  have hth : w'.there b (k * 9) (gdL (foldG g) A c).length := there_row r' (by rw [hcs]; show k * 9 + 9 ≤ _; omega)
  refine ⟨⟨cs2, r2, h2.trans hcs⟩, fun i hi => ?_, bel_cells h.base _ _ _ (h.bel.trans (hb.mono h.bel.size)), h.base⟩
  by_cases hik : i = k
  · subst hik
    rw [hg]
    exact ⟨A, c, own_cells (by decide) _ _ _ _ r' ho, World.rangeAt_setCells_same w' b (i * 9) _ hth⟩
  · obtain ⟨A1, c1, o1, r1⟩ := h.rows i (by omega)
    refine ⟨A1, c1, own_cells (by decide) _ _ _ _ r' (own_below o1 hb (Nat.le_refl _)), ?_⟩
    refine World.rangeAt_setCells_apart (fun j v hv => ?_) b (k * 9) _ (.inr (.inl (by show i * 9 + 9 ≤ k * 9; omega)))
    rw [hb.cell (by exact r.lt)]
    exact r1 j v hv
theorem FdS.nds {w : World} {b n : Nat} {gs : List Gd} {wr : World} (h : FdS w b n gs n wr) (hn : gs.length = n) : Nds wr wr.heap.size (some ⟨b, 0, none⟩) (gs.map foldG) := fun _ => by
  obtain ⟨cs, r, hcs⟩ := h.row
  refine ⟨b, 0, rfl, r.lt, fun i hi => ?_⟩
  rw [List.length_map] at hi
  obtain ⟨A, c, o1, r1⟩ := h.rows i (by omega)
  have e : (gs.map foldG).getD i gd0 = foldG (gs.getD i gd0) := by
    rw [List.getD_eq_getElem?_getD, List.getElem?_map, List.getD_eq_getElem?_getD, List.getElem?_eq_getElem hi]
    rfl
  rw [e, Nat.zero_add]
  refine ⟨A, c, ?_, r1⟩
  rw [foldG_l]
  exact its_own o1 rfl
/-- Nodes whose rows are told by their types: they stay where rows of other types grow. -/
def NdT (u : World) (A : Option Addr) (gs : List Gd) : Prop :=
  gs ≠ [] → ∃ b cs, A = some ⟨b, 0, none⟩ ∧ RowA u b 43 cs ∧ ∀ i, i < gs.length → ∃ A' c', u.ownsRow 0 3 1 (.slice A' (gs.getD i gd0).l.length c') (gs.getD i gd0).l.length (ints (gs.getD i gd0).l) ∧ u.rangeAt b (i * 9) (gdL (gs.getD i gd0) A' c')
theorem NdT.nds {u : World} {A : Option Addr} {gs : List Gd} (h : NdT u A gs) : Nds u u.heap.size A gs := fun hne => by
  obtain ⟨b, cs, e, R, hi⟩ := h hne
  refine ⟨b, 0, e, R.lt, fun i hi2 => ?_⟩
  obtain ⟨A', c', o, r⟩ := hi i hi2
  rw [Nat.zero_add]
  exact ⟨A', c', its_own o rfl, r⟩
theorem NdT.below {u u' : World} {A : Option Addr} {gs : List Gd} (h : NdT u A gs) (hb : Below u.heap.size u u') : NdT u' A gs := fun hne => by
  obtain ⟨b, cs, e, R, hi⟩ := h hne
  refine ⟨b, cs, e, R.below hb R.lt, fun i hi2 => ?_⟩
  obtain ⟨A', c', o, r⟩ := hi i hi2
  exact ⟨A', c', own_below o hb (Nat.le_refl _), fun j v hv => by rw [hb.cell (by exact R.lt)]; exact r j v hv⟩
theorem own_less {w : World} {b b' : Nat} {e : TypeId} {size : Nat} {v : Value} {n : Nat} {xs : List Value} (h : w.ownsRow b e size v n xs) (hb : b' ≤ b) : w.ownsRow b' e size v n xs := by
  obtain ⟨h1, h2⟩ := h
  refine ⟨h1, ?_⟩
  rcases h2 with h2 | ⟨g, cap, cur, hv, hg, r⟩
  · exact .inl h2
  · exact .inr ⟨g, cap, cur, hv, Nat.le_trans hb hg, r⟩
theorem FdS.ndT {w : World} {b n : Nat} {gs : List Gd} {wr : World} (h : FdS w b n gs n wr) (hn : gs.length = n) : NdT wr (some ⟨b, 0, none⟩) (gs.map foldG) := fun _ => by
  obtain ⟨cs, r, hcs⟩ := h.row
  refine ⟨b, cs, rfl, r, fun i hi => ?_⟩
  rw [List.length_map] at hi
  obtain ⟨A, c, o1, r1⟩ := h.rows i (by omega)
  have e : (gs.map foldG).getD i gd0 = foldG (gs.getD i gd0) := by
    rw [List.getD_eq_getElem?_getD, List.getElem?_map, List.getD_eq_getElem?_getD, List.getElem?_eq_getElem hi]
    rfl
  rw [e, foldG_l]
  exact ⟨A, c, own_less o1 (Nat.zero_le _), r1⟩
def FldT (w : World) (gs : List Gd) (e : Ending) (w' : World) : Prop :=
  Below w.heap.size w w' ∧ ∃ A, e = .returned (.slice A gs.length gs.length) ∧ NdT w' A (gs.map foldG)
def FldR (w : World) (gs : List Gd) (e : Ending) (w' : World) : Prop :=
  Below w.heap.size w w' ∧ ∃ A, e = .returned (.slice A gs.length gs.length) ∧ Nds w' w'.heap.size A (gs.map foldG)
theorem make_nodes (n : Nat) (hn : n ≤ 100000) (w : World) : (Instr.makeSlice 22 (.int .i64 (n : Int)) (.int .i64 (n : Int))).run Tryd.prog w =
    .ok (.slice (some ⟨w.heap.size, 0, none⟩) n n) (w.alloc (.cells (madeCells (Value.agg zeroC).cells (n * 9)) 43)) := by
  obtain ⟨i0, hi0, hz0, hz1, hz2⟩ := info_parts node_info
  have := run_make (P := Tryd.prog) w 22 43 i0 _ Tryd.underlying22 hi0 hz0 .i64 .i64 (n : Int) (n : Int) (by omega) (Int.le_refl _) (by rw [hz2]; omega) (by omega)
  rw [this, hz1, Int.toNat_natCast]
theorem range_row {w : World} {g : Nat} {t : TypeId} {cs : List Value} (r : RowA w g t cs.toArray) : w.rangeAt g 0 cs := fun j v hv => by
  rw [Nat.zero_add]
  exact r.at_ (by rw [List.getElem?_toArray]; exact hv)
theorem range_set {w : World} {q : Nat} {g : Gd} {A : Option Addr} {c : Nat} (r : RowA w q 43 (gdL g A c).toArray) : w.rangeAt q 1 [.int .u64 (W g.s 0), .int .u64 (W g.s 1), .int .u64 (W g.s 2), .int .u64 (W g.s 3)] := fun j v hv => by
  have hj : j < 4 := by
    rcases Nat.lt_or_ge j 4 with h | h
    · exact h
    · rw [List.getElem?_eq_none (by show 4 ≤ j; exact h)] at hv; cases hv
  obtain ⟨d0, d1, d2, d3, d4, -⟩ := node_cells r
  rcases (by omega : j = 0 ∨ j = 1 ∨ j = 2 ∨ j = 3) with rfl | rfl | rfl | rfl
  · cases hv; exact d1
  · cases hv; exact d2
  · cases hv; exact d3
  · cases hv; exact d4
end Go.Proofs.YtcidimjjclanmaaDoor.Sy.Ap

/- The landed Nullable. -/
namespace Go.Proofs.YtcidimjjclanmaaDoor.Sy.Ap
open Go.RowKit
set_option maxRecDepth 100000
set_option linter.unusedVariables false

theorem its_nat {w : World} {B : Nat} {A : Option Addr} {l : List Nat} (h : Its w B A (l.map fun k : Nat => (k : Int))) {k : Nat} (hk : k < l.length) : ∃ g off, A = some ⟨g, off, none⟩ ∧ g < B ∧ w.cell? ⟨g, off + k, none⟩ = some (.int .i64 ((l.getD k 0 : Nat) : Int)) := by
  obtain ⟨g, off, h1, h2, h3⟩ := h.at_ (k := k) (by rw [List.length_map]; exact hk)
  refine ⟨g, off, h1, h2, ?_⟩
  rw [h3, List.getD_eq_getElem?_getD, List.getElem?_map, List.getElem?_eq_getElem hk, List.getD_eq_getElem?_getD, List.getElem?_eq_getElem hk]
  rfl
theorem any_false {l : List Nat} {p : Nat → Bool} (h : ∀ i, i < l.length → p (l.getD i 0) = false) : l.any p = false := by
  rw [List.any_eq_false]
  intro x hx
  obtain ⟨i, hi, rfl⟩ := List.getElem_of_mem hx
  have := h i hi
  rw [List.getD_eq_getElem?_getD, List.getElem?_eq_getElem hi] at this
  simp only [Option.getD_some] at this
  rw [this]
  exact Bool.false_ne_true
theorem any_true {l : List Nat} {p : Nat → Bool} {i : Nat} (hi : i < l.length) (h : p (l.getD i 0) = true) : l.any p = true := by
  rw [List.any_eq_true]
  refine ⟨l[i], List.getElem_mem hi, ?_⟩
  rw [List.getD_eq_getElem?_getD, List.getElem?_eq_getElem hi] at h
  exact h
end Go.Proofs.YtcidimjjclanmaaDoor.Sy.Ap

/- The landed Nullable: a node by its kids; the tree. -/
namespace Go.Proofs.YtcidimjjclanmaaDoor.Sy.Ap
open Go.RowKit
set_option maxRecDepth 100000
set_option linter.unusedVariables false

theorem all_any (l : List Nat) (f : Nat → Bool) : (!(l.any fun k => !(f k))) = l.all f := by
  rw [List.all_eq_not_any_not]

theorem low_kids {ns : List Nd} (ht : TreeN ns) {k : Nat} (hk : k < ns.length) : ∀ i ∈ (ns.getD k nd0).l, i < k := fun i hi => by
  have h := (ht.low k ns[k] (List.getElem?_eq_getElem hk)).2
  rw [List.getD_eq_getElem?_getD, List.getElem?_eq_getElem hk] at hi
  exact h i hi
theorem may_step {ns : List Nd} {k : Nat} (hk : k < ns.length) (i : Nat) : (if i = k then may1 (ns.getD k nd0) (mayL (ns.take k)) else (mayL (ns.take k)).getD i false) = (mayL (ns.take (k + 1))).getD i false := by
  have e : ns.take (k + 1) = ns.take k ++ [ns.getD k nd0] := by
    rw [List.take_add_one, List.getElem?_eq_getElem hk, List.getD_eq_getElem?_getD, List.getElem?_eq_getElem hk]
    rfl
  have hl : (mayL (ns.take k)).length = k := by rw [mayL_len', List.length_take]; omega
  rw [e, mayL_snoc]
  generalize may1 (ns.getD k nd0) (mayL (ns.take k)) = z
  generalize mayL (ns.take k) = M at *
  by_cases h : i = k
  · rw [if_pos h, h, List.getD_eq_getElem?_getD, List.getElem?_append_right (by omega), hl, Nat.sub_self]
    rfl
  · rw [if_neg h]
    rcases Nat.lt_or_ge i k with q | q
    · rw [List.getD_eq_getElem?_getD, List.getD_eq_getElem?_getD, List.getElem?_append_left (by omega)]
    · rw [List.getD_eq_getElem?_getD, List.getElem?_eq_none (by omega), List.getD_eq_getElem?_getD, List.getElem?_eq_none (by rw [List.length_append]; simp; omega)]
theorem bool_info6 : (Tryd.prog.info? 4).map (fun i => (i.zero, i.size, i.bytes)) = some (some (.bool false), 1, 1) := by kernel_rfl
theorem make_bools6 (n : Nat) (hn : n ≤ 1000000) (w : World) : (Instr.makeSlice 34 (.int .i64 (n : Int)) (.int .i64 (n : Int))).run Tryd.prog w =
    .ok (.slice (some ⟨w.heap.size, 0, none⟩) n n) (w.alloc (.cells (fnC n (fun _ => .bool false)) 4)) := by
  obtain ⟨i0, hi0, hz0, hz1, hz2⟩ := info_parts bool_info6
  have := run_make (P := Tryd.prog) w 34 4 i0 _ Tryd.underlying34 hi0 hz0 .i64 .i64 (n : Int) (n : Int) (by omega) (Int.le_refl _) (by rw [hz2]; omega) (by omega)
  rw [this, hz1, Int.toNat_natCast, made_one _ rfl]
def NulR (w : World) (b : Bool) (e : Ending) (w' : World) : Prop := e = .returned (.bool b) ∧ Below w.heap.size w w'
structure MyS (w : World) (b n : Nat) (ns : List Nd) (k : Nat) (wr : World) : Prop where
  row : RowF wr b 4 n (fun i => .bool ((mayL (ns.take k)).getD i false))
  bel : Below w.heap.size w wr
  base : w.heap.size ≤ b
end Go.Proofs.YtcidimjjclanmaaDoor.Sy.Ap

/- NormFold. -/
namespace Go.Proofs.YtcidimjjclanmaaDoor.Sy.Ap
open Go.RowKit
set_option maxRecDepth 100000
set_option linter.unusedVariables false

theorem foldN_twice (n : Nd) : foldN (foldN n) = foldN n := by
  unfold foldN
  rw [show foldK 123 (foldK 123 n.s) = foldK 123 n.s from funext (fold_fold n.s)]
theorem foldL_twice (l : List Nd) : foldL (foldL l) = foldL l := by
  unfold foldL
  rw [List.map_map]
  exact List.map_congr_left fun n _ => foldN_twice n
theorem set_back (g : Gd) : setSG (foldG g) g.s = g := by
  unfold foldG
  split <;> rfl
theorem leq_refl (gs : List Gd) : LEq gs gs := ⟨rfl, fun i hi => ⟨rfl, fun _ _ => rfl, rfl, rfl, rfl, rfl⟩⟩
/-- One node in a row of its own. -/
def NdOne (g : Gd) (A : Option Addr) (c : Nat) (v : Value) (u : World) : Prop := ∃ q, v = .slice (some ⟨q, 0, none⟩) 1 1 ∧ RowA u q 43 (gdL g A c).toArray
theorem NdOne.below {g : Gd} {A : Option Addr} {c : Nat} {v : Value} {u u' : World} (h : NdOne g A c v u) (hb : Below u.heap.size u u') : NdOne g A c v u' := by
  obtain ⟨q, h1, h2⟩ := h
  exact ⟨q, h1, h2.below hb h2.lt⟩
theorem nds_one {u : World} {q : Nat} {g : Gd} {A : Option Addr} {c : Nat} (R : RowA u q 43 (gdL g A c).toArray) (hI : Its u u.heap.size A g.l) : Nds u u.heap.size (some ⟨q, 0, none⟩) [g] := fun _ => by
  refine ⟨q, 0, rfl, R.lt, fun i hi => ?_⟩
  have : i = 0 := by simp at hi; omega
  subst this
  exact ⟨A, c, hI, range_row R⟩
theorem put_none (a : Act) (v : Value) : a.put none v = a := rfl
structure FlS (w : World) (q bb o : Nat) (g : Gd) (A1 : Option Addr) (c1 : Nat) (A2 : Option Addr) (c2 : Nat) (u : World) : Prop where
  box : RowA u q 43 (gdL g A1 c1).toArray
  nd : u.rangeAt bb o (gdL g A2 c2)
  i1 : Its u w.heap.size A1 g.l
  i2 : Its u w.heap.size A2 g.l
  bel : Below w.heap.size w u
  lt : bb < w.heap.size
theorem FlS.below {w : World} {q bb o : Nat} {g : Gd} {A1 : Option Addr} {c1 : Nat} {A2 : Option Addr} {c2 : Nat} {u u' : World} (h : FlS w q bb o g A1 c1 A2 c2 u) (hb : Below u.heap.size u u') : FlS w q bb o g A1 c1 A2 c2 u' :=
  ⟨h.box.below hb h.box.lt, fun j v hv => by rw [hb.cell (by have := h.lt; have := h.bel.size; show bb < _; omega)]; exact h.nd j v hv, h.i1.below (hb.mono h.bel.size), h.i2.below (hb.mono h.bel.size), h.bel.trans (hb.mono h.bel.size), h.lt⟩
theorem range_mid {w : World} {b o : Nat} {g : Gd} {A : Option Addr} {c : Nat} (r : w.rangeAt b o (gdL g A c)) : w.rangeAt b (o + 1) [.int .u64 (W g.s 0), .int .u64 (W g.s 1), .int .u64 (W g.s 2), .int .u64 (W g.s 3)] := fun j v hv => by
  have hj : j < 4 := by
    rcases Nat.lt_or_ge j 4 with h | h
    · exact h
    · rw [List.getElem?_eq_none (by show 4 ≤ j; exact h)] at hv; cases hv
  have := r (j + 1) v (by
    rcases (by omega : j = 0 ∨ j = 1 ∨ j = 2 ∨ j = 3) with rfl | rfl | rfl | rfl <;> exact hv)
  rw [show o + 1 + j = o + (j + 1) from by omega]
  exact this
end Go.Proofs.YtcidimjjclanmaaDoor.Sy.Ap

/- NormLong. -/
namespace Go.Proofs.YtcidimjjclanmaaDoor.Sy.Ap
open Go.RowKit
set_option maxRecDepth 100000
set_option linter.unusedVariables false

theorem own_last {w : World} {B : Nat} {v : Value} {l : List NR} {k : Nat} {x : NR} (h : w.ownsRow B 43 9 v (k + 1) (nodesC l ++ gdL x.1 x.2.1 x.2.2)) (hk : l.length = k) : w.ownsRow B 43 9 v (l ++ [x]).length (nodesC (l ++ [x])) := by
  rw [List.length_append, hk, ← nodesC_snoc]
  exact h
theorem rep_snoc {α : Type} (i : Nat) (x : α) : List.replicate i x ++ [x] = List.replicate (i + 1) x := by
  rw [List.replicate_succ']
theorem range_own {w : World} {B : Nat} {v : Value} {i : Nat} (h : w.ownsRow B 3 1 v (i + 1) (i64s (List.range i) ++ [.int .i64 (i : Int)])) : w.ownsRow B 3 1 v (i + 1) (i64s (List.range (i + 1))) := by
  rw [List.range_succ, ← i64s_snoc]
  exact h
/-- Both rows so far. -/
structure LgR (w : World) (x : NR) (i : Nat) (vd vk : Value) (wr : World) : Prop where
  d : wr.ownsRow w.heap.size 43 9 vd i (nodesC (List.replicate i x))
  k : wr.ownsRow w.heap.size 3 1 vk i (i64s (List.range i))
  bel : Below w.heap.size w wr
end Go.Proofs.YtcidimjjclanmaaDoor.Sy.Ap

/- The reference's Fold. -/
namespace Go.Proofs.YtcidimjjclanmaaDoor.Sy.Ap
open Go.RowKit
set_option maxRecDepth 100000
set_option linter.unusedVariables false

def foldH (g : Gd) : Gd := setSG g (foldK 123 g.s)
theorem gn_foldH {gs : List Gd} {ns : List Nd} (h : GN gs ns) : GN (gs.map foldH) (foldL ns) := by
  refine ⟨by rw [List.length_map, foldL_len]; exact h.1, fun i hi => ?_⟩
  rw [List.length_map] at hi
  have hi2 : i < ns.length := by rw [← h.1]; exact hi
  have h1 := h.2 i hi
  unfold foldL
  rw [List.getD_eq_getElem?_getD, List.getElem?_eq_getElem hi, List.getD_eq_getElem?_getD, List.getElem?_eq_getElem hi2] at h1
  rw [List.getD_eq_getElem?_getD, List.getElem?_map, List.getElem?_eq_getElem hi, List.getD_eq_getElem?_getD, List.getElem?_map, List.getElem?_eq_getElem hi2]
  exact ⟨h1.op, foldK_congr h1.s, h1.l, h1.lo, h1.hi, h1.nm⟩
structure RfS (w : World) (gs : List Gd) (i : Nat) (ov : Value) (l : List NR) (wr : World) : Prop where
  own : wr.ownsRow w.heap.size 43 9 ov l.length (nodesC l)
  map : l.map (·.1) = (gs.take i).map foldH
  kid : ∀ x ∈ l, wr.ownsRow w.heap.size 3 1 (.slice x.2.1 x.1.l.length x.2.2) x.1.l.length (ints x.1.l)
  bel : Below w.heap.size w wr
theorem RfS.len {w : World} {gs : List Gd} {i : Nat} {ov : Value} {l : List NR} {wr : World} (h : RfS w gs i ov l wr) (hi : i ≤ gs.length) : l.length = i := by
  have := congrArg List.length h.map
  rw [List.length_map, List.length_map, List.length_take] at this
  omega
theorem takeG_snoc {gs : List Gd} {k : Nat} (hk : k < gs.length) : gs.take (k + 1) = gs.take k ++ [gs.getD k gd0] := by
  rw [List.take_add_one, List.getElem?_eq_getElem hk, List.getD_eq_getElem?_getD, List.getElem?_eq_getElem hk]
  rfl
/-- Once more round: u: what the round did far from the row (with the copied list); then the node is appended. -/
theorem RfS.next {w : World} {gs : List Gd} {i : Nat} {ov v' : Value} {l : List NR} {wr u w7 : World} {g : Gd} {A : Option Addr} {c : Nat} (h : RfS w gs i ov l wr) (hi : i < gs.length) (hg : gs.getD i gd0 = g) (hb : Below wr.heap.size wr u)
    (ho : u.ownsRow w.heap.size 3 1 (.slice A g.l.length c) g.l.length (ints g.l)) (hown : u.ownsRow w.heap.size 43 9 ov l.length (nodesC l)) (hgr : u.grownBy w7 ov.ownBlock) (h7 : w7.ownsRow w.heap.size 43 9 v' (i + 1) (nodesC l ++ gdL (foldH g) A c)) : RfS w gs (i + 1) v' (l ++ [(foldH g, A, c)]) w7 := by
  have hl := h.len (Nat.le_of_lt hi)
  refine ⟨own_last (k := i) h7 hl, ?_, fun x hx => ?_, ?_⟩
  · rw [List.map_append, h.map, takeG_snoc hi, List.map_append, hg]
    rfl
  · rcases List.mem_append.1 hx with q | q
    · have k1 := own_below (h.kid x q) hb (Nat.le_refl _)
      exact own_kept k1 hgr (fun k hk => fun r => own_apart hown k1 (by decide) k hk r)
    · rw [List.mem_singleton] at q
      subst q
      exact own_kept ho hgr (fun k hk => fun r => own_apart hown ho (by decide) k hk r)
  · exact bel_row (h.bel.trans (hb.mono h.bel.size)) (Nat.le_trans h.bel.size hb.size) hgr (fun k hk => (hown.lt k hk).1)
set_option maxHeartbeats 1000000 in
theorem rfold_bad (A : Option Addr) (c : Nat) (gs : List Gd) (w : World) (hN : Nds w w.heap.size A gs) (hl : gs.length ≤ 2000) (hsm : Small gs) (hno : ¬ RightG gs) :
    Calls Tryd.prog 26 #[.slice A gs.length c] w fun e w' => Below w.heap.size w w' ∧ e = .returned (.slice none 0 0) := by
  have hR := refRight_any A c gs w hN hl hsm
  have HNO := hidd hno
  clear hN hsm hno hl
  generalize gs.length = n at *
  go_enter Tryd.func26, Tryd.ntmps26
  go_wp2_with fail
  refine hR.mono ?_
  rintro e w2 ⟨z, rfl, hz, hb2⟩
  have hz2 : z = false := by
    cases z with
    | false => rfl
    | true => exact absurd (hz.1 rfl) HNO.out
  subst hz2
  have HB := hidd hb2
  clear hz hb2 hR
  go_wp2
  go_ret
  exact ⟨HB.out, rfl⟩
set_option maxHeartbeats 1000000 in
theorem rfold_ok (A : Option Addr) (c : Nat) (gs : List Gd) (ns : List Nd) (w : World) (hN : Nds w w.heap.size A gs) (hg : GN gs ns) (ht : TreeN ns) :
    Calls Tryd.prog 26 #[.slice A gs.length c] w fun e w' => Below w.heap.size w w' ∧ ∃ A' c', e = .returned (.slice A' (gs.map foldH).length c') ∧ Nds w' w'.heap.size A' (gs.map foldH) := by
  obtain ⟨i0, hi0, hz0, hz1, hz2⟩ := info_parts node_info
  have hfew := gn_few hg ht
  have hR := refRight_any A c gs w hN (by omega) (gn_sm hg ht)
  have HRG := hidd (tree_rg hg ht)
  have HKD := hidd (gn_kids hg ht)
  clear hg ht
  have HN := hidd hN
  clear hN
  generalize hn : gs.length = n at *
  have HN0 := hidd hn
  clear hn
  go_enter Tryd.func26, Tryd.ntmps26
  go_wp2_with fail
  refine hR.mono ?_
  rintro e w1 ⟨z, rfl, hz, b1⟩
  have hz3 : z = true := hz.2 HRG.out
  subst hz3
  have HS0 : Hid (RfS w gs 0 (.slice none 0 0) [] w1) := ⟨World.ownsRow_nil _ _ _ _, rfl, fun x hx => absurd hx List.not_mem_nil, b1⟩
  clear hz b1 hR
  go_wp2
  go_loopw [3, 4] (fun s3 s4 wr => ∃ (i : Nat) (l : List NR), i ≤ n ∧ s4 = .int .i64 (i : Int) ∧ RfS w gs i s3 l wr) (fun _ s4 _ => n - (intOf s4).toNat)
  case atStart => exact ⟨0, [], Nat.zero_le _, rfl, HS0.out⟩
  case round =>
    clear HS0
    obtain ⟨k, l, hk0, rfl, L⟩ := hrel
    have D := L.bel
    have hll := L.len (by rw [HN0.out]; exact hk0)
    obtain ⟨A9, c9, rfl⟩ := own_form L.own
    by_cases hlt : k < n
    · have hlt2 : k < gs.length := by rw [HN0.out]; exact hlt
      obtain ⟨bb, o1, rfl, hb1, A3, c3, I1, r1⟩ := (HN.out.below D).at_ hlt2
      have hgm : gs.getD k gd0 ∈ gs := by
        rw [List.getD_eq_getElem?_getD, List.getElem?_eq_getElem hlt2]
        exact List.getElem_mem hlt2
      have hkd := HKD.out _ hgm
      generalize hgd : gs.getD k gd0 = g at *
      have HGD := hidd hgd
      clear hgd hgm
      have hki : (k : Int) < (n : Int) := by omega
      have hbs := D.size
      have HL := hidd L
      have Z1 := RowA.new wr 43 zeroC
      have hW1 : Below wr.heap.size wr ((wr.alloc (.cells zeroC 43)).setRow wr.heap.size (gdL g A3 c3).toArray) := bel_setRow ((Below.refl _ _).alloc (Nat.le_refl _) _) _ _ (Nat.le_refl _)
      have R1 := Z1.row (gdL g A3 c3).toArray
      go_upto_region 8 with (first
        | refine wpList_load_mid rfl 43 (.tmp 17) rfl bb (o1 + k * 9) rfl (gdL g A3 c3) _ r1 Tryd.underlying43 rfl (gdL_info g A3 c3) ?_
        | refine wpList_store_row rfl 43 (.tmp 5) (.tmp 18) rfl wr.heap.size (gdL g A3 c3).toArray rfl rfl 43 zeroC Z1 (gdL_infoA g A3 c3) rfl (gdL_one g A3 c3) ?_)
      change RowA ((wr.alloc (.cells zeroC 43)).setRow wr.heap.size (gdL g A3 c3).toArray) _ _ _ at R1
      have B2 := hW1
      generalize (wr.alloc (.cells zeroC 43)).setRow wr.heap.size (gdL g A3 c3).toArray = w2 at *
      have hrs := range_set R1
      have hfo := rfold_any g.s w2
      obtain ⟨q, hq⟩ : ∃ q, wr.heap.size = q := ⟨_, rfl⟩
      rw [hq] at hrs R1 B2
      rw [hq]
      have HQ := hidd hq
      have HR1 := hidd R1
      have HB2 := hidd B2
      have HI1 := hidd I1
      clear Z1 hW1 r1 R1 B2 I1 L D hq
      rw [put_none]
      go_wp2_with (refine wpList_load_mid rfl 41 (.tmp 19) rfl q 1 rfl [.int .u64 (W g.s 0), .int .u64 (W g.s 1), .int .u64 (W g.s 2), .int .u64 (W g.s 3)] _ hrs Tryd.underlying41 rfl (by kernel_rfl) ?_)
      refine hfo.mono ?_
      rintro e w3 ⟨rfl, b3⟩
      have R3 := HR1.out.below b3 HR1.out.lt
      have B3 := HB2.out.trans (b3.mono (Nat.le_of_lt HR1.out.lt))
      have hth1 : w3.there q 1 4 := there_row R3 (by show 1 + 4 ≤ 9; omega)
      obtain ⟨w4, hw4⟩ : ∃ w4, w4 = w3.setCells q 1 [.int .u64 (W (foldK 123 g.s) 0), .int .u64 (W (foldK 123 g.s) 1), .int .u64 (W (foldK 123 g.s) 2), .int .u64 (W (foldK 123 g.s) 3)] := ⟨_, rfl⟩
      have R4 : RowA w4 q 43 (gdL (foldH g) A3 c3).toArray := by rw [hw4]; exact (((R3.set 1 _).set 2 _).set 3 _).set 4 _
      have B4 : Below q wr w4 := by rw [hw4]; exact bel_cells (Nat.le_refl _) _ _ _ B3
      have HST : Hid (∀ (ops : Array Oper) (rest : List Oper) (op : Oper) (a : Act) (Q : Exit → Act → World → Prop), op.guard = none → op.op = .store 41 (.tmp 22) (.tmp 21) → a.eval (.tmp 22) = .pointer (some ⟨q, 1, none⟩) → a.eval (.tmp 21) = .agg #[.int .u64 (W (foldK 123 g.s) 0), .int .u64 (W (foldK 123 g.s) 1), .int .u64 (W (foldK 123 g.s) 2), .int .u64 (W (foldK 123 g.s) 3)] → wpList Tryd.prog ops Q rest (a.put op.dst undef) w4 → wpList Tryd.prog ops Q (op :: rest) a w3) := by
        intro ops rest op a Q h1 h2 h3 h4 h5
        rw [hw4] at h5
        exact wpList_store_mid h1 41 (.tmp 22) (.tmp 21) h2 q 1 #[.int .u64 (W (foldK 123 g.s) 0), .int .u64 (W (foldK 123 g.s) 1), .int .u64 (W (foldK 123 g.s) 2), .int .u64 (W (foldK 123 g.s) 3)] h3 h4 hth1 (by kernel_rfl) (by simp [Value.oneCell']) h5
      clear hfo hrs hth1 hw4 R3 B3 b3 HR1 HB2
      go_upto_region 9 with (refine HST.out _ _ _ _ _ rfl rfl rfl rfl ?_)
      rw [put_none]
      clear HST
      have B5 : Below q wr (w4.alloc (.cells #[] 3)) := B4.alloc (by have := R4.lt; omega) _
      have R5 := R4.alloc (.cells #[] 3)
      have I5 : Its (w4.alloc (.cells #[] 3)) (w4.alloc (.cells #[] 3)).heap.size A3 g.l := (HI1.out.below (B5.mono (by rw [← HQ.out]; exact hbs))).more (by have := B5.size; omega)
      have hsz5 : w.heap.size ≤ (w4.alloc (.cells #[] 3)).heap.size := by have := B5.size; omega
      have ho5 : (w4.alloc (.cells #[] 3)).ownsRow w.heap.size 3 1 (.slice (some ⟨w4.heap.size, 0, none⟩) 0 0) 0 [] := World.ownsRow_lit w4 #[] 0 (by have := B4.size; omega) (by unfold maxLen; omega) rfl
      obtain ⟨d0, d1, d2, d3, d4, d5, d6, d7, d8⟩ := node_cells R5
      have hq4 : q < w4.heap.size := R4.lt
      have hq5 : q < (w4.alloc (.cells #[] 3)).heap.size := R5.lt
      have f5 : (w4.alloc (.cells #[] 3)).cell? ⟨q, 5, none⟩ = some (.slice A3 g.l.length c3) := d5
      have HR5 := hidd R5
      have HB5 := hidd B5
      have HI5 := hidd I5
      have hqn : q ≠ w4.heap.size := by omega
      clear d0 d1 d2 d3 d4 d5 d6 d7 d8 R4 B4 R5 B5 I5
      go_upto_region 10 with (at_builtin; refine wpList_plain rfl fun K hK => ?_; refine wp_app_its (.tmp 23) (.tmp 25) rfl w.heap.size (.slice (some ⟨w4.heap.size, 0, none⟩) 0 0) rfl ho5 _ _ _ _ rfl rfl HI5.out (by omega) hsz5 ?_; intro kA kc w6 o6 g6 at6; have R6 : RowA w6 q 43 (gdL (foldH g) A3 c3).toArray := (g6.block q HR5.out.lt (fun e => hqn (Option.some.inj e))).trans HR5.out; have ht6 := R6.thawed; obtain ⟨f0, f1, f2, f3, f4, f5, f6, f7, f8⟩ := node_cells R6; refine hK _ _ ?_)
      have b6 : Below q wr w6 := bel_row HB5.out (Nat.le_of_lt HR5.out.lt) g6 (fun k2 hk => by have e : w4.heap.size = k2 := Option.some.inj hk; omega)
      have B7 : Below q wr (w6.setCell ⟨q, 5, none⟩ (.slice kA g.l.length kc)) := bel_set b6 _ _ (Nat.le_refl _)
      have R7 : RowA (w6.setCell ⟨q, 5, none⟩ (.slice kA g.l.length kc)) q 43 (gdL (foldH g) kA kc).toArray := R6.set 5 (.slice kA g.l.length kc)
      have o7 := own_sb (k := 5) o6 (own_neR o6 R6 (by decide)) (.slice kA g.l.length kc)
      clear R6 o6 g6 at6 ht6 f0 f1 f2 f3 f4 f6 f7 f8 b6 HR5 HB5 HI5 hqn ho5 hsz5 f5 hq4 hq5
      generalize w6.setCell ⟨q, 5, none⟩ (.slice kA g.l.length kc) = w7 at *
      obtain ⟨d0, d1, d2, d3, d4, d5, d6, d7, d8⟩ := node_cells R7
      have x0 : w7.cell? ⟨q, 0, none⟩ = some (.int .u8 g.op) := d0
      have x1 : w7.cell? ⟨q, 1, none⟩ = some (.int .u64 (W (foldK 123 g.s) 0)) := d1
      have x2 : w7.cell? ⟨q, 2, none⟩ = some (.int .u64 (W (foldK 123 g.s) 1)) := d2
      have x3 : w7.cell? ⟨q, 3, none⟩ = some (.int .u64 (W (foldK 123 g.s) 2)) := d3
      have x4 : w7.cell? ⟨q, 4, none⟩ = some (.int .u64 (W (foldK 123 g.s) 3)) := d4
      have x5 : w7.cell? ⟨q, 5, none⟩ = some (.slice kA g.l.length kc) := d5
      have x6 : w7.cell? ⟨q, 6, none⟩ = some (.int .i64 g.lo) := d6
      have x7 : w7.cell? ⟨q, 7, none⟩ = some (.int .i64 g.hi) := d7
      have x8 : w7.cell? ⟨q, 8, none⟩ = some (.string g.nm) := d8
      clear d0 d1 d2 d3 d4 d5 d6 d7 d8
      rw [← HQ.out] at B7
      have hsz7 : w.heap.size ≤ w7.heap.size := Nat.le_trans hbs B7.size
      have ho8 := own_below HL.out.own B7 (Nat.le_refl _)
      rw [hll] at ho8
      have hown := ho8.alloc (.cells #[.int .u8 g.op, .int .u64 (W (foldK 123 g.s) 0), .int .u64 (W (foldK 123 g.s) 1), .int .u64 (W (foldK 123 g.s) 2), .int .u64 (W (foldK 123 g.s) 3), .slice kA g.l.length kc, .int .i64 g.lo, .int .i64 g.hi, .string g.nm] 43)
      have HBA := hidd (B7.alloc B7.size (.cells #[.int .u8 g.op, .int .u64 (W (foldK 123 g.s) 0), .int .u64 (W (foldK 123 g.s) 1), .int .u64 (W (foldK 123 g.s) 2), .int .u64 (W (foldK 123 g.s) 3), .slice kA g.l.length kc, .int .i64 g.lo, .int .i64 g.hi, .string g.nm] 43))
      have HO7 := hidd (o7.alloc (.cells #[.int .u8 g.op, .int .u64 (W (foldK 123 g.s) 0), .int .u64 (W (foldK 123 g.s) 1), .int .u64 (W (foldK 123 g.s) 2), .int .u64 (W (foldK 123 g.s) 3), .slice kA g.l.length kc, .int .i64 g.lo, .int .i64 g.hi, .string g.nm] 43))
      have hnews : ∀ j u, ([.int .u8 g.op, .int .u64 (W (foldK 123 g.s) 0), .int .u64 (W (foldK 123 g.s) 1), .int .u64 (W (foldK 123 g.s) 2), .int .u64 (W (foldK 123 g.s) 3), .slice kA g.l.length kc, .int .i64 g.lo, .int .i64 g.hi, .string g.nm] : List Value)[j]? = some u → (w7.alloc (.cells #[.int .u8 g.op, .int .u64 (W (foldK 123 g.s) 0), .int .u64 (W (foldK 123 g.s) 1), .int .u64 (W (foldK 123 g.s) 2), .int .u64 (W (foldK 123 g.s) 3), .slice kA g.l.length kc, .int .i64 g.lo, .int .i64 g.hi, .string g.nm] 43)).cell? ((⟨w7.heap.size, 0, none⟩ : Addr).add j) = some u := World.news_of_block (RowA.new w7 43 #[.int .u8 g.op, .int .u64 (W (foldK 123 g.s) 0), .int .u64 (W (foldK 123 g.s) 1), .int .u64 (W (foldK 123 g.s) 2), .int .u64 (W (foldK 123 g.s) 3), .slice kA g.l.length kc, .int .i64 g.lo, .int .i64 g.hi, .string g.nm])
      have hH : (w7.alloc (.cells #[.int .u8 g.op, .int .u64 (W (foldK 123 g.s) 0), .int .u64 (W (foldK 123 g.s) 1), .int .u64 (W (foldK 123 g.s) 2), .int .u64 (W (foldK 123 g.s) 3), .slice kA g.l.length kc, .int .i64 g.lo, .int .i64 g.hi, .string g.nm] 43)).heap.size = w7.heap.size + 1 := World.size_alloc ..
      have hbase : w.heap.size ≤ (w7.alloc (.cells #[.int .u8 g.op, .int .u64 (W (foldK 123 g.s) 0), .int .u64 (W (foldK 123 g.s) 1), .int .u64 (W (foldK 123 g.s) 2), .int .u64 (W (foldK 123 g.s) 3), .slice kA g.l.length kc, .int .i64 g.lo, .int .i64 g.hi, .string g.nm] 43)).heap.size := by rw [hH]; omega
      have HLL := hidd hll
      clear B7 R7 o7 ho8 hll
      go_wp2_with (at_builtin; refine wpList_append_lies _ rfl _ _ _ rfl w.heap.size 43 i0 (.agg zeroC) 9 96 Tryd.underlying22 hi0 hz0 hz1 hz2 rfl (by omega) _ k (nodesC l) rfl hown ⟨w7.heap.size, 0, none⟩ 1 1 [.int .u8 g.op, .int .u64 (W (foldK 123 g.s) 0), .int .u64 (W (foldK 123 g.s) 1), .int .u64 (W (foldK 123 g.s) 2), .int .u64 (W (foldK 123 g.s) 3), .slice kA g.l.length kc, .int .i64 g.lo, .int .i64 g.hi, .string g.nm] rfl rfl hnews (by simp [Value.oneCell']) (by omega) (by simp only [maxLen]; omega) (by omega) hbase (w7.heap.size + 1) hH ?_; intro g8 cap8 w8 hown8 hgrow hat hlt8; refine Hid.out ?_)
      have HR : Hid (RfS w gs (k + 1) (.slice (some ⟨g8, 0, none⟩) (k + 1) cap8) (l ++ [(foldH g, kA, kc)]) w8) :=
        HL.out.next hlt2 HGD.out HBA.out HO7.out (by rw [HLL.out]; exact hown) (by rw [HLL.out]; exact hgrow) hown8
      clear hown hown8 hgrow hat hlt8 hnews hH hbase HBA HO7 x0 x1 x2 x3 x4 x5 x6 x7 x8
      refine Lib.hid ?_
      go_wp2
      exact ⟨⟨k + 1, _, by omega, rfl, HR.out⟩, by simp [intOf]; omega⟩
    · have hke : k = n := by omega
      subst hke
      have hmap : l.map (·.1) = gs.map foldH := by rw [L.map, List.take_of_length_le (by rw [HN0.out]; exact Nat.le_refl _)]
      obtain ⟨A2, c2, hv, hND, hcap⟩ := own_nds L.own (fun x hx => its_own (L.kid x hx) rfl)
      rw [hmap] at hND
      have hlm : (gs.map foldH).length = l.length := by rw [← hmap, List.length_map]
      have HND := hidd hND
      have HLM := hidd hlm
      have HBE := hidd D
      cases hv
      clear L D hND hlm hmap hcap
      go_wp2
      go_ret
      exact ⟨HBE.out, _, _, by rw [HLM.out]; rfl, HND.out⟩
end Go.Proofs.YtcidimjjclanmaaDoor.Sy.Ap

/- Two trees, one behind the other, in memory. -/
namespace Go.Proofs.YtcidimjjclanmaaDoor.Sy.Ap
open Go.RowKit
set_option maxRecDepth 100000
set_option linter.unusedVariables false

theorem addr_addO (g o r : Nat) : (⟨g, o, none⟩ : Addr).add r = ⟨g, o + r, none⟩ := by
  unfold Addr.add
  split
  · rename_i h; rw [h]; rfl
  · rfl
theorem nodesC_len (l : List NR) : (nodesC l).length = l.length * 9 := by
  induction l with
  | nil => rfl
  | cons x r ih =>
    have e : nodesC (x :: r) = gdL x.1 x.2.1 x.2.2 ++ nodesC r := rfl
    rw [e, List.length_append, gdL_len, ih, List.length_cons]
    omega
theorem nodesC_one (l : List NR) : ∀ u ∈ nodesC l, u.oneCell' = true := by
  intro u hu
  unfold nodesC at hu
  obtain ⟨x, _, hx⟩ := List.mem_flatMap.1 hu
  unfold gdL at hx
  simp only [List.mem_cons, List.not_mem_nil, or_false] at hx
  rcases hx with rfl | rfl | rfl | rfl | rfl | rfl | rfl | rfl | rfl <;> rfl
/-- Nodes that a slice shows: their cells, and where their kids lie. -/
theorem nds_cells {w : World} {B : Nat} {A : Option Addr} {gs : List Gd} (h : Nds w B A gs) (hne : gs ≠ []) : ∃ (b off : Nat) (l : List NR), A = some ⟨b, off, none⟩ ∧ b < B ∧ l.map (·.1) = gs ∧ (∀ j u, (nodesC l)[j]? = some u → w.cell? ((⟨b, off, none⟩ : Addr).add j) = some u) ∧ ∀ x ∈ l, Its w B x.2.1 x.1.l := by
  obtain ⟨b, off, hA, hb, hi⟩ := h hne
  have h1 : ∀ i : Nat, ∃ p : Option Addr × Nat, i < gs.length → Its w B p.1 (gs.getD i gd0).l ∧ w.rangeAt b (off + i * 9) (gdL (gs.getD i gd0) p.1 p.2) := by
    intro i
    by_cases q : i < gs.length
    · obtain ⟨A', c', h2, h3⟩ := hi i q
      exact ⟨(A', c'), fun _ => ⟨h2, h3⟩⟩
    · exact ⟨(none, 0), fun r => absurd r q⟩
  obtain ⟨f, hf⟩ := Classical.axiomOfChoice h1
  refine ⟨b, off, (List.range gs.length).map fun i => (gs.getD i gd0, f i), hA, hb, ?_, fun j u hu => ?_, fun x hx => ?_⟩
  · rw [List.map_map]
    apply List.ext_getElem?
    intro i
    rcases Nat.lt_or_ge i gs.length with q | q
    · rw [List.getElem?_map, List.getElem?_range q, List.getElem?_eq_getElem q]
      show some (gs.getD i gd0) = _
      rw [List.getD_eq_getElem?_getD, List.getElem?_eq_getElem q]
      rfl
    · rw [List.getElem?_eq_none q, List.getElem?_eq_none (by simp; exact q)]
  · have hl : j < gs.length * 9 := by
      rcases Nat.lt_or_ge j (gs.length * 9) with q | q
      · exact q
      · rw [List.getElem?_eq_none (by rw [nodesC_len, List.length_map, List.length_range]; exact q)] at hu; cases hu
    have hq : j / 9 < gs.length := by omega
    have e : j = j / 9 * 9 + j % 9 := by omega
    have hx : ((List.range gs.length).map fun i => ((gs.getD i gd0, f i) : NR))[j / 9]? = some (gs.getD (j / 9) gd0, f (j / 9)) := by
      rw [List.getElem?_map, List.getElem?_range hq]
      rfl
    rw [e, nodesC_at _ _ _ _ hx (by omega)] at hu
    have := (hf (j / 9) hq).2 _ _ hu
    rw [addr_addO]
    rw [show off + j = off + j / 9 * 9 + j % 9 from by omega]
    exact this
  · obtain ⟨i, hi2, rfl⟩ := List.mem_map.1 hx
    exact (hf i (List.mem_range.1 hi2)).1
def shfG (c : Nat) (g : Gd) : Gd := withG g (g.l.map fun k => k + (c : Int))
theorem gn_snoc {gs : List Gd} {ns : List Nd} (h : GN gs ns) {g : Gd} {n : Nd} (h1 : GN1 g n) : GN (gs ++ [g]) (ns ++ [n]) := by
  refine ⟨by rw [List.length_append, List.length_append, h.1]; rfl, fun i hi => ?_⟩
  rw [List.length_append, List.length_singleton] at hi
  have hl := h.1
  rcases Nat.lt_or_ge i gs.length with q | q
  · rw [List.getD_eq_getElem?_getD, List.getElem?_append_left q, List.getD_eq_getElem?_getD, List.getElem?_append_left (by omega), ← List.getD_eq_getElem?_getD, ← List.getD_eq_getElem?_getD]
    exact h.2 i q
  · have e : i = gs.length := by omega
    subst e
    rw [List.getD_eq_getElem?_getD, List.getElem?_append_right (Nat.le_refl _), List.getD_eq_getElem?_getD, List.getElem?_append_right (by omega), Nat.sub_self, hl, Nat.sub_self]
    exact h1
theorem gn_app {gs gs' : List Gd} {ns ns' : List Nd} (h : GN gs ns) (h' : GN gs' ns') : GN (gs ++ gs') (ns ++ ns') := by
  refine ⟨by rw [List.length_append, List.length_append, h.1, h'.1], fun i hi => ?_⟩
  rw [List.length_append] at hi
  have hl := h.1
  rcases Nat.lt_or_ge i gs.length with q | q
  · rw [List.getD_eq_getElem?_getD, List.getElem?_append_left q, List.getD_eq_getElem?_getD, List.getElem?_append_left (by omega), ← List.getD_eq_getElem?_getD, ← List.getD_eq_getElem?_getD]
    exact h.2 i q
  · rw [List.getD_eq_getElem?_getD, List.getElem?_append_right q, List.getD_eq_getElem?_getD, List.getElem?_append_right (by omega), ← List.getD_eq_getElem?_getD, ← List.getD_eq_getElem?_getD, hl]
    exact h'.2 _ (by omega)
theorem gn_shf {gs : List Gd} {ns : List Nd} (h : GN gs ns) (c : Nat) : GN (gs.map (shfG c)) (ns.map (shN c)) := by
  refine ⟨by rw [List.length_map, List.length_map]; exact h.1, fun i hi => ?_⟩
  rw [List.length_map] at hi
  have hi2 : i < ns.length := by rw [← h.1]; exact hi
  have h1 := h.2 i hi
  rw [List.getD_eq_getElem?_getD, List.getElem?_eq_getElem hi, List.getD_eq_getElem?_getD, List.getElem?_eq_getElem hi2] at h1
  rw [List.getD_eq_getElem?_getD, List.getElem?_map, List.getElem?_eq_getElem hi, List.getD_eq_getElem?_getD, List.getElem?_map, List.getElem?_eq_getElem hi2]
  refine ⟨h1.op, h1.s, ?_, h1.lo, h1.hi, h1.nm⟩
  show (gs[i].l.map fun k => k + (c : Int)) = (ns[i].l.map fun k => k + c).map fun k : Nat => (k : Int)
  have hl : gs[i].l = ns[i].l.map fun k : Nat => (k : Int) := h1.l
  rw [hl, List.map_map, List.map_map]
  apply List.map_congr_left
  intro k _
  simp
theorem gn_kid {gs : List Gd} {ns : List Nd} (hg : GN gs ns) (ht : TreeN ns) {i : Nat} (hi : i < gs.length) {j : Nat} (hj : j < (gs.getD i gd0).l.length) : 0 ≤ (gs.getD i gd0).l.getD j 0 ∧ (gs.getD i gd0).l.getD j 0 < 1024 := by
  have h1 := hg.2 i hi
  have hi2 : i < ns.length := by rw [← hg.1]; exact hi
  have h2 := ht.low i ns[i] (List.getElem?_eq_getElem hi2)
  have hf := ht.few
  rw [h1.l] at hj ⊢
  rw [List.length_map] at hj
  have e : ns.getD i nd0 = ns[i] := by rw [List.getD_eq_getElem?_getD, List.getElem?_eq_getElem hi2]; rfl
  rw [e] at hj ⊢
  rw [List.getD_eq_getElem?_getD, List.getElem?_map, List.getElem?_eq_getElem hj]
  have := h2.2 _ (List.getElem_mem hj)
  show 0 ≤ ((ns[i].l[j] : Nat) : Int) ∧ ((ns[i].l[j] : Nat) : Int) < 1024
  omega
/-- Both so far: the first nodes, and i of the others. -/
structure PrS (w : World) (gx gy : List Gd) (i : Nat) (ov : Value) (l : List NR) (wr : World) : Prop where
  own : wr.ownsRow w.heap.size 43 9 ov l.length (nodesC l)
  map : l.map (·.1) = gx ++ (gy.take i).map (shfG gx.length)
  kid : ∀ x ∈ l, Its wr w.heap.size x.2.1 x.1.l ∨ wr.ownsRow w.heap.size 3 1 (.slice x.2.1 x.1.l.length x.2.2) x.1.l.length (ints x.1.l)
  bel : Below w.heap.size w wr
theorem PrS.len {w : World} {gx gy : List Gd} {i : Nat} {ov : Value} {l : List NR} {wr : World} (h : PrS w gx gy i ov l wr) (hi : i ≤ gy.length) : l.length = gx.length + i := by
  have := congrArg List.length h.map
  rw [List.length_map, List.length_append, List.length_map, List.length_take] at this
  omega
theorem PrS.its {w : World} {gx gy : List Gd} {i : Nat} {ov : Value} {l : List NR} {wr : World} (h : PrS w gx gy i ov l wr) : ∀ x ∈ l, Its wr wr.heap.size x.2.1 x.1.l := fun x hx => by
  rcases h.kid x hx with q | q
  · exact q.more h.bel.size
  · exact its_own q rfl
/-- The first nodes, copied. -/
theorem PrS.first {w w' : World} {gx gy : List Gd} {v : Value} {l : List NR} (hm : l.map (·.1) = gx) (hI : ∀ x ∈ l, Its w w.heap.size x.2.1 x.1.l) (ho : w'.ownsRow w.heap.size 43 9 v l.length (nodesC l)) (hb : Below w.heap.size w w') : PrS w gx gy 0 v l w' :=
  ⟨ho, by rw [hm]; simp, fun x hx => .inl ((hI x hx).below hb), hb⟩
theorem PrS.next {w : World} {gx gy : List Gd} {i : Nat} {ov v' : Value} {l : List NR} {wr u w7 : World} {g : Gd} {A : Option Addr} {c k : Nat} (h : PrS w gx gy i ov l wr) (hi : i < gy.length) (hg : gy.getD i gd0 = g) (hb : Below wr.heap.size wr u)
    (ho : u.ownsRow w.heap.size 3 1 (.slice A g.l.length c) g.l.length (ints (g.l.map fun k => k + (gx.length : Int)))) (hk : l.length = k) (hgr : u.grownBy w7 ov.ownBlock) (h7 : w7.ownsRow w.heap.size 43 9 v' (k + 1) (nodesC l ++ gdL (shfG gx.length g) A c)) : PrS w gx gy (i + 1) v' (l ++ [(shfG gx.length g, A, c)]) w7 := by
  have hown := own_below h.own hb (Nat.le_refl _)
  refine ⟨own_last (k := k) h7 hk, ?_, fun x hx => ?_, ?_⟩
  · rw [List.map_append, h.map, takeG_snoc hi, List.map_append, hg]
    simp
  · rcases List.mem_append.1 hx with q | q
    · rcases h.kid x q with r | r
      · left
        have b2 : Below w.heap.size u w7 := bel_row (Below.refl _ _) (Nat.le_trans h.bel.size hb.size) hgr (fun k hk => (hown.lt k hk).1)
        exact (r.below (hb.mono h.bel.size)).below b2
      · right
        have k1 := own_below r hb (Nat.le_refl _)
        exact own_kept k1 hgr (fun k hk => fun r => own_apart hown k1 (by decide) k hk r)
    · rw [List.mem_singleton] at q
      subst q
      right
      have e : (shfG gx.length g).l.length = g.l.length := by simp [shfG, withG]
      have ho2 : u.ownsRow w.heap.size 3 1 (.slice A (shfG gx.length g).l.length c) (shfG gx.length g).l.length (ints (shfG gx.length g).l) := by rw [e]; exact ho
      exact own_kept ho2 hgr (fun k hk => fun r => own_apart hown ho2 (by decide) k hk r)
  · exact bel_row (h.bel.trans (hb.mono h.bel.size)) (Nat.le_trans h.bel.size hb.size) hgr (fun k hk => (hown.lt k hk).1)
theorem ints_snoc (xs : List Int) (v : Int) : ints xs ++ [.int .i64 v] = ints (xs ++ [v]) := by simp [ints]
theorem takeI_snoc {xs : List Int} {k : Nat} (hk : k < xs.length) : xs.take (k + 1) = xs.take k ++ [xs.getD k 0] := by
  rw [List.take_add_one, List.getElem?_eq_getElem hk, List.getD_eq_getElem?_getD, List.getElem?_eq_getElem hk]
  rfl
/-- One behind a full slice: a new row. -/
theorem wp_append_full {P : Program} {w : World} {o : Oper} {a : Act} {K : Act → World → Prop} {Q : Exit → Act → World → Prop} (s x : Operand) (t : TypeId) (hop : o.op = Op.call { callee := Callee.builtin Builtin.append, args := #[s, x], argTypes := #[t, t] })
    (e : TypeId) (i : TypeInfo) (z : Value) (size bytes : Nat) (h1 : P.underlying t = some (.slice e)) (h2 : P.info? e = some i) (h3 : i.zero = some z) (h4 : i.size = size) (h5 : i.bytes = bytes) (h6 : z.cells.size = size) (h7 : 0 < size)
    (b : Addr) (n : Nat) (olds : List Value) (hs : a.eval s = .slice (some b) n n) (hlo : olds.length = n * size) (holds : ∀ j u, olds[j]? = some u → w.cell? (b.add j) = some u)
    (ad : Addr) (m c : Nat) (news : List Value) (hx : a.eval x = .slice (some ad) m c) (hn : news.length = m * size) (hc : ∀ j u, news[j]? = some u → w.cell? (ad.add j) = some u)
    (hm : 0 < m) (b1 : n + m ≤ maxLen) (b2 : (n + m) * bytes ≤ 140737488355328)
    (hK : ∀ v' w', w'.ownsRow w.heap.size e size v' (n + m) (olds ++ news) → w.grownBy w' none → K (a.put o.dst v') w') : o.wp P a w K Q := by
  obtain ⟨v', w', hrun, r1, r2⟩ := run_append_arg_grows (P := P) w t o.type e i z size bytes h1 h2 h3 h4 h5 h6 h7 b n n olds hlo holds ad m c news hn hc (by omega) b1 b2
  unfold Oper.wp
  simp [execOp, hop, resolve, invoke, builtin, hs, hx, hrun, Result.andThen]
  exact hK v' w' r1 r2
theorem grown_none {w w' : World} (h : w.grownBy w' none) : Below w.heap.size w w' := bel_row (Below.refl _ _) (Nat.le_refl _) h (fun k hk => by cases hk)
theorem pair_nodes {gx gy : List Gd} {ns ms : List Nd} (hx : GN gx ns) (hy : GN gy ms) (tx : TreeN ns) (ty : TreeN ms) (hl : ns.length + ms.length < 1024) {g : Gd} {n : Nd} (h1 : GN1 g n) (hs : shapeB n = true) (hn : n.l = [ns.length - 1, ns.length + ms.length - 1]) : GN (gx ++ gy.map (shfG gx.length) ++ [g]) (ns ++ ms.map (shN ns.length) ++ [n]) ∧ TreeN (ns ++ ms.map (shN ns.length) ++ [n]) :=
  ⟨gn_snoc (gn_app hx (by rw [hx.1]; exact gn_shf hy _)) h1, both_tree tx ty hl hs hn⟩
theorem two_kids {ns ms : List Nd} {k kk : Nat} (h1 : ns.length = k) (h2 : ns.length + ms.length = kk) (p1 : 1 ≤ ns.length) : [(k : Int) - 1, (kk : Int) - 1] = [ns.length - 1, ns.length + ms.length - 1].map fun k : Nat => (k : Int) := by
  show _ = [((ns.length - 1 : Nat) : Int), ((ns.length + ms.length - 1 : Nat) : Int)]
  congr 1
  · omega
  · congr 1
    omega
end Go.Proofs.YtcidimjjclanmaaDoor.Sy.Ap

/- The reference's Nullable. -/
namespace Go.Proofs.YtcidimjjclanmaaDoor.Sy.Ap
open Go.RowKit
set_option maxRecDepth 100000
set_option linter.unusedVariables false

theorem all_true {l : List Nat} {p : Nat → Bool} (h : ∀ i, i < l.length → p (l.getD i 0) = true) : l.all p = true := by
  rw [List.all_eq_true]
  intro x hx
  obtain ⟨i, hi, rfl⟩ := List.getElem_of_mem hx
  have := h i hi
  rw [List.getD_eq_getElem?_getD, List.getElem?_eq_getElem hi] at this
  exact this
theorem all_false {l : List Nat} {p : Nat → Bool} {i : Nat} (hi : i < l.length) (h : p (l.getD i 0) = false) : l.all p = false := by
  rw [List.all_eq_false]
  refine ⟨l[i], List.getElem_mem hi, ?_⟩
  rw [List.getD_eq_getElem?_getD, List.getElem?_eq_getElem hi] at h
  simp only [Option.getD_some] at h
  rw [h]
  exact Bool.false_ne_true
def NulC (gs : List Gd) (m : List Bool) (c : Nat) (A : Option Addr) (at_ : Nat) : Prop :=
  ∀ w : World, Nds w w.heap.size A gs → Calls Tryd.prog 38 #[.slice A gs.length c, .int .i64 (at_ : Int)] w fun e w' => NulR w (m.getD at_ false) e w'
theorem put_none' (a : Act) (v : Value) : a.put none v = a := rfl
set_option maxHeartbeats 2000000 in
theorem rnul_node (A : Option Addr) (c : Nat) (gs : List Gd) (ns : List Nd) (hg : GN gs ns) (ht : TreeN ns) : ∀ (at_ : Nat), at_ < ns.length → NulC gs (mayL ns) c A at_ := by
  intro at_
  induction at_ using Nat.strongRecOn with
  | ind at_ ih =>
    intro hat w hN
    have hat2 : at_ < gs.length := by rw [hg.1]; exact hat
    have hfew := gn_few hg ht
    have hg1 := hg.2 at_ hat2
    have hmay : (mayL ns).getD at_ false = may1 (ns.getD at_ nd0) (mayL ns) := may_at ht (by rw [List.getD_eq_getElem?_getD, List.getElem?_eq_getElem hat]; rfl)
    have hlow := low_kids ht hat
    have hsh : shapeB (ns.getD at_ nd0) = true := ht.shp _ (by rw [List.getD_eq_getElem?_getD, List.getElem?_eq_getElem hat]; exact List.getElem_mem hat)
    have hkid : (gs.getD at_ gd0).l.length ≤ 1024 := gn_kids hg ht _ (by rw [List.getD_eq_getElem?_getD, List.getElem?_eq_getElem hat2]; exact List.getElem_mem hat2)
    obtain ⟨bb, o1, rfl, hb1, A3, c3, I1, r1⟩ := hN.at_ hat2
    have HIH : Hid (∀ kd, kd < at_ → NulC gs (mayL ns) c (some ⟨bb, o1, none⟩) kd) := fun kd h => ih kd h (by omega)
    unfold NulR
    rw [hmay]
    clear ih hmay
    generalize ns.getD at_ nd0 = nd at *
    generalize gs.getD at_ gd0 = g at *
    generalize mayL ns = m at *
    have hop := hg1.op
    have hll : g.l = nd.l.map fun k : Nat => (k : Int) := hg1.l
    have hlo := hg1.lo
    have Z1 := RowA.new w 43 zeroC
    have hW1 : Below w.heap.size w ((w.alloc (.cells zeroC 43)).setRow w.heap.size (gdL g A3 c3).toArray) := bel_setRow ((Below.refl _ _).alloc (Nat.le_refl _) _) _ _ (Nat.le_refl _)
    have R1 := Z1.row (gdL g A3 c3).toArray
    have HLOW := hidd hlow
    have HSH := hidd hsh
    have HN := hidd hN
    have hati : (at_ : Int) < (gs.length : Int) := by omega
    clear hg1 hlow hsh hN hg ht hat
    generalize hgl : gs.length = N at *
    have HGL := hidd hgl
    clear hgl
    go_enter Tryd.func38, Tryd.ntmps38
    go_upto_region 2 with (first
      | refine wpList_load_mid rfl 43 (.tmp 10) rfl bb (o1 + at_ * 9) rfl (gdL g A3 c3) _ r1 Tryd.underlying43 rfl (gdL_info g A3 c3) ?_
      | refine wpList_store_row rfl 43 (.tmp 5) (.tmp 11) rfl w.heap.size (gdL g A3 c3).toArray rfl rfl 43 zeroC Z1 (gdL_infoA g A3 c3) rfl (gdL_one g A3 c3) ?_)
    rw [put_none']
    have HI : Hid (Its ((w.alloc (.cells zeroC 43)).setRow w.heap.size (gdL g A3 c3).toArray) ((w.alloc (.cells zeroC 43)).setRow w.heap.size (gdL g A3 c3).toArray).heap.size A3 (nd.l.map fun k : Nat => (k : Int))) := by
      show Its _ _ _ _
      rw [← hll]
      exact (I1.below hW1).more hW1.size
    have HN1 := hidd ((HN.out.below hW1).more hW1.size)
    have HB1 := hidd hW1
    change RowA ((w.alloc (.cells zeroC 43)).setRow w.heap.size (gdL g A3 c3).toArray) _ _ _ at R1
    generalize (w.alloc (.cells zeroC 43)).setRow w.heap.size (gdL g A3 c3).toArray = w1 at *
    obtain ⟨d0, d1, d2, d3, d4, d5, d6, d7, d8⟩ := node_cells R1
    have HQ : Hid (w.heap.size < w1.heap.size) := R1.lt
    rw [hop] at d0
    rw [hlo] at d6
    have hlen : g.l.length = nd.l.length := by rw [hll, List.length_map]
    rw [hlen] at d5 hkid
    clear Z1 hW1 r1 I1 R1 hop hlo hll hlen d1 d2 d3 d4 d7 d8 HN
    generalize hL : nd.l.length = L at *
    have HLL := hidd hL
    clear hL
    obtain ⟨q, hq⟩ : ∃ q, w.heap.size = q := ⟨_, rfl⟩
    rw [hq] at d0 d5 d6 HQ
    rw [hq]
    have hbw := HB1.out
    have HBW : Hid (∀ {u : World}, Below w1.heap.size w1 u → Below w.heap.size w u) := fun h => HB1.out.trans (h.mono HB1.out.size)
    clear hq hbw HB1
    have hopb : ∀ k : Nat, nd.op ≠ k → (((nd.op : Nat) : Int) == ((k : Nat) : Int)) = false := fun k h => beq_eq_false_iff_ne.2 (by omega)
    by_cases p1 : nd.op = 1
    · rw [p1] at d0
      have HM : Hid (may1 nd m = true) := by show _ = _; unfold may1; rw [if_pos p1]
      clear hopb
      go_wp2
      go_ret
      exact ⟨by rw [HM.out]; rfl, HBW.out (Below.refl _ _)⟩
    have n1 := hopb 1 p1
    by_cases p3 : nd.op = 3
    · rw [p3] at d0
      have HM : Hid (may1 nd m = nd.l.all fun k => m.getD k false) := by show _ = _; unfold may1; rw [if_neg p1, if_pos p3]
      clear hopb n1
      go_wp2
      go_loopw [6] (fun s6 wr => ∃ i : Nat, i ≤ L ∧ s6 = .int .i64 (i : Int) ∧ (∀ j, j < i → m.getD (nd.l.getD j 0) false = true) ∧ Below w1.heap.size w1 wr) (fun s6 _ => L - (intOf s6).toNat)
      case atStart => exact ⟨0, Nat.zero_le _, rfl, fun j hj => absurd hj (Nat.not_lt_zero _), Below.refl _ _⟩
      case round =>
        obtain ⟨i, hi0, rfl, hall, D⟩ := hrel
        have HALL := hidd hall
        clear hall
        have d5' : wr.cell? ⟨q, 5, none⟩ = some (.slice A3 L c3) := (D.cell (by exact HQ.out)).trans d5
        by_cases hlt : i < L
        · have hltl : i < nd.l.length := by rw [HLL.out]; exact hlt
          obtain ⟨gk, ok, rfl, hgk, hcell0⟩ := its_nat HI.out hltl
          have hcell : wr.cell? ⟨gk, ok + i, none⟩ = some (.int .i64 ((nd.l.getD i 0 : Nat) : Int)) := (D.cell (by exact hgk)).trans hcell0
          have hkm : nd.l.getD i 0 ∈ nd.l := by rw [List.getD_eq_getElem?_getD, List.getElem?_eq_getElem hltl]; exact List.getElem_mem hltl
          have hik := HIH.out (nd.l.getD i 0) (HLOW.out _ hkm) wr ((HN1.out.below D).more D.size)
          have hii : (i : Int) < (L : Int) := by omega
          have HLT := hidd hltl
          rw [HGL.out] at hik
          generalize hkd : nd.l.getD i 0 = kd at *
          have HKD := hidd hkd
          have HD := hidd D
          clear hkm hkd D hcell0 hgk d5 hltl
          go_wp2_with fail
          refine hik.mono ?_
          rintro e w3 ⟨rfl, b3⟩
          have B3 := HD.out.trans (b3.mono HD.out.size)
          clear hik b3 HD
          have hmv : m.getD kd false = true ∨ m.getD kd false = false := by cases m.getD kd false <;> simp
          rcases hmv with hmv | hmv
          · have HQ2 : Hid (∀ j, j < i + 1 → m.getD (nd.l.getD j 0) false = true) := fun j hj => by
              by_cases e : j = i
              · subst e; rw [HKD.out]; exact hmv
              · exact HALL.out j (by omega)
            have HB3 := hidd B3
            rw [hmv]
            clear hmv B3 hcell d5'
            go_wp2
            exact ⟨⟨i + 1, by omega, rfl, HQ2.out, HB3.out⟩, by simp [intOf]; omega⟩
          · have HF := hidd (all_false (p := fun k => m.getD k false) HLT.out (by rw [HKD.out]; exact hmv))
            have HB3 := hidd (HBW.out B3)
            rw [hmv]
            clear hmv B3 hcell d5'
            go_wp2
            go_ret
            exact ⟨by rw [HM.out, HF.out]; rfl, HB3.out⟩
        · have hie : i = L := by omega
          subst hie
          have HF := hidd (all_true (p := fun k => m.getD k false) (l := nd.l) (fun j hj => HALL.out j (by rw [HLL.out] at hj; exact hj)))
          have HB3 := hidd (HBW.out D)
          clear D
          go_wp2
          go_ret
          exact ⟨by rw [HM.out, HF.out]; rfl, HB3.out⟩
    · have n3 := hopb 3 p3
      by_cases p4 : nd.op = 4
      · rw [p4] at d0
        have HM : Hid (may1 nd m = nd.l.any fun k => m.getD k false) := by show _ = _; unfold may1; rw [if_neg p1, if_neg p3, if_pos p4]
        clear hopb n1 n3
        go_wp2
        go_loopw [7] (fun s7 wr => ∃ i : Nat, i ≤ L ∧ s7 = .int .i64 (i : Int) ∧ (∀ j, j < i → m.getD (nd.l.getD j 0) false = false) ∧ Below w1.heap.size w1 wr) (fun s7 _ => L - (intOf s7).toNat)
        case atStart => exact ⟨0, Nat.zero_le _, rfl, fun j hj => absurd hj (Nat.not_lt_zero _), Below.refl _ _⟩
        case round =>
          obtain ⟨i, hi0, rfl, hall, D⟩ := hrel
          have HALL := hidd hall
          clear hall
          have d5' : wr.cell? ⟨q, 5, none⟩ = some (.slice A3 L c3) := (D.cell (by exact HQ.out)).trans d5
          by_cases hlt : i < L
          · have hltl : i < nd.l.length := by rw [HLL.out]; exact hlt
            obtain ⟨gk, ok, rfl, hgk, hcell0⟩ := its_nat HI.out hltl
            have hcell : wr.cell? ⟨gk, ok + i, none⟩ = some (.int .i64 ((nd.l.getD i 0 : Nat) : Int)) := (D.cell (by exact hgk)).trans hcell0
            have hkm : nd.l.getD i 0 ∈ nd.l := by rw [List.getD_eq_getElem?_getD, List.getElem?_eq_getElem hltl]; exact List.getElem_mem hltl
            have hik := HIH.out (nd.l.getD i 0) (HLOW.out _ hkm) wr ((HN1.out.below D).more D.size)
            have hii : (i : Int) < (L : Int) := by omega
            have HLT := hidd hltl
            rw [HGL.out] at hik
            generalize hkd : nd.l.getD i 0 = kd at *
            have HKD := hidd hkd
            have HD := hidd D
            clear hkm hkd D hcell0 hgk d5 hltl
            go_wp2_with fail
            refine hik.mono ?_
            rintro e w3 ⟨rfl, b3⟩
            have B3 := HD.out.trans (b3.mono HD.out.size)
            clear hik b3 HD
            have hmv : m.getD kd false = true ∨ m.getD kd false = false := by cases m.getD kd false <;> simp
            rcases hmv with hmv | hmv
            · have HF := hidd (any_true (p := fun k => m.getD k false) HLT.out (by rw [HKD.out]; exact hmv))
              have HB3 := hidd (HBW.out B3)
              rw [hmv]
              clear hmv B3 hcell d5'
              go_wp2
              go_ret
              exact ⟨by rw [HM.out, HF.out]; rfl, HB3.out⟩
            · have HQ2 : Hid (∀ j, j < i + 1 → m.getD (nd.l.getD j 0) false = false) := fun j hj => by
                by_cases e : j = i
                · subst e; rw [HKD.out]; exact hmv
                · exact HALL.out j (by omega)
              have HB3 := hidd B3
              rw [hmv]
              clear hmv B3 hcell d5'
              go_wp2
              exact ⟨⟨i + 1, by omega, rfl, HQ2.out, HB3.out⟩, by simp [intOf]; omega⟩
          · have hie : i = L := by omega
            subst hie
            have HF := hidd (any_false (p := fun k => m.getD k false) (l := nd.l) (fun j hj => HALL.out j (by rw [HLL.out] at hj; exact hj)))
            have HB3 := hidd (HBW.out D)
            clear D
            go_wp2
            go_ret
            exact ⟨by rw [HM.out, HF.out]; rfl, HB3.out⟩
      · have n4 := hopb 4 p4
        by_cases p5 : nd.op = 5
        · rw [p5] at d0
          have hl1 := shp_rep HSH.out p5
          have HM : Hid (may1 nd m = (nd.lo == 0 || m.getD (nd.l.getD 0 0) false)) := by show _ = _; unfold may1; rw [if_neg p1, if_neg p3, if_neg p4, if_pos p5]
          clear hopb n1 n3 n4
          by_cases hlo : nd.lo = 0
          · have hlb : (nd.lo == 0) = true := by rw [hlo]; rfl
            rw [hlo] at d6
            clear hl1
            go_wp2
            go_ret
            exact ⟨by rw [HM.out, hlb]; rfl, HBW.out (Below.refl _ _)⟩
          · have hlb : (nd.lo == 0) = false := beq_eq_false_iff_ne.2 hlo
            have h0 : 0 < nd.l.length := by omega
            obtain ⟨gk, ok, rfl, hgk, hcell⟩ := its_nat HI.out h0
            have hkm : nd.l.getD 0 0 ∈ nd.l := by rw [List.getD_eq_getElem?_getD, List.getElem?_eq_getElem h0]; exact List.getElem_mem h0
            have hik := HIH.out (nd.l.getD 0 0) (HLOW.out _ hkm) w1 HN1.out
            rw [HGL.out] at hik
            rw [Nat.add_zero] at hcell
            have hL1 : L = 1 := by rw [← HLL.out]; exact hl1
            subst hL1
            generalize nd.l.getD 0 0 = kd at *
            clear hkm hl1 h0
            go_wp2_with fail
            refine hik.mono ?_
            rintro e w3 ⟨rfl, b3⟩
            have HB3 := hidd (HBW.out b3)
            generalize m.getD kd false = mv at *
            clear hik b3
            go_wp2
            go_ret
            exact ⟨by rw [HM.out, hlb]; rfl, HB3.out⟩
        · have n5 := hopb 5 p5
          have HM : Hid (may1 nd m = false) := by show _ = _; unfold may1; rw [if_neg p1, if_neg p3, if_neg p4, if_neg p5]
          clear hopb
          generalize ((nd.op : Nat) : Int) = op at *
          have e1 : (op == 1) = false := n1
          have e3 : (op == 3) = false := n3
          have e4 : (op == 4) = false := n4
          have e5 : (op == 5) = false := n5
          clear n1 n3 n4 n5
          go_wp2
          go_ret
          exact ⟨by rw [HM.out]; rfl, HBW.out (Below.refl _ _)⟩
set_option maxHeartbeats 1000000 in
theorem rnull_bad (A : Option Addr) (c : Nat) (gs : List Gd) (w : World) (hN : Nds w w.heap.size A gs) (hl : gs.length ≤ 2000) (hsm : Small gs) (hno : ¬ RightG gs) :
    Calls Tryd.prog 25 #[.slice A gs.length c] w fun e w' => NulR w false e w' := by
  have hR := refRight_any A c gs w hN hl hsm
  have HNO := hidd hno
  clear hN hsm hno hl
  generalize gs.length = n at *
  go_enter Tryd.func25, Tryd.ntmps25
  go_wp2_with fail
  refine hR.mono ?_
  rintro e w2 ⟨z, rfl, hz, hb2⟩
  have hz2 : z = false := by
    cases z with
    | false => rfl
    | true => exact absurd (hz.1 rfl) HNO.out
  subst hz2
  have HB := hidd hb2
  clear hz hb2 hR
  go_wp2
  go_ret
  exact ⟨rfl, HB.out⟩
set_option maxHeartbeats 1000000 in
theorem rnull_ok (A : Option Addr) (c : Nat) (gs : List Gd) (ns : List Nd) (w : World) (hN : Nds w w.heap.size A gs) (hg : GN gs ns) (ht : TreeN ns) :
    Calls Tryd.prog 25 #[.slice A gs.length c] w fun e w' => NulR w (nulN ns) e w' := by
  have hfew := gn_few hg ht
  have hR := refRight_any A c gs w hN (by omega) (gn_sm hg ht)
  have HRG := hidd (tree_rg hg ht)
  have hpos := ht.pos
  have hC : ∀ u, Below w.heap.size w u → Calls Tryd.prog 38 #[.slice A gs.length c, .int .i64 ((ns.length - 1 : Nat) : Int)] u fun e w' => NulR u ((mayL ns).getD (ns.length - 1) false) e w' := fun u hu => rnul_node A c gs ns hg ht (ns.length - 1) (by omega) u ((hN.below hu).more hu.size)
  unfold nulN
  have hln := hg.1
  clear hN hg ht
  generalize (mayL ns).getD (ns.length - 1) false = mv at *
  generalize gs.length = n at *
  rw [← hln] at hC hpos
  clear hln
  have e1 : ((n - 1 : Nat) : Int) = (n : Int) - 1 := by omega
  rw [e1] at hC
  clear e1
  go_enter Tryd.func25, Tryd.ntmps25
  go_wp2_with fail
  refine hR.mono ?_
  rintro e w2 ⟨z, rfl, hz, hb2⟩
  have hz2 : z = true := hz.2 HRG.out
  subst hz2
  have hc2 := hC w2 hb2
  have HB := hidd hb2
  clear hz hb2 hR hC
  go_wp2_with fail
  refine hc2.mono ?_
  rintro e w3 ⟨rfl, b3⟩
  have HBE := hidd (HB.out.trans (b3.mono HB.out.size))
  clear hc2 b3
  go_wp2
  go_ret
  exact ⟨rfl, HBE.out⟩
end Go.Proofs.YtcidimjjclanmaaDoor.Sy.Ap

/- The law by slots and a tail once more: an operation ahead of the tail may read a slot that the tail writes. Nothing of the program. -/
namespace Go.Proofs.YtcidimjjclanmaaDoor
open Go.RowKit

section
variable {P : Program} {ops : Array Oper} {Q : Exit → Act → World → Prop}

/-- Of the first n each waits for those of them that write what it reads. -/
def regReadsH (ops : Array Oper) (n : Nat) : Bool :=
  (ops.toList.take n).all fun o => (o.looksAt ops).all fun t => (List.range n).all fun j =>
    match ops[j]? with
    | none => true
    | some oj => (oj.dst != some t) || (o.after.toList.filter fun e => Region.binds .any e).any fun e => e.on == j
def regRoH (ops : Array Oper) (n : Nat) (ro : List Nat) : Bool :=
  (ops.toList.take n).all fun o => (o.looksAt ops).all fun t => ro.contains t || (ops.toList.take n).any fun oj => oj.dst == some t
theorem wpAny_factsH (n : Nat) (hn : n ≤ ops.size) (htl : regTail ops n = true) (hsq : Region.seqB .any ops (ops.size - n) n (headDone ops n) = true) {ok : Nat → Option Nat → Bool} {G : Nat → Value → World → Prop} {E : Option Nat → World → World → Prop} {a0 : Act} {S : World → Prop} (hsh : regShape ops a0.tmps.size = true)
    (hrd : regReadsH ops n = true) (hok : regPairs ops ok = true)
    (hstab : ∀ t d v w w', ok t d = true → S w → G t v w → E d w w' → G t v w') (ro : List Nat) (hro : regRoH ops n ro = true) (hin : ∀ w, S w → Holds G a0 w ro)
    (howe : OweAllE P ops Q S G E (ops.toList.take n))
    (hend : ∀ (a : Act) (w : World), S w → a.tmps.size = a0.tmps.size → a.defers = a0.defers → (∀ t, (∀ (j : Nat) (oj : Oper), j < n → ops[j]? = some oj → oj.dst ≠ some t) → a.tmps[t]? = a0.tmps[t]?) →
      (∀ (i : Nat) (o : Oper) (d : Nat), i < n → ops[i]? = some o → o.dst = some d → (∀ d', ok d d' = true) → ∃ v, a.tmps[d]? = some v ∧ G d v w) → wpList P ops Q (ops.toList.drop n) a w) :
    ∀ (fuel : Nat) (listed : Array Bool) (a : Act) (w : World), RegInvE ops ok a0 S G listed a w → (∀ t, (∀ (j : Nat) (oj : Oper), j < n → ops[j]? = some oj → oj.dst ≠ some t) → a.tmps[t]? = a0.tmps[t]?) → (∀ t, n ≤ t → listed.getD t false = false) → left listed.toList = fuel → wpAny P .any ops Q fuel listed a w := by
  have hall : ∀ (listed : Array Bool), listed.size = ops.size → Region.ready .any ops listed = [] → ∀ i, i < ops.size → listed.getD i false = true := by
    intro listed hls hr i
    induction i using Nat.strongRecOn with
    | ind i ih =>
      intro hi
      cases hg : listed.getD i false with
      | true => rfl
      | false =>
        exfalso
        have ho : ops[i]? = some ops[i] := Array.getElem?_eq_getElem hi
        have hm : i ∈ Region.ready .any ops listed := by
          rw [mem_ready]
          refine ⟨?_, ops[i], ho, fun e he _ => ?_⟩
          · simp [hls, hi] at hg ⊢; exact hg
          · have := shape_back hsh ho he
            exact ih e.on this (by omega)
        rw [hr] at hm
        cases hm
  have fin : ∀ (fuel : Nat) (listed : Array Bool) (a : Act) (w : World), RegInvE ops ok a0 S G listed a w → (∀ t, (∀ (j : Nat) (oj : Oper), j < n → ops[j]? = some oj → oj.dst ≠ some t) → a.tmps[t]? = a0.tmps[t]?) → (∀ t, n ≤ t → listed.getD t false = false) → left listed.toList = fuel → (∀ i, i < n → listed.getD i false = true) → wpAny P .any ops Q fuel listed a w := by
    intro fuel listed a w inv hkn ht hf hh
    have hL : listed = headDone ops n := by
      apply Array.ext_getElem?
      intro i
      rcases Nat.lt_or_ge i ops.size with hi | hi
      · have hil : i < listed.size := by rw [inv.lsize]; exact hi
        rw [headDone_at hi]
        rcases Nat.lt_or_ge i n with hin | hin
        · have := hh i hin
          rw [Array.getElem?_eq_getElem hil, decide_eq_true hin]
          simpa [hil] using this
        · have := ht i hin
          rw [Array.getElem?_eq_getElem hil, decide_eq_false (by omega)]
          simpa [hil] using this
      · rw [Array.getElem?_eq_none (by rw [inv.lsize]; exact hi), Array.getElem?_eq_none (by rw [headDone_size]; exact hi)]
    have hlen : (ops.toList.drop n).length = ops.size - n := by simp
    have hfuel : fuel = (ops.toList.drop n).length := by
      rw [← hf, hL, hlen]
      exact headDone_left hn
    have hw := hend a w inv.world inv.tsize inv.defers hkn fun i o d hin ho hd hdd => by
      rcases inv.facts i o d ho hd (hh i hin) with ⟨⟨d', h⟩, _⟩ | h
      · rw [hdd d'] at h; cases h
      · exact h
    rw [hfuel, hL]
    exact wpAny_of_seq (ops.toList.drop n) n (headDone ops n) a w (fun j => by simp [List.getElem?_drop]) (by rw [hlen]; exact hsq) hw
  intro fuel
  induction fuel with
  | zero =>
    intro listed a w inv hkn ht hl
    refine fin 0 listed a w inv hkn ht hl fun i hi => ?_
    cases hg : listed.getD i false with
    | true => rfl
    | false =>
      have hil : i < listed.size := by rw [inv.lsize]; omega
      have h1 : listed.toList[i]? = some false := by simp [hil] at hg ⊢; exact hg
      have := left_set _ _ h1
      omega
  | succ fuel ih =>
    intro listed a w inv hkn ht hl
    by_cases hh : ∀ i, i < n → listed.getD i false = true
    · exact fin (fuel + 1) listed a w inv hkn ht hl hh
    have hex : ∃ i0, i0 < n ∧ listed.getD i0 false = false := by
      apply Classical.byContradiction
      intro hno
      apply hh
      intro i hi
      cases hg : listed.getD i false with
      | true => rfl
      | false => exact absurd ⟨i, hi, hg⟩ hno
    obtain ⟨i0, hi0, hg0⟩ := hex
    refine ⟨fun hr => ?_, fun i hi => ?_⟩
    · have := hall listed inv.lsize hr i0 (by omega)
      rw [hg0] at this; cases this
    rw [mem_ready] at hi
    obtain ⟨h0, o, ho, hdep⟩ := hi
    have hlt : i < ops.size := (Array.getElem?_eq_some_iff.1 ho).1
    have hll : i < listed.size := by rw [inv.lsize]; exact hlt
    have h1 : listed.toList[i]? = some false := by simp [hll] at h0 ⊢; exact h0
    have hnot : listed.getD i false = false := by simp [hll] at h0 ⊢; exact h0
    have hcnt := left_set _ _ h1
    have hl' : left (listed.setIfInBounds i true).toList = fuel := by rw [Array.toList_setIfInBounds]; omega
    have hmem : o ∈ ops.toList := by
      obtain ⟨h, e⟩ := Array.getElem?_eq_some_iff.1 ho
      rw [← e]; simp
    have hmore : ∀ r, listed.getD r false = true → (listed.setIfInBounds i true).getD r false = true := by
      intro r hr
      by_cases hri : r = i
      · subst hri; rw [hnot] at hr; cases hr
      · rw [getD_set_ne false (Ne.symm hri)]; exact hr
    have hself : (listed.setIfInBounds i true).getD i false = true := by simp [hll]
    have hdown : Down ops (listed.setIfInBounds i true) := by
      intro j oj hj hlj e he hb
      by_cases hji : j = i
      · subst hji
        have : oj = o := Option.some.inj (hj.symm.trans ho)
        subst this
        exact hmore _ (hdep e he hb)
      · rw [getD_set_ne false (Ne.symm hji)] at hlj
        exact hmore _ (inv.down j oj hj hlj e he hb)
    have hin0 : i < n := by
      rcases Nat.lt_or_ge i n with h | h
      · exact h
      · exfalso
        have h1 := List.all_eq_true.1 (List.all_eq_true.1 htl i (List.mem_range.2 hlt)) i0 (List.mem_range.2 hi0)
        simp only [Bool.or_eq_true, decide_eq_true_eq] at h1
        rcases h1 with h1 | h1
        · omega
        · have h2 := ancs_listed hdown ops.size [i] (by simpa using hself) i0 (by simpa using h1)
          have hne : i ≠ i0 := by omega
          rw [getD_set_ne false hne, hg0] at h2
          cases h2
    have hmemT : o ∈ ops.toList.take n := by
      rw [List.mem_take_iff_getElem]
      obtain ⟨h, e⟩ := Array.getElem?_eq_some_iff.1 ho
      exact ⟨i, by simp; omega, by simpa using e⟩
    have ht' : ∀ t, n ≤ t → (listed.setIfInBounds i true).getD t false = false := fun t h => by
      rw [getD_set_ne false (by omega)]; exact ht t h
    have hholds : ∀ ts : List Nat, (∀ t ∈ ts, t ∈ o.looksAt ops) → Holds G a w ts := by
      intro ts
      induction ts with
      | nil => intro _; trivial
      | cons t ts iht =>
        intro hts'
        refine ⟨?_, iht fun x hx => hts' x (by simp [hx])⟩
        have hto := hts' t (by simp)
        by_cases hw : ∃ (j : Nat) (oj : Oper), j < n ∧ ops[j]? = some oj ∧ oj.dst = some t
        · obtain ⟨j, oj, hjn, hj, hdj⟩ := hw
          have h1 := List.all_eq_true.1 (List.all_eq_true.1 (List.all_eq_true.1 hrd o hmemT) t hto) j (List.mem_range.2 hjn)
          simp only [hj, hdj, bne_self_eq_false, Bool.false_or, List.any_eq_true, beq_iff_eq] at h1
          obtain ⟨e, he, hej⟩ := h1
          rw [List.mem_filter] at he
          have hlj := hdep e (by simpa using he.1) he.2
          rw [hej] at hlj
          rcases inv.facts j oj t hj hdj hlj with ⟨_, hx⟩ | hx
          · have := hx i o ho hto
            rw [hnot] at this; cases this
          · exact hx
        · have hno : ∀ (j : Nat) (oj : Oper), j < n → ops[j]? = some oj → oj.dst ≠ some t := fun j oj hl hj hd => hw ⟨j, oj, hl, hj, hd⟩
          have h1 := List.all_eq_true.1 (List.all_eq_true.1 hro o hmemT) t hto
          rw [Bool.or_eq_true] at h1
          rcases h1 with h1 | h1
          · obtain ⟨v, hv, hg⟩ := holds_mem ro (hin w inv.world) t (by simpa using h1)
            exact ⟨v, (hkn t hno).trans hv, hg⟩
          · rw [List.any_eq_true] at h1
            obtain ⟨oj, hoj, hdj⟩ := h1
            rw [List.mem_take_iff_getElem] at hoj
            obtain ⟨j, hj, he⟩ := hoj
            have hjs : j < ops.size := by simp at hj; omega
            exact absurd (by simpa using hdj) (hno j oj (by simp at hj; omega) (by rw [Array.getElem?_eq_getElem hjs]; exact congrArg some (by simpa using he)))
    have next : ∀ v w', AtDst G v w' o.dst → S w' → E o.dst w w' → wpAny P .any ops Q fuel (listed.setIfInBounds i true) (a.put o.dst v) w' := by
      intro v w' hF hS hB
      refine ih _ _ _ ⟨by simp [inv.lsize], ?_, ?_, hS, ?_, hdown, ?_⟩ ?_ ht' hl'
      · cases hd : o.dst with
        | none => exact inv.tsize
        | some d => rw [put_tmps, Array.size_setIfInBounds]; exact inv.tsize
      · cases hd : o.dst with
        | none => exact inv.defers
        | some d => exact inv.defers
      · intro t ht
        have hne := ht i o ho
        cases hd : o.dst with
        | none => exact inv.known t ht
        | some d =>
          rw [put_tmps, Array.getElem?_setIfInBounds_ne (fun e => hne (by rw [hd, e]))]
          exact inv.known t ht
      · intro j oj d' hj hdj hlj
        by_cases hji : j = i
        · subst hji
          have : oj = o := Option.some.inj (hj.symm.trans ho)
          subst this
          refine .inr ⟨v, ?_, ?_⟩
          · rw [hdj, put_tmps]
            have := shape_lt hsh ho hdj
            rw [Array.getElem?_setIfInBounds_self_of_lt (by rw [inv.tsize]; exact this)]
          · rw [hdj] at hF; exact hF
        · have hlj' : listed.getD j false = true := by rw [getD_set_ne false (Ne.symm hji)] at hlj; exact hlj
          have hjl : j < ops.size := (Array.getElem?_eq_some_iff.1 hj).1
          rcases inv.facts j oj d' hj hdj hlj' with ⟨hx, hy⟩ | ⟨u, hu, hFu⟩
          · exact .inl ⟨hx, fun r x hr hrd => hmore r (hy r x hr hrd)⟩
          · have hp := List.all_eq_true.1 (List.all_eq_true.1 hok j (List.mem_range.2 hjl)) i (List.mem_range.2 hlt)
            simp only [hj, ho, hdj, Bool.or_eq_true] at hp
            cases hk : ok d' o.dst with
            | true =>
              refine .inr ⟨u, ?_, hstab d' o.dst u w w' hk inv.world hFu hB⟩
              cases hd : o.dst with
              | none => exact hu
              | some d =>
                have hne := shape_one hsh hj hdj ho (Ne.symm hji)
                rw [put_tmps, Array.getElem?_setIfInBounds_ne (fun e => hne (by rw [hd, e]))]
                exact hu
            | false =>
              rw [hk] at hp
              rcases hp with (hp | hp) | hp
              · cases hp
              · have := ancs_listed inv.down ops.size [j] (by simpa using hlj') i (by simpa using hp)
                rw [hnot] at this; cases this
              · refine .inl ⟨⟨_, hk⟩, fun r x hr hrx => ?_⟩
                have hrl : r < ops.size := (Array.getElem?_eq_some_iff.1 hr).1
                have h2 := List.all_eq_true.1 hp r (List.mem_range.2 hrl)
                simp only [hr, Bool.or_eq_true] at h2
                rcases h2 with h2 | h2
                · simp [hrx] at h2
                · exact ancs_listed hdown ops.size [i] (by simpa using hself) r (by simpa using h2)
      · intro t ht
        have hne := ht i o hin0 ho
        cases hd : o.dst with
        | none => exact hkn t ht
        | some d =>
          rw [put_tmps, Array.getElem?_setIfInBounds_ne (fun e => hne (by rw [hd, e]))]
          exact hkn t ht
    have hs := oweE_at (ops.toList.take n) howe o hmemT a w inv.world (hholds _ fun _ h => h) _ next
    unfold wpOp
    simp only [ho]
    split
    · rename_i hw; rw [if_pos hw] at hs; exact .inl hs
    · rename_i hw; rw [if_neg hw] at hs; exact hs

/-- A region that draws, whose operations from n on come last, in their order. -/
theorem wp_region_slotsH {id : Nat} {a0 : Act} {w : World} (n : Nat) (hn : n ≤ ops.size) (htl : regTail ops n = true) (hsq : Region.seqB .any ops (ops.size - n) n (headDone ops n) = true) (ok : Nat → Option Nat → Bool) (S : World → Prop) (G : Nat → Value → World → Prop) (E : Option Nat → World → World → Prop) (hm : P.follows .mixedOrders = true) (hsh : regShape ops a0.tmps.size = true)
    (hrd : regReadsH ops n = true) (hok : regPairs ops ok = true)
    (hstab : ∀ t d v w w', ok t d = true → S w → G t v w → E d w w' → G t v w') (hS : S w.drew) (ro : List Nat) (hro : regRoH ops n ro = true) (hin : ∀ w, S w → Holds G a0 w ro)
    (howe : OweAllE P ops Q S G E (ops.toList.take n))
    (hend : ∀ (a : Act) (w : World), S w → a.tmps.size = a0.tmps.size → a.defers = a0.defers → (∀ t, (∀ (j : Nat) (oj : Oper), j < n → ops[j]? = some oj → oj.dst ≠ some t) → a.tmps[t]? = a0.tmps[t]?) →
      (∀ (i : Nat) (o : Oper) (d : Nat), i < n → ops[i]? = some o → o.dst = some d → (∀ d', ok d d' = true) → ∃ v, a.tmps[d]? = some v ∧ G d v w) → wpList P ops Q (ops.toList.drop n) a w) :
    (Code.region id ops true).wp P Q a0 w := by
  refine wp_region_any hm (wpAny_factsH n hn htl hsq hsh hrd hok hstab ro hro hin howe hend ops.size _ a0 _ ⟨by simp, rfl, rfl, hS, fun _ _ => rfl, ?_, ?_⟩ (fun _ _ => rfl) ?_ ?_)
  · intro i o ho hl
    have hlt : i < ops.size := (Array.getElem?_eq_some_iff.1 ho).1
    simp [hlt] at hl
  · intro i o d ho _ hl
    have hlt : i < ops.size := (Array.getElem?_eq_some_iff.1 ho).1
    simp [hlt] at hl
  · intro t _
    exact getD_replicate_false _ _
  · simp only [left, Array.toList_replicate]
    rw [List.countP_replicate]
    simp
end

/-- The frame behind such a region: only what the first n write is new. -/
def dstInH (ops : Array Oper) (n : Nat) (ds : List Nat) : Bool := (ops.toList.take n).all fun o => match o.dst with | none => true | some d => ds.contains d
theorem act_putsH {ops : Array Oper} {n : Nat} {a a0 : Act} (L : List (Nat × Value)) (hts : a.tmps.size = a0.tmps.size) (hd : a.defers = a0.defers)
    (hkn : ∀ t, (∀ (j : Nat) (oj : Oper), j < n → ops[j]? = some oj → oj.dst ≠ some t) → a.tmps[t]? = a0.tmps[t]?) (hall : dstInH ops n (L.map (·.1)) = true) (hv : ∀ p ∈ L, a.tmps[p.1]? = some p.2) :
    a = { a0 with tmps := L.foldl (fun x p => x.setIfInBounds p.1 p.2) a0.tmps } := by
  have h := tmps_sets a.tmps L a0.tmps hts.symm hv fun t ht => by
    refine (hkn t fun j oj hl hj hd => ?_).symm
    have h1 := List.all_eq_true.1 hall oj (by
      rw [List.mem_take_iff_getElem]
      obtain ⟨h, e⟩ := Array.getElem?_eq_some_iff.1 hj
      exact ⟨j, by simp; omega, by simpa using e⟩)
    rw [hd] at h1
    simp only [List.contains_eq_mem, List.mem_map, decide_eq_true_eq] at h1
    obtain ⟨p, hp, e⟩ := h1
    exact ht p hp e
  rw [h]
  cases a; cases a0; cases hd; rfl
end Go.Proofs.YtcidimjjclanmaaDoor

/- The reference's walker: which names are open, by plain lists; the walker in memory; names found. -/
namespace Go.Proofs.YtcidimjjclanmaaDoor.Sy.Ap.Wk
open Go.RowKit
set_option maxRecDepth 100000
set_option linter.unusedVariables false

/-! ### The Defs that are not being walked -/
def opD : List Df → List Bool → List Df
  | d :: D, b :: o => if b then opD D o else d :: opD D o
  | _, _ => []
theorem opD_mem {d : Df} : ∀ (D : List Df) (o : List Bool), d ∈ opD D o ↔ ∃ k : Nat, D[k]? = some d ∧ o[k]? = some false
  | [], o => by
    unfold opD
    constructor
    · intro h; cases h
    · rintro ⟨k, h, _⟩; simp at h
  | x :: D, [] => by
    unfold opD
    constructor
    · intro h; cases h
    · rintro ⟨k, _, h⟩; simp at h
  | x :: D, b :: o => by
    have ih := opD_mem (d := d) D o
    unfold opD
    constructor
    · intro h
      cases b with
      | true =>
        simp only [if_true] at h
        obtain ⟨k, h1, h2⟩ := ih.1 h
        exact ⟨k + 1, by simpa using h1, by simpa using h2⟩
      | false =>
        simp only [Bool.false_eq_true, if_false] at h
        rcases List.mem_cons.1 h with rfl | h
        · exact ⟨0, rfl, rfl⟩
        · obtain ⟨k, h1, h2⟩ := ih.1 h
          exact ⟨k + 1, by simpa using h1, by simpa using h2⟩
    · rintro ⟨k, h1, h2⟩
      cases k with
      | zero =>
        simp at h1 h2
        subst h1 h2
        simp
      | succ k =>
        have h3 := ih.2 ⟨k, by simpa using h1, by simpa using h2⟩
        cases b with
        | true => simpa using h3
        | false => simp [h3]
theorem opD_sub : ∀ (D : List Df) (o : List Bool), (opD D o).Sublist D
  | [], o => by unfold opD; exact List.Sublist.slnil
  | x :: D, [] => by unfold opD; exact List.nil_sublist _
  | x :: D, b :: o => by
    unfold opD
    split
    · exact (opD_sub D o).cons x
    · exact (opD_sub D o).cons_cons x
theorem opD_all : ∀ (D : List Df), opD D (List.replicate D.length false) = D
  | [] => rfl
  | x :: D => by
    rw [List.length_cons, List.replicate_succ, opD, opD_all D]
    rfl
abbrev Apart (D : List Df) : Prop := D.Pairwise fun a b => a.1 ≠ b.1
theorem apart_at {D : List Df} (h : Apart D) {j k : Nat} {a b : Df} (hj : D[j]? = some a) (hk : D[k]? = some b) (he : a.1 = b.1) : j = k := by
  obtain ⟨hjl, rfl⟩ := List.getElem?_eq_some_iff.1 hj
  obtain ⟨hkl, rfl⟩ := List.getElem?_eq_some_iff.1 hk
  rcases Nat.lt_trichotomy j k with q | q | q
  · exact absurd he (List.pairwise_iff_getElem.1 h j k hjl hkl q)
  · exact q
  · exact absurd he.symm (List.pairwise_iff_getElem.1 h k j hkl hjl q)
section
variable {D : List Df} {o : List Bool} {k : Nat} {d : Df}
theorem find_shut (hp : Apart D) (hk : D[k]? = some d) (ho : o[k]? = some false) : findD (opD D o) d.1 = some d.2 :=
  (findD_iff (hp.sublist (opD_sub D o)) _ _).2 ((opD_mem D o).2 ⟨k, hk, ho⟩)
theorem find_open (hp : Apart D) (hk : D[k]? = some d) (ho : o[k]? = some true) : findD (opD D o) d.1 = none := by
  cases h : findD (opD D o) d.1 with
  | none => rfl
  | some t =>
    obtain ⟨j, h1, h2⟩ := (opD_mem D o).1 (findD_mem h)
    have := apart_at hp h1 hk rfl
    subst this
    rw [ho] at h2
    cases h2
theorem find_no {nm : List Nat} (h : ∀ x ∈ D, x.1 ≠ nm) : findD (opD D o) nm = none := by
  cases h2 : findD (opD D o) nm with
  | none => rfl
  | some t => exact absurd rfl (h _ ((opD_sub D o).subset (findD_mem h2)))
theorem all_no {nm : List Nat} (h : ∀ x ∈ D, x.1 ≠ nm) : allD D nm = false := by
  unfold allD
  cases h2 : findD D nm with
  | none => rfl
  | some t => exact absurd rfl (h _ (findD_mem h2))
theorem all_yes (hp : Apart D) (hk : D[k]? = some d) : allD D d.1 = true := by
  unfold allD
  rw [(findD_iff hp d.1 d.2).2 (List.mem_of_getElem? hk)]
  rfl
theorem find_set (hp : Apart D) (hk : D[k]? = some d) (ho : o[k]? = some false) (m : List Nat) : findD (opD D (o.set k true)) m = findD (remD (opD D o) d.1) m := by
  have hs := hp.sublist (opD_sub D (o.set k true))
  have hko : k < o.length := (List.getElem?_eq_some_iff.1 ho).1
  rw [findD_rem]
  apply Option.ext
  intro t
  rw [findD_iff hs, opD_mem]
  by_cases hm : m = d.1
  · rw [if_pos hm]
    constructor
    · rintro ⟨j, h1, h2⟩
      have := apart_at hp h1 hk (by rw [hm])
      subst this
      rw [List.getElem?_set_self hko] at h2
      cases h2
    · intro h; cases h
  · rw [if_neg hm, findD_iff (hp.sublist (opD_sub D o)), opD_mem]
    constructor
    · rintro ⟨j, h1, h2⟩
      have hj : k ≠ j := fun e => by
        subst e
        rw [hk] at h1
        cases h1
        exact hm rfl
      rw [List.getElem?_set_ne hj] at h2
      exact ⟨j, h1, h2⟩
    · rintro ⟨j, h1, h2⟩
      have hj : k ≠ j := fun e => by
        subst e
        rw [hk] at h1
        cases h1
        exact hm rfl
      exact ⟨j, h1, by rw [List.getElem?_set_ne hj]; exact h2⟩
end
def shut (o : List Bool) : Nat := o.countP fun b => !b
theorem shut_set {o : List Bool} {k : Nat} (h : o[k]? = some false) : shut (o.set k true) + 1 = shut o := left_set o k h

/-! ### The walker in memory -/
/-- All blocks but those of P are as they were. -/
structure Keeps (P : Nat → Prop) (u u' : World) : Prop where
  os : u'.os = u.os
  tape : u'.tape = u.tape
  output : u'.output = u.output
  size : u.heap.size ≤ u'.heap.size
  block : ∀ k, k < u.heap.size → ¬ P k → u'.heap[k]? = u.heap[k]?
theorem Keeps.below {P : Nat → Prop} {u u' : World} (h : Keeps P u u') {B : Nat} (hB : B ≤ u.heap.size) (hP : ∀ k, P k → B ≤ k) : Below B u u' :=
  ⟨h.os, h.tape, h.output, h.size, fun k hk => h.block k (by omega) (fun q => by have := hP k q; omega)⟩
theorem Keeps.of_below {P : Nat → Prop} {u u' : World} (h : Below u.heap.size u u') : Keeps P u u' := ⟨h.os, h.tape, h.output, h.size, fun k hk _ => h.block k hk⟩
theorem Keeps.trans {P Q : Nat → Prop} {u v w : World} (h : Keeps P u v) (h2 : Keeps Q v w) (hQ : ∀ k, k < u.heap.size → ¬ P k → ¬ Q k) : Keeps P u w :=
  ⟨h2.os.trans h.os, h2.tape.trans h.tape, h2.output.trans h.output, Nat.le_trans h.size h2.size, fun k hk hp => (h2.block k (Nat.lt_of_lt_of_le hk h.size) (hQ k hk hp)).trans (h.block k hk hp)⟩
theorem keeps_set {P : Nat → Prop} {u u' : World} (h : Keeps P u u') (p : Addr) (v : Value) (hp : P p.block ∨ u.heap.size ≤ p.block) : Keeps P u (u'.setCell p v) :=
  ⟨h.os, h.tape, h.output, by simpa [World.setCell] using h.size, fun k hk hn => (Below.heap_setCell u' p v k (fun e => by rcases hp with q | q; exact hn (e ▸ q); omega)).trans (h.block k hk hn)⟩
theorem keeps_grown {P : Nat → Prop} {u v w : World} {row : Option Nat} (h : Keeps P u v) (hg : v.grownBy w row) (hr : ∀ k, row = some k → P k ∨ u.heap.size ≤ k) : Keeps P u w :=
  ⟨hg.os.trans h.os, hg.tape.trans h.tape, hg.output.trans h.output, Nat.le_trans h.size hg.size, fun k hk hn => (hg.block k (Nat.lt_of_lt_of_le hk h.size) (fun e => by rcases hr k e.symm with q | q; exact hn q; omega)).trans (h.block k hk hn)⟩
theorem own_keeps {P : Nat → Prop} {u u' : World} {base : Nat} {e : TypeId} {sz n : Nat} {v : Value} {xs : List Value} (h : u.ownsRow base e sz v n xs) (hk : Keeps P u u') (hp : ∀ k, v.ownBlock = some k → ¬ P k) : u'.ownsRow base e sz v n xs := by
  have hl := h.lt
  obtain ⟨h1, h2⟩ := h
  refine ⟨h1, ?_⟩
  rcases h2 with h2 | ⟨g, cap, cur, hv, hg, hh, r⟩
  · exact .inl h2
  · have hgb : v.ownBlock = some g := by rw [hv]; rfl
    exact .inr ⟨g, cap, cur, hv, hg, (hk.block g (hl g hgb).2 (hp g hgb)).trans hh, r⟩
theorem row_keeps {P : Nat → Prop} {u u' : World} {g : Nat} {t : TypeId} {cs : Array Value} (r : RowA u g t cs) (hk : Keeps P u u') (hp : ¬ P g) : RowA u' g t cs := (hk.block g r.lt hp).trans r
abbrev wkC (A2 : Option Addr) (m c2 ob : Nat) (nv : Value) (e : Int) : Array Value := #[.slice A2 m c2, .slice (some ⟨ob, 0, none⟩) m m, nv, .int .i64 e]
/-- What a walk may write. -/
def Wr (b ob : Nat) (nv : Value) (k : Nat) : Prop := k = b ∨ k = ob ∨ nv.ownBlock = some k
section
variable {B : Nat} {w w' : World} {b ob m : Nat} {A2 : Option Addr} {c2 : Nat} {nv : Value} {l : List NR} {o : List Bool} {e : Int}
theorem map_set (o : List Bool) (k : Nat) (x : Bool) : ((o.map Value.bool).toArray.setIfInBounds k (.bool x)) = ((o.set k x).map Value.bool).toArray := by
  rw [List.map_set]
  simp
end
/-! ### A name found -/
def FndR (ds : List DG) (nm : ByteArray) (e : Ending) : Prop := (e = .returned (.int .i64 (-1)) ∧ ∀ d ∈ ds, d.1 ≠ nm) ∨ ∃ k : Nat, e = .returned (.int .i64 (k : Int)) ∧ k < ds.length ∧ (ds.getD k dg0).1 = nm
end Go.Proofs.YtcidimjjclanmaaDoor.Sy.Ap.Wk

namespace Go.Proofs.YtcidimjjclanmaaDoor.Sy.Ap.Wk
open Go.RowKit
set_option maxRecDepth 100000
set_option linter.unusedVariables false

/-! ### By plain lists -/
theorem forest_nil {ns : List Nd} {a b : Nat} (h : Forest ns a b []) : b = a := by
  generalize hk : ([] : List Nat) = ks at h
  cases h with
  | nil => rfl
  | snoc => simp at hk
theorem top1 {ns : List Nd} {b i : Nat} (h : Forest ns b (i + 1) [i]) : ∃ n, ns[i]? = some n ∧ Forest ns b i n.l := by
  have hp := h.pos (by simp)
  obtain ⟨b', ks2, n, e, hn, f1, f2⟩ := h.top (by omega)
  have hk : ks2 = [] := by
    cases ks2 with
    | nil => rfl
    | cons x r => have := congrArg List.length e; simp at this
  subst hk
  have := forest_nil f1
  subst this
  exact ⟨n, hn, f2⟩
theorem kid_step {ns : List Nd} {mid c k : Nat} {r : List Nat} (h : Forest ns mid c (k :: r)) : Forest ns mid (k + 1) [k] ∧ Forest ns (k + 1) c r := by
  obtain ⟨m, f1, f2⟩ := h.split [k] r rfl
  have := f1.last
  subst this
  exact ⟨f1, f2⟩
theorem seg_shp {ns : List Nd} (h : Shp ns) (a b : Nat) : Shp (seg ns a b) := fun n hn => h n (List.mem_of_mem_drop (List.mem_of_mem_take hn))
section
variable {all : List Nat → Bool} {D : List Df} {ns : List Nd} {bb mid k c : Nat} {out : List Nd}
theorem seg_hts (h : Forest ns mid (k + 1) [k]) : hts 0 (seg ns mid (k + 1)) = some 1 := by
  have := h.hts 0
  simpa using this
/-- One kid more. -/
theorem kid_ok (hT : TreesD D) (hs : Shp ns) {x y : X} (h0 : bb ≤ mid) (hf : Forest ns mid (k + 1) [k]) (h1 : exF all D (seg ns bb mid) ⟨out, []⟩ = .ok x) (h2 : exF all D (seg ns mid (k + 1)) ⟨x.out, []⟩ = .ok y) : exF all D (seg ns bb (k + 1)) ⟨out, []⟩ = .ok ⟨y.out, x.rt ++ y.rt⟩ := by
  rw [seg_join h0 hf.le, exF_append, h1]
  have h3 := exF_pre (all := all) hT (seg_shp hs mid (k + 1)) (x := ⟨x.out, []⟩) (seg_hts hf) x.rt
  unfold preX at h3
  simp only [List.append_nil] at h3
  show exF all D (seg ns mid (k + 1)) x = _
  have e : x = ⟨x.out, x.rt⟩ := rfl
  rw [e, h3, h2]
  rfl
theorem kid_bad (hT : TreesD D) (hs : Shp ns) {x : X} {q : Nat} (h0 : bb ≤ mid) (hf : Forest ns mid (k + 1) [k]) (hc : k + 1 ≤ c) (h1 : exF all D (seg ns bb mid) ⟨out, []⟩ = .ok x) (h2 : exF all D (seg ns mid (k + 1)) ⟨x.out, []⟩ = .error q) : exF all D (seg ns bb c) ⟨out, []⟩ = .error q := by
  have hle := hf.le
  have h3 : exF all D (seg ns bb (k + 1)) ⟨out, []⟩ = .error q := by
    rw [seg_join h0 hle, exF_append, h1]
    have h3 := exF_pre (all := all) hT (seg_shp hs mid (k + 1)) (x := ⟨x.out, []⟩) (seg_hts hf) x.rt
    unfold preX at h3
    simp only [List.append_nil] at h3
    show exF all D (seg ns mid (k + 1)) x = _
    have e : x = ⟨x.out, x.rt⟩ := rfl
    rw [e, h3, h2]
    rfl
  rw [seg_join (b := k + 1) (by omega) hc, exF_append, h3]
theorem put_all {n : Nd} {x : X} (hn : ns[c]? = some n) (h6 : n.op ≠ 6) (h0 : bb ≤ c) (h1 : exF all D (seg ns bb c) ⟨out, []⟩ = .ok x) (hl : x.rt.length = n.l.length) : exF all D (seg ns bb (c + 1)) ⟨out, []⟩ = if 1024 ≤ x.out.length then .error 3 else .ok ⟨x.out ++ [withL n x.rt], [x.out.length]⟩ := by
  rw [seg_join h0 (Nat.le_succ c), seg_one hn, exF_append, h1]
  show exF all D [n] x = _
  by_cases hq : 1024 ≤ x.out.length
  · rw [exF_long h6 hq, if_pos hq]
  · rw [exF_put h6 hq, exF_nil, if_neg hq]
    unfold putX
    rw [hl, Nat.sub_self, List.drop_zero, List.take_zero]
    rfl
end
/-! ### What a walk owes -/
theorem lies_refl (u : World) (v : Value) : Lies u v v := .inl rfl
theorem lies_trans {u u1 : World} {v v1 v2 : Value} (hs : u.heap.size ≤ u1.heap.size) (h1 : Lies u v v1) (h2 : Lies u1 v1 v2) : Lies u v v2 := by
  rcases h2 with h2 | ⟨k, h2, h3⟩
  · rcases h1 with h1 | ⟨k, h1, h4⟩
    · exact .inl (h2.trans h1)
    · exact .inr ⟨k, h2.trans h1, h4⟩
  · exact .inr ⟨k, h2, Nat.le_trans hs h3⟩
theorem lies_wr {u : World} {v v1 : Value} {b ob k : Nat} (h : Lies u v v1) (hk : k < u.heap.size) (hn : ¬ Wr b ob v k) : ¬ Wr b ob v1 k := by
  rintro (q | q | q)
  · exact hn (.inl q)
  · exact hn (.inr (.inl q))
  · rcases h with h | ⟨j, h, h2⟩
    · exact hn (.inr (.inr (h ▸ q)))
    · rw [h] at q
      cases q
      omega
theorem gn_get {gs : List Gd} {ns : List Nd} (h : GN gs ns) {i : Nat} {n : Nd} (hn : ns[i]? = some n) : i < gs.length ∧ GN1 (gs.getD i gd0) n := by
  have hl : i < ns.length := (List.getElem?_eq_some_iff.1 hn).1
  have hl2 : i < gs.length := by rw [h.1]; exact hl
  have := h.2 i hl2
  rw [List.getD_eq_getElem?_getD (l := ns), hn] at this
  exact ⟨hl2, this⟩
end Go.Proofs.YtcidimjjclanmaaDoor.Sy.Ap.Wk

/- How a tree is printed, by chapter 5. Plain lists. -/
import Derived.Test.YtghjkbjpdjlddaaDoorVv
import Derived.Test.YtghjkbjpdjlddaaDoorM2
import Derived.Test.YtghjkbjpdjlddaaDoorM1
namespace Go.Proofs.YtghjkbjpdjlddaaDoor.Sy
set_option linter.unusedVariables false

def hexD (n : Nat) : Nat := if n < 10 then 48 + n else 87 + n
/-- A byte as it stands in a pattern. -/
def byteT (c : Nat) : List Nat :=
  if c = 10 then [92, 110] else if c = 9 then [92, 116] else if c = 13 then [92, 114]
  else if c < 32 ∨ 126 < c then [92, 120, hexD (c / 16), hexD (c % 16)]
  else if specialB c || c == 45 then [92, c] else [c]
def spanT (x : Int × Int) : List Nat := if x.1 < x.2 then byteT x.1.toNat ++ 45 :: byteT x.2.toNat else byteT x.1.toNat
def spn (p : Nat → Bool) : List (Int × Int) := spansL (lstB p 256)
def eqDot (p : Nat → Bool) : Bool := (List.range 256).all fun x => p x == dotS x
/-- A set as it stands in a pattern. -/
def setT (p : Nat → Bool) : List Nat :=
  if (spn p).length = 1 ∧ ((spn p).getD 0 (0, 0)).1 = ((spn p).getD 0 (0, 0)).2 then byteT ((spn p).getD 0 (0, 0)).1.toNat
  else if eqDot p then [46] else 91 :: ((spn p).flatMap spanT ++ [93])
/-- Bounds as they stand in a pattern. -/
def timesT (lo hi : Int) : List Nat :=
  if lo = 0 ∧ hi = -1 then [42] else if lo = 1 ∧ hi = -1 then [43] else if lo = 0 ∧ hi = 1 then [63]
  else if lo = hi then 123 :: (digs lo.toNat ++ [125]) else if hi = -1 then 123 :: (digs lo.toNat ++ [44, 125]) else 123 :: (digs lo.toNat ++ 44 :: (digs hi.toNat ++ [125]))
/-- Does a kid stand in parentheses? -/
def encB (k parent : Nat) : Bool := k == 4 || ((k == 1 || k == 3) && !(parent == 4))
def wrapT (b : Bool) (t : List Nat) : List Nat := if b then 40 :: (t ++ [41]) else t
def kidsT (sep : List Nat) (g : Nat → List Nat) (n : Nat) : List Nat := (List.range n).flatMap fun i => (if 0 < i then sep else []) ++ g i
theorem kidsT_zero (sep : List Nat) (g : Nat → List Nat) : kidsT sep g 0 = [] := rfl
theorem kidsT_succ (sep : List Nat) (g : Nat → List Nat) (n : Nat) : kidsT sep g (n + 1) = kidsT sep g n ++ ((if 0 < n then sep else []) ++ g n) := by
  unfold kidsT
  rw [List.range_succ, List.flatMap_append]
  simp
theorem kidsT_len (sep : List Nat) (g : Nat → List Nat) {i n : Nat} (h : i ≤ n) : (kidsT sep g i).length ≤ (kidsT sep g n).length := by
  induction h with
  | refl => exact Nat.le_refl _
  | step _ ih => rw [kidsT_succ, List.length_append]; omega
/-- A node, by its kids' texts. -/
def headT (kid : Nat → List Nat) (n : Nd) : List Nat :=
  if n.op = 2 then setT n.s else if n.op = 6 then 123 :: (n.name ++ [125])
  else if n.op = 5 then kidsT [] kid n.l.length ++ timesT n.lo n.hi
  else if n.op = 3 then kidsT [] kid n.l.length else if n.op = 4 then kidsT [124] kid n.l.length else []
def nodeT (ns : List Nd) : Nat → Nd → List Nat
  | 0, _ => []
  | f + 1, n => headT (fun i => wrapT (encB (ns.getD (n.l.getD i 0) nd0).op n.op) (nodeT ns f (ns.getD (n.l.getD i 0) nd0))) n
def kidT (ns : List Nd) (f : Nat) (n : Nd) (i : Nat) : List Nat := wrapT (encB (ns.getD (n.l.getD i 0) nd0).op n.op) (nodeT ns f (ns.getD (n.l.getD i 0) nd0))
theorem nodeT_succ (ns : List Nd) (f : Nat) (n : Nd) : nodeT ns (f + 1) n = headT (kidT ns f n) n := rfl
/-- A tree as a pattern. -/
def treeT (ns : List Nd) : List Nat := nodeT ns ns.length (ns.getD (ns.length - 1) nd0)

/-! Bytes. -/
theorem hexD_lt {n : Nat} (h : n < 16) : hexD n < 128 := by unfold hexD; split <;> omega
theorem byteT_fit : ∀ c, c < 256 → (∀ x ∈ byteT c, 32 ≤ x ∧ x ≤ 126) ∧ 1 ≤ (byteT c).length ∧ (byteT c).length ≤ 4 := by decide +kernel
theorem byteT_lt {c : Nat} (h : c < 256) : ∀ x ∈ byteT c, x < 256 := fun x hx => by have := (byteT_fit c h).1 x hx; omega
theorem spn_at (p : Nat → Bool) : ∀ x ∈ spn p, 0 ≤ x.1 ∧ x.1 ≤ x.2 ∧ x.2 ≤ 255 := fun x hx => by
  obtain ⟨k, hk, e0⟩ := List.getElem_of_mem hx
  have h := span_at p k hk
  have e : (spn p).getD k (0, 0) = x := by rw [List.getD_eq_getElem?_getD, List.getElem?_eq_getElem hk, e0]; rfl
  change 0 ≤ ((spn p).getD k (0, 0)).1 ∧ ((spn p).getD k (0, 0)).1 ≤ ((spn p).getD k (0, 0)).2 ∧ ((spn p).getD k (0, 0)).2 ≤ 255 at h
  rw [e] at h
  exact h
theorem spn_len (p : Nat → Bool) : (spn p).length ≤ 256 := Nat.le_trans (spans_len _) (lst_len p 256)
theorem spanT_fit {x : Int × Int} (h0 : 0 ≤ x.1) (h1 : x.1 ≤ x.2) (h2 : x.2 ≤ 255) : (∀ y ∈ spanT x, y < 256) ∧ (spanT x).length ≤ 9 := by
  have a := byteT_fit x.1.toNat (by omega)
  have b := byteT_fit x.2.toNat (by omega)
  unfold spanT
  split
  · refine ⟨fun y hy => ?_, by simp; omega⟩
    simp only [List.mem_append, List.mem_cons] at hy
    rcases hy with h | rfl | h
    · have := a.1 y h; omega
    · omega
    · have := b.1 y h; omega
  · exact ⟨fun y hy => by have := a.1 y hy; omega, by omega⟩
theorem flat_len {α : Type} (f : α → List Nat) (m : Nat) : ∀ l : List α, (∀ x ∈ l, (f x).length ≤ m) → (l.flatMap f).length ≤ m * l.length
  | [], _ => by simp
  | x :: r, h => by
    have h1 := flat_len f m r (fun y hy => h y (by simp [hy]))
    have h2 := h x (by simp)
    simp only [List.flatMap_cons, List.length_append, List.length_cons, Nat.mul_add, Nat.mul_one]
    omega
theorem setT_fit (p : Nat → Bool) : (∀ x ∈ setT p, x < 256) ∧ (setT p).length ≤ 2400 := by
  unfold setT
  split
  · rename_i h
    have hm : (spn p).getD 0 (0, 0) ∈ spn p := by rw [List.getD_eq_getElem?_getD, List.getElem?_eq_getElem (by omega)]; exact List.getElem_mem _
    have := spn_at p _ hm
    have := byteT_fit ((spn p).getD 0 (0, 0)).1.toNat (by omega)
    exact ⟨fun x hx => by have := this.1 x hx; omega, by omega⟩
  · split
    · exact ⟨by simp, by simp⟩
    · refine ⟨fun x hx => ?_, ?_⟩
      · simp only [List.mem_cons, List.mem_append, List.mem_flatMap] at hx
        rcases hx with rfl | ⟨y, hy, hx⟩ | rfl | h
        · omega
        · have := spn_at p y hy
          exact (spanT_fit this.1 this.2.1 this.2.2).1 x hx
        · omega
        · cases h
      · have h1 := flat_len spanT 9 (spn p) (fun y hy => by have := spn_at p y hy; exact (spanT_fit this.1 this.2.1 this.2.2).2)
        have h2 := spn_len p
        rw [List.length_cons, List.length_append, List.length_singleton]
        omega
theorem digs_fit {n : Nat} (h : n ≤ 9999) : (∀ x ∈ digs n, x < 256) ∧ (digs n).length ≤ 4 := by
  refine ⟨fun x hx => ?_, digs_len h⟩
  have := (digs_all n).2.1 x hx
  unfold digitB at this
  simp at this
  omega
theorem timesT_fit {lo hi : Int} (h0 : lo ≤ 9999) (h1 : hi ≤ 9999) : (∀ x ∈ timesT lo hi, x < 256) ∧ (timesT lo hi).length ≤ 11 := by
  have a := digs_fit (n := lo.toNat) (by omega)
  have b := digs_fit (n := hi.toNat) (by omega)
  unfold timesT
  repeat' split
  all_goals refine ⟨fun x hx => ?_, by simp; try omega⟩
  all_goals simp at hx
  · omega
  · omega
  · omega
  · rcases hx with rfl | h | rfl
    · omega
    · exact a.1 x h
    · omega
  · rcases hx with rfl | h | rfl | rfl
    · omega
    · exact a.1 x h
    · omega
    · omega
  · rcases hx with rfl | h | rfl | h | rfl
    · omega
    · exact a.1 x h
    · omega
    · exact b.1 x h
    · omega
theorem setT_congr {p q : Nat → Bool} (h : ∀ b, b < 256 → p b = q b) : setT p = setT q := by
  have e1 : lstB p 256 = lstB q 256 := by
    unfold lstB
    rw [List.filter_congr (fun x hx => h x (List.mem_range.1 hx))]
  have e2 : eqDot p = eqDot q := by
    unfold eqDot
    rw [Bool.eq_iff_iff, List.all_eq_true, List.all_eq_true]
    exact ⟨fun g x hx => by rw [← h x (List.mem_range.1 hx)]; exact g x hx, fun g x hx => by rw [h x (List.mem_range.1 hx)]; exact g x hx⟩
  unfold setT spn
  rw [e1, e2]
/-! The text of a tree is no longer than its nodes' own parts together, and of bytes. -/
/-- A node's own part: all but its kids' texts. -/
theorem wrapT_fit {b : Bool} {t : List Nat} (h : ∀ x ∈ t, x < 256) : (∀ x ∈ wrapT b t, x < 256) ∧ (wrapT b t).length ≤ t.length + 2 := by
  unfold wrapT
  split
  · refine ⟨fun x hx => ?_, by simp⟩
    simp at hx
    rcases hx with rfl | hx | rfl
    · omega
    · exact h x hx
    · omega
  · exact ⟨h, by omega⟩
theorem kidsT_fit {sep : List Nat} (hs : ∀ x ∈ sep, x < 256) (h1 : sep.length ≤ 1) {g : Nat → List Nat} : ∀ n, (∀ i, i < n → ∀ x ∈ g i, x < 256) → (∀ x ∈ kidsT sep g n, x < 256)
  | 0, _ => by simp [kidsT_zero]
  | n + 1, h => fun x hx => by
    rw [kidsT_succ] at hx
    simp only [List.mem_append] at hx
    rcases hx with hx | hx | hx
    · exact kidsT_fit hs h1 n (fun i hi => h i (by omega)) x hx
    · split at hx
      · exact hs x hx
      · cases hx
    · exact h n (by omega) x hx
theorem shape_op5 {n : Nd} (h : shapeB n = true) : n.op = 5 → n.lo ≤ 4096 ∧ n.hi ≤ 4096 ∧ 0 ≤ n.lo ∧ (n.hi = -1 ∨ n.lo ≤ n.hi) := by
  intro h5
  unfold shapeB at h
  rw [h5] at h
  simp at h
  omega
theorem shape_name {n : Nd} (h : shapeB n = true) : n.name.length ≤ 32 := by
  unfold shapeB at h
  repeat' split at h
  all_goals simp [nameB] at h
  all_goals (try (obtain ⟨⟨⟨_, h⟩, _⟩, _⟩ := h))
  all_goals (try (obtain ⟨⟨_, h⟩, _⟩ := h))
  all_goals (try (obtain ⟨_, h⟩ := h))
  all_goals (first | omega | simp_all)
end Go.Proofs.YtghjkbjpdjlddaaDoor.Sy

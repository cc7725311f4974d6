/- Plans of trees, by plain lists (chapter 8): what is put, and that it means what the tree does. -/
import Derived.Test.YtahhiajliomcfaaPCa
import Derived.Test.YtahhiajliomcfaaPAg
namespace Go.Proofs.Ytahhiajliomcfaa.Sy.Pl
open Go.RowKit Go.Proofs.Ytahhiajliomcfaa.Sy.Lg
set_option maxRecDepth 100000
set_option linter.unusedVariables false

/-- Nodes so far: none, where there would be too many. -/
abbrev PF := List Nd → Option (List Nd)
def putF (n : Nd) : PF := fun o => if o.length < 1024 then some (o ++ [n]) else none
/-- A plan some times, with the roots. -/
def timesF (P : PF) : Nat → List Nd → List Nat → Option (List Nd × List Nat)
  | 0, o, rs => some (o, rs)
  | t + 1, o, rs => match P o with
    | none => none
    | some o' => timesF P t o' (rs ++ [o'.length - 1])
def repeatF (P : PF) (lo hi : Int) : PF := fun o => (P o).bind fun o' => putF (ndRep (o'.length - 1) lo hi) o'
/-- The rest of one more. -/
def restF (P : PF) : Nat → PF
  | 0 => fun o => (putF ndEmpty o).bind fun o1 => (P o1).bind fun o2 => putF (ndAlt [o1.length - 1, o2.length - 1]) o2
  | t + 1 => fun o => (putF ndEmpty o).bind fun o1 => (P o1).bind fun o2 => (restF P t o2).bind fun o3 => (putF (ndCat [o2.length - 1, o3.length - 1]) o3).bind fun o4 => putF (ndAlt [o1.length - 1, o4.length - 1]) o4
def tailF (P : PF) (lo hi : Int) (o : List Nd) (rs : List Nat) : Option (List Nd × List Nat) :=
  if hi = -1 then (repeatF P 0 (-1) o).map fun o' => (o', rs ++ [o'.length - 1])
  else if lo < hi then (restF P (hi - lo - 1).toNat o).map fun o' => (o', rs ++ [o'.length - 1])
  else some (o, rs)
def catF (rs : List Nat) : PF := fun o => if rs.length = 1 then some o else putF (ndCat rs) o
def rowF (P : PF) (lo hi : Int) : PF := fun o => (timesF P lo.toNat o []).bind fun q => (tailF P lo hi q.1 q.2).bind fun q => catF q.2 q.1
def repF (P : PF) (single : Bool) (most : Nat) (lo hi : Int) : PF := fun o =>
  if single = true ∧ (most : Int) < hi then
    if lo = 0 then (putF ndEmpty o).bind fun o1 => (repeatF P 1 hi o1).bind fun o2 => putF (ndAlt [o1.length - 1, o2.length - 1]) o2
    else repeatF P lo hi o
  else if single = true ∧ hi = -1 ∧ (most : Int) < lo then
    (repeatF P lo lo o).bind fun o1 => (repeatF P 0 (-1) o1).bind fun o2 => putF (ndCat [o1.length - 1, o2.length - 1]) o2
  else rowF P lo hi o
def kidsF (P : Nat → PF) : List Nat → List Nd → List Nat → Option (List Nd × List Nat)
  | [], o, rs => some (o, rs)
  | k :: ks, o, rs => match P k o with
    | none => none
    | some o' => kidsF P ks o' (rs ++ [o'.length - 1])
def nd00 : Nd := ⟨0, noS, [], 0, 0, []⟩
def plan1 (ns : List Nd) (most : Nat) (n : Nd) (P : Nat → PF) : PF := fun o =>
  if n.op = 5 then repF (P (n.l.getD 0 0)) ((ns.getD (n.l.getD 0 0) nd00).op == 2) most n.lo n.hi o
  else (kidsF P n.l o []).bind fun q => putF (withL n q.2) q.1
def plF (ns : List Nd) (most : Nat) : Nat → Nat → PF
  | 0, _ => fun _ => none
  | f + 1, k => plan1 ns most (ns.getD k nd00) (plF ns most f)
/-- The plan of a node, behind what is there. -/
def pl (ns : List Nd) (most k : Nat) : PF := plF ns most (k + 1) k
/-- The plan of a tree. -/
def planN (ns : List Nd) (most : Nat) : Option (List Nd) := pl ns most (ns.length - 1) []

/-! ### Only kids count -/
theorem fun_eq {P Q : PF} (h : ∀ o, P o = Q o) : P = Q := funext h
theorem kidsF_congr {P Q : Nat → PF} : ∀ (ks : List Nat), (∀ k ∈ ks, ∀ o, P k o = Q k o) → ∀ (o : List Nd) (rs : List Nat), kidsF P ks o rs = kidsF Q ks o rs
  | [], _, o, rs => rfl
  | k :: ks, h, o, rs => by
    unfold kidsF
    rw [h k (by simp)]
    cases Q k o with
    | none => rfl
    | some o' => exact kidsF_congr ks (fun x hx => h x (by simp [hx])) _ _
theorem plan1_congr {ns : List Nd} {most : Nat} {n : Nd} {P Q : Nat → PF} (h5 : n.op = 5 → n.l ≠ []) (h : ∀ k ∈ n.l, ∀ o, P k o = Q k o) (o : List Nd) : plan1 ns most n P o = plan1 ns most n Q o := by
  unfold plan1
  split
  · rename_i q5
    have hm : n.l.getD 0 0 ∈ n.l := by
      cases hl : n.l with
      | nil => exact absurd hl (h5 q5)
      | cons z t => simp
    rw [fun_eq (h _ hm)]
  · rw [kidsF_congr n.l h]
theorem low_nd {ns : List Nd} (h : Low ns) (k : Nat) : ((ns.getD k nd00).op = 5 → (ns.getD k nd00).l ≠ []) ∧ ∀ c ∈ (ns.getD k nd00).l, c < k := low_kids h k
theorem plF_fuel {ns : List Nd} (hl : Low ns) (most : Nat) : ∀ (k f : Nat), k < f → ∀ o, plF ns most f k o = pl ns most k o := by
  intro k
  induction k using Nat.strongRecOn with
  | ind k ih =>
    intro f hf o
    obtain ⟨f', rfl⟩ : ∃ f', f = f' + 1 := ⟨f - 1, by omega⟩
    unfold pl plF
    have h := low_nd hl k
    refine plan1_congr h.1 (fun c hc o => ?_) o
    have hck := h.2 c hc
    rw [ih c hck f' (by omega), ih c hck k hck]
/-- The plan of a node, by those of its kids. -/
theorem pl_eq {ns : List Nd} (hl : Low ns) (most k : Nat) {n : Nd} (hn : ns[k]? = some n) (o : List Nd) : pl ns most k o = plan1 ns most n (pl ns most) o := by
  have h := low_nd hl k
  have e : ns.getD k nd00 = n := by rw [List.getD_eq_getElem?_getD, hn]; rfl
  rw [e] at h
  show plan1 ns most (ns.getD k nd00) (plF ns most k) o = _
  rw [e]
  exact plan1_congr h.1 (fun c hc o => plF_fuel hl most c k (h.2 c hc) o) o

/-! ### What grows -/
abbrev TR := List Nat → Rel
/-- o', behind o: trees with these roots, that mean so. -/
structure Grs (Rs : List TR) (o o' : List Nd) (rs : List Nat) : Prop where
  ext : ∃ x, o' = o ++ x
  frs : Forest o' o.length o'.length rs
  shp : Shp o → Shp o'
  pln : PlainN o → PlainN o'
  low : Low o → Low o'
  few : o.length ≤ 1024 → o'.length ≤ 1024
  len : rs.length = Rs.length
  mt : Low o → ∀ t q, q < rs.length → ∀ i j, Mt o' t (rs.getD q 0) i j ↔ (Rs.getD q (fun _ _ _ => False)) t i j
theorem Grs.nil (o : List Nd) : Grs [] o o [] := ⟨⟨[], by simp⟩, Forest.nil _, fun h => h, fun h => h, fun h => h, fun h => h, rfl, fun _ _ q hq => by cases hq⟩
theorem forest_lt {ns : List Nd} {a b : Nat} {ks : List Nat} (h : Forest ns a b ks) : ∀ k ∈ ks, k < b := by
  induction h with
  | nil => intro k hk; cases hk
  | @snoc a b c ks n h1 hn h2 i1 i2 =>
    intro k hk
    have := h2.le
    rcases List.mem_append.1 hk with q | q
    · have := i1 k q; omega
    · rw [List.mem_singleton] at q; omega
theorem Grs.join {Rs Rs2 : List TR} {o o1 o2 : List Nd} {rs rs2 : List Nat} (h : Grs Rs o o1 rs) (h2 : Grs Rs2 o1 o2 rs2) : Grs (Rs ++ Rs2) o o2 (rs ++ rs2) := by
  obtain ⟨x, hx⟩ := h.ext
  obtain ⟨y, hy⟩ := h2.ext
  refine ⟨⟨x ++ y, by rw [hy, hx, List.append_assoc]⟩, ?_, fun q => h2.shp (h.shp q), fun q => h2.pln (h.pln q), fun q => h2.low (h.low q), fun q => h2.few (h.few q), by rw [List.length_append, List.length_append, h.len, h2.len], fun hl t q hq i j => ?_⟩
  · have f1 : Forest o2 o.length o1.length rs := by rw [hy]; exact h.frs.more y
    exact f1.join h2.frs
  · rw [List.length_append] at hq
    rcases Nat.lt_or_ge q rs.length with r | r
    · rw [List.getD_eq_getElem?_getD, List.getElem?_append_left r, List.getD_eq_getElem?_getD, List.getElem?_append_left (by rw [← h.len]; exact r), ← List.getD_eq_getElem?_getD, ← List.getD_eq_getElem?_getD, ← h.mt hl t q r i j]
      have hm : rs.getD q 0 ∈ rs := by
        rw [List.getD_eq_getElem?_getD, List.getElem?_eq_getElem r]
        exact List.getElem_mem r
      have hk := forest_lt h.frs _ hm
      have hlow2 := h2.low (h.low hl)
      rw [hy] at hlow2 ⊢
      exact Mt_more hlow2 (h.low hl) t _ hk i j
    · rw [List.getD_eq_getElem?_getD, List.getElem?_append_right r, List.getD_eq_getElem?_getD, List.getElem?_append_right (by rw [← h.len]; exact r), ← List.getD_eq_getElem?_getD, ← List.getD_eq_getElem?_getD, ← h.len]
      exact h2.mt (h.low hl) t _ (by omega) i j
/-- A node over all that is new. -/
theorem Grs.put {Rs : List TR} {o o1 o2 : List Nd} {rs : List Nat} {n : Nd} {R : TR} (h : Grs Rs o o1 rs) (hp : putF n o1 = some o2) (hn : n.l = rs) (hs : shapeB n = true) (h6 : n.op ≠ 6) (h5 : n.op = 5 → n.l ≠ [])
    (hR : Low o → ∀ t i j, (node1 t n (Mt o2 t) i j ↔ R t i j)) : Grs [R] o o2 [o2.length - 1] := by
  unfold putF at hp
  split at hp
  · rename_i hlt
    obtain rfl := Option.some.inj hp
    obtain ⟨x, hx⟩ := h.ext
    have hlow : Low o → Low (o1 ++ [n]) := fun hl i m hm => by
      rcases Nat.lt_or_ge i o1.length with r | r
      · rw [List.getElem?_append_left r] at hm
        exact h.low hl i m hm
      · rw [List.getElem?_append_right r] at hm
        have hi : i = o1.length := by
          have := (List.getElem?_eq_some_iff.1 hm).1
          simp at this
          omega
        subst hi
        simp at hm
        subst hm
        refine ⟨h5, fun c hc => ?_⟩
        rw [hn] at hc
        exact forest_lt h.frs c hc
    have e : (o1 ++ [n]).length - 1 = o1.length := by simp
    refine ⟨⟨x ++ [n], by rw [hx, List.append_assoc]⟩, ?_, fun q => (h.shp q).put hs, fun q m hm => ?_, hlow, fun q => by rw [List.length_append, List.length_singleton]; omega, rfl, fun hl t q hq i j => ?_⟩
    · rw [e]
      have f1 : Forest o1 o.length o1.length ([] ++ n.l) := by rw [List.nil_append, hn]; exact h.frs
      exact Forest.put (xs := []) f1 rfl
    · rcases List.mem_append.1 hm with r | r
      · exact h.pln q m r
      · rw [List.mem_singleton] at r
        subst r
        exact h6
    · have hq0 : q = 0 := by simp at hq; exact hq
      subst hq0
      show Mt (o1 ++ [n]) t ((o1 ++ [n]).length - 1) i j ↔ R t i j
      rw [e, Mt_eq (hlow hl) t o1.length (n := n) (by simp)]
      exact hR hl t i j
  · cases hp
theorem put_some {n : Nd} {o o2 : List Nd} (h : putF n o = some o2) : o2 = o ++ [n] := by
  unfold putF at h
  split at h
  · exact (Option.some.inj h).symm
  · cases h
/-- What the roots mean with a node more. -/
theorem Grs.mt2 {Rs : List TR} {o o1 o2 : List Nd} {rs : List Nat} {n : Nd} (h : Grs Rs o o1 rs) (hp : putF n o1 = some o2) (hl : Low o) (hl2 : Low o2) (t : List Nat) {q : Nat} (hq : q < rs.length) (i j : Nat) : Mt o2 t (rs.getD q 0) i j ↔ (Rs.getD q (fun _ _ _ => False)) t i j := by
  obtain rfl := put_some hp
  rw [← h.mt hl t q hq]
  refine Mt_more hl2 (h.low hl) t _ (forest_lt h.frs _ ?_) i j
  rw [List.getD_eq_getElem?_getD, List.getElem?_eq_getElem hq]
  exact List.getElem_mem hq
/-! ### One kind after another -/
def eqR : TR := fun _ i j => i = j
def orR (a b : TR) : TR := fun t i j => a t i j ∨ b t i j
def thenR (a b : TR) : TR := fun t i j => ∃ m, a t i m ∧ b t m j
def timR (a : TR) (lo hi : Int) : TR := fun t => repR (a t) lo hi
/-- All in a row. -/
def allR : List TR → TR
  | [] => eqR
  | a :: l => thenR a (allR l)
theorem low_put {o1 o2 : List Nd} {n : Nd} {rs : List Nat} {o : List Nd} {Rs : List TR} (h : Grs Rs o o1 rs) (hp : putF n o1 = some o2) (hn : n.l = rs) (h5 : n.op = 5 → n.l ≠ []) (hl : Low o) : Low o2 := by
  obtain rfl := put_some hp
  intro i m hm
  rcases Nat.lt_or_ge i o1.length with r | r
  · rw [List.getElem?_append_left r] at hm
    exact h.low hl i m hm
  · rw [List.getElem?_append_right r] at hm
    have hi : i = o1.length := by
      have := (List.getElem?_eq_some_iff.1 hm).1
      simp at this
      omega
    subst hi
    simp at hm
    subst hm
    refine ⟨h5, fun c hc => ?_⟩
    rw [hn] at hc
    exact forest_lt h.frs c hc
theorem grs_empty {o o1 : List Nd} (hp : putF ndEmpty o = some o1) : Grs [eqR] o o1 [o1.length - 1] :=
  (Grs.nil o).put hp rfl (by decide) (by decide) (fun h => absurd h (by decide)) (fun _ _ _ _ => Iff.rfl)
theorem chain_all {M : Nat → Rel} {t : List Nat} : ∀ {rs : List Nat} {Rs : List TR}, rs.length = Rs.length → (∀ q, q < rs.length → ∀ i j, M (rs.getD q 0) i j ↔ (Rs.getD q (fun _ _ _ => False)) t i j) → ∀ i j, chainR M rs i j ↔ allR Rs t i j
  | [], [], _, _, i, j => Iff.rfl
  | r :: rs, R :: Rs, hlen, h, i, j => by
    have h0 := h 0 (by simp)
    have hs := chain_all (M := M) (t := t) (rs := rs) (Rs := Rs) (by simpa using hlen) (fun q hq i j => by
      have := h (q + 1) (by simpa using hq) i j
      simpa using this)
    show (∃ m, M r i m ∧ chainR M rs m j) ↔ ∃ m, R t i m ∧ allR Rs t m j
    constructor
    · rintro ⟨m, q1, q2⟩
      exact ⟨m, (h0 i m).1 q1, (hs m j).1 q2⟩
    · rintro ⟨m, q1, q2⟩
      exact ⟨m, (h0 i m).2 q1, (hs m j).2 q2⟩
  | [], _ :: _, h, _, _, _ => by cases h
  | _ :: _, [], h, _, _, _ => by cases h
theorem grs_cat {Rs : List TR} {o o1 o2 : List Nd} {rs : List Nat} (h : Grs Rs o o1 rs) (h2 : 2 ≤ rs.length) (hp : putF (ndCat rs) o1 = some o2) : Grs [allR Rs] o o2 [o2.length - 1] :=
  h.put hp rfl (shape_kids h2).1 (by show (3 : Nat) ≠ 6; omega) (fun q => absurd q (by show (3 : Nat) ≠ 5; omega)) fun hl t i j => by
    have hl2 := low_put h hp rfl (fun q => absurd q (by show (3 : Nat) ≠ 5; omega)) hl
    show chainR (Mt o2 t) rs i j ↔ _
    exact chain_all h.len (fun q hq i j => h.mt2 hp hl hl2 t hq i j) i j
theorem grs_alt {a b : TR} {o o1 o2 : List Nd} {x y : Nat} (h : Grs [a, b] o o1 [x, y]) (hp : putF (ndAlt [x, y]) o1 = some o2) : Grs [orR a b] o o2 [o2.length - 1] :=
  h.put hp rfl (shape_kids (by simp)).2 (by show (4 : Nat) ≠ 6; omega) (fun q => absurd q (by show (4 : Nat) ≠ 5; omega)) fun hl t i j => by
    have hl2 := low_put h hp rfl (fun q => absurd q (by show (4 : Nat) ≠ 5; omega)) hl
    have m0 := h.mt2 hp hl hl2 t (q := 0) (by simp) i j
    have m1 := h.mt2 hp hl hl2 t (q := 1) (by simp) i j
    show (∃ k ∈ [x, y], Mt o2 t k i j) ↔ a t i j ∨ b t i j
    have m0 : Mt o2 t x i j ↔ a t i j := m0
    have m1 : Mt o2 t y i j ↔ b t i j := m1
    rw [← m0, ← m1]
    simp
theorem grs_rep {a : TR} {o o1 o2 : List Nd} {x : Nat} {lo hi : Int} (h : Grs [a] o o1 [x]) (q0 : 0 ≤ lo) (q1 : lo ≤ 4096) (q2 : hi = -1 ∨ (1 ≤ hi ∧ hi ≤ 4096 ∧ lo ≤ hi)) (hp : putF (ndRep x lo hi) o1 = some o2) : Grs [timR a lo hi] o o2 [o2.length - 1] :=
  h.put hp rfl (shape_rep q0 q1 q2) (by show (5 : Nat) ≠ 6; omega) (fun _ => by show [x] ≠ []; simp) fun hl t i j => by
    have hl2 := low_put h hp rfl (fun _ => by show [x] ≠ []; simp) hl
    show repR (Mt o2 t x) lo hi i j ↔ repR (a t) lo hi i j
    exact repR_congr (fun i j => h.mt2 hp hl hl2 t (q := 0) (by simp) i j) lo hi i j
end Go.Proofs.Ytahhiajliomcfaa.Sy.Pl

namespace Go.Proofs.Ytahhiajliomcfaa.Sy.Pl
open Go.RowKit Go.Proofs.Ytahhiajliomcfaa.Sy.Ap
set_option maxRecDepth 100000
set_option linter.unusedVariables false

section
variable {B : Nat} {w w' u : World} {b : Nat} {tv : Value} {most : Int} {nv rv z : Value} {l : List NR} {rt rt' : List Nat}
end
/-- What lies below B, and the blocks F, stay. -/
structure BF (B : Nat) (F : Nat → Prop) (w w' : World) : Prop where
  bel : Below B w w'
  keep : ∀ q, F q → w'.heap[q]? = w.heap[q]?
theorem BF.refl (B : Nat) (F : Nat → Prop) (w : World) : BF B F w w := ⟨Below.refl _ _, fun _ _ => rfl⟩
theorem BF.trans {B : Nat} {F : Nat → Prop} {w w1 w2 : World} (h : BF B F w w1) (h2 : BF B F w1 w2) : BF B F w w2 := ⟨h.bel.trans h2.bel, fun q hq => (h2.keep q hq).trans (h.keep q hq)⟩
end Go.Proofs.Ytahhiajliomcfaa.Sy.Pl

namespace Go.Proofs.Ytahhiajliomcfaa.Sy.Pl
open Go.RowKit Go.Proofs.Ytahhiajliomcfaa.Sy.Ap
set_option maxRecDepth 100000
set_option linter.unusedVariables false

/-- The last root is the last node. -/
def Lst (rs : List Nat) (o : List Nd) : Prop := rs = [] ∨ ∃ q, rs = q ++ [o.length - 1]
theorem Lst.one {rs : List Nat} {o : List Nd} (h : Lst rs o) (h1 : rs.length = 1) : rs = [o.length - 1] := by
  rcases h with h | ⟨q, h⟩
  · rw [h] at h1; cases h1
  · rw [h, List.length_append, List.length_singleton] at h1
    have : q = [] := List.eq_nil_of_length_eq_zero (by omega)
    rw [h, this]; rfl
end Go.Proofs.Ytahhiajliomcfaa.Sy.Pl

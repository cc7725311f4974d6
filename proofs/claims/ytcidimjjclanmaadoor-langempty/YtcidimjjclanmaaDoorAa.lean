/- Names expanded, by plain lists: what Expand tells. -/
import Derived.Test.YtcidimjjclanmaaDoorSa
namespace Go.Proofs.YtcidimjjclanmaaDoor.Sy
open Go.RowKit
set_option linter.unusedVariables false

/-- What was put so far: the result, and its nodes that have no parent yet. -/
structure X where
  out : List Nd
  rt : List Nat
/-- A name, and the tree that it stands for. -/
abbrev Df := List Nat × List Nd
def findD (D : List Df) (nm : List Nat) : Option (List Nd) := (D.find? fun d => d.1 == nm).map (·.2)
def remD (D : List Df) (nm : List Nat) : List Df := D.filter fun d => !(d.1 == nm)
def withL (n : Nd) (l : List Nat) : Nd := ⟨n.op, n.s, l, n.lo, n.hi, n.name⟩
def putX (n : Nd) (x : X) : X := ⟨x.out ++ [withL n (x.rt.drop (x.rt.length - n.l.length))], x.rt.take (x.rt.length - n.l.length) ++ [x.out.length]⟩

theorem findD_mem {D : List Df} {nm : List Nat} {t : List Nd} (h : findD D nm = some t) : (nm, t) ∈ D := by
  unfold findD at h
  cases hf : D.find? (fun d => d.1 == nm) with
  | none => rw [hf] at h; cases h
  | some d =>
    rw [hf] at h
    have h1 := List.find?_some hf
    have h2 := List.mem_of_find?_eq_some hf
    simp only [beq_iff_eq] at h1
    simp only [Option.map_some, Option.some.injEq] at h
    subst h1
    subst h
    exact h2
theorem remD_lt {D : List Df} {nm : List Nat} {t : List Nd} (h : findD D nm = some t) : (remD D nm).length < D.length := by
  have h1 := findD_mem h
  unfold remD
  exact List.length_filter_lt_length_iff_exists.2 ⟨_, h1, by simp⟩
theorem findD_rem (D : List Df) (nm m : List Nat) : findD (remD D nm) m = if m = nm then none else findD D m := by
  unfold findD remD
  induction D with
  | nil => simp
  | cons d r ih =>
    by_cases h1 : d.1 = nm
    · rw [List.filter_cons_of_neg (by simp [h1]), ih]
      by_cases h2 : m = nm
      · simp [h2]
      · rw [if_neg h2, if_neg h2, List.find?_cons_of_neg (by simp [h1]; exact fun e => h2 e.symm)]
    · rw [List.filter_cons_of_pos (by simp [h1])]
      by_cases h3 : d.1 = m
      · rw [List.find?_cons_of_pos (by simp [h3]), List.find?_cons_of_pos (by simp [h3]), if_neg (fun e => h1 (h3.trans e))]
      · rw [List.find?_cons_of_neg (by simp [h3]), List.find?_cons_of_neg (by simp [h3])]
        exact ih

/-- The nodes are walked, one by one; D: what the names that are not being walked stand for; all: whether there is a name. -/
def exF (all : List Nat → Bool) (D : List Df) (l : List Nd) (x : X) : Except Nat X :=
  match l with
  | [] => .ok x
  | n :: r =>
    if n.op = 6 then
      match h : findD D n.name with
      | some t =>
        match exF all (remD D n.name) t x with
        | .error e => .error e
        | .ok x' => exF all D r x'
      | none => .error (if all n.name then 61 else 60)
    else if 1024 ≤ x.out.length then .error 3 else exF all D r (putX n x)
termination_by (D.length, l.length)
decreasing_by
  · exact Prod.Lex.left _ _ (remD_lt h)
  · exact Prod.Lex.right _ (by simp)
  · exact Prod.Lex.right _ (by simp)

section
variable {all : List Nat → Bool} {D : List Df} {n : Nd} {r l : List Nd} {x : X}
theorem exF_nil : exF all D [] x = .ok x := by rw [exF]
theorem exF_some {t : List Nd} (h6 : n.op = 6) (h : findD D n.name = some t) : exF all D (n :: r) x = match exF all (remD D n.name) t x with | .error e => .error e | .ok x' => exF all D r x' := by
  rw [exF, if_pos h6]
  split
  · rename_i t' h'
    rw [h] at h'
    cases h'
    rfl
  · rename_i h'
    rw [h] at h'
    cases h'
theorem exF_none (h6 : n.op = 6) (h : findD D n.name = none) : exF all D (n :: r) x = .error (if all n.name then 61 else 60) := by
  rw [exF, if_pos h6]
  split
  · rename_i t' h'
    rw [h] at h'
    cases h'
  · rfl
theorem exF_long (h6 : n.op ≠ 6) (h : 1024 ≤ x.out.length) : exF all D (n :: r) x = .error 3 := by rw [exF, if_neg h6, if_pos h]
theorem exF_put (h6 : n.op ≠ 6) (h : ¬ 1024 ≤ x.out.length) : exF all D (n :: r) x = exF all D r (putX n x) := by rw [exF, if_neg h6, if_neg h]
theorem exF_append (a b : List Nd) : ∀ x, exF all D (a ++ b) x = match exF all D a x with | .error e => .error e | .ok x' => exF all D b x' := by
  induction a with
  | nil => intro x; rw [exF_nil]; rfl
  | cons n r ih =>
    intro x
    rw [List.cons_append]
    by_cases h6 : n.op = 6
    · cases h : findD D n.name with
      | none => rw [exF_none h6 h, exF_none h6 h]
      | some t =>
        rw [exF_some h6 h, exF_some h6 h]
        cases exF all (remD D n.name) t x with
        | error e => rfl
        | ok x' => exact ih x'
    · by_cases hl : 1024 ≤ x.out.length
      · rw [exF_long h6 hl, exF_long h6 hl]
      · rw [exF_put h6 hl, exF_put h6 hl]
        exact ih _
end

/-- How many have no parent, behind some nodes. -/
def hts : Nat → List Nd → Option Nat
  | h, [] => some h
  | h, n :: r => if n.l.length ≤ h then hts (h - n.l.length + 1) r else none
theorem hts_append (a b : List Nd) : ∀ h, hts h (a ++ b) = (hts h a).bind fun k => hts k b := by
  induction a with
  | nil => intro h; rfl
  | cons n r ih =>
    intro h
    rw [List.cons_append, hts, hts]
    split
    · exact ih _
    · rfl
theorem hts_more (l : List Nd) : ∀ (h m c : Nat), hts h l = some m → hts (h + c) l = some (m + c) := by
  induction l with
  | nil => intro h m c e; cases e; rfl
  | cons n r ih =>
    intro h m c e
    rw [hts] at e ⊢
    by_cases hn : n.l.length ≤ h
    · rw [if_pos hn] at e
      rw [if_pos (by omega), show h + c - n.l.length + 1 = h - n.l.length + 1 + c from by omega]
      exact ih _ _ _ e
    · rw [if_neg hn] at e
      cases e
/-- The nodes from a up to b. -/
def seg (ns : List Nd) (a b : Nat) : List Nd := (ns.drop a).take (b - a)
theorem seg_join {ns : List Nd} {a b c : Nat} (h1 : a ≤ b) (h2 : b ≤ c) : seg ns a c = seg ns a b ++ seg ns b c := by
  unfold seg
  have e : c - a = (b - a) + (c - b) := by omega
  rw [e, List.take_add, List.drop_drop, show a + (b - a) = b from by omega]
theorem seg_one {ns : List Nd} {c : Nat} {n : Nd} (h : ns[c]? = some n) : seg ns c (c + 1) = [n] := by
  unfold seg
  have hl := (List.getElem?_eq_some_iff.1 h).1
  rw [List.drop_eq_getElem_cons hl, show c + 1 - c = 1 from by omega, List.take_succ_cons, List.take_zero, (List.getElem?_eq_some_iff.1 h).2]
theorem seg_self (ns : List Nd) (a : Nat) : seg ns a a = [] := by unfold seg; rw [Nat.sub_self, List.take_zero]
theorem seg_all (ns : List Nd) : seg ns 0 ns.length = ns := by unfold seg; rw [List.drop_zero, Nat.sub_zero, List.take_length]
theorem Forest.hts {ns : List Nd} {a b : Nat} {ks : List Nat} (h : Forest ns a b ks) : ∀ k, Sy.hts k (seg ns a b) = some (k + ks.length) := by
  induction h with
  | nil a => intro k; rw [seg_self]; rfl
  | @snoc a b c ks n h1 hn h2 i1 i2 =>
    intro k
    have l1 := h1.le
    have l2 := h2.le
    rw [seg_join (b := b) l1 (by omega), seg_join (b := c) l2 (by omega), seg_one hn, hts_append, i1 k, Option.bind_some, hts_append, i2, Option.bind_some, Sy.hts, if_pos (by omega)]
    show some _ = some _
    congr 1
    rw [List.length_append, List.length_singleton]
    omega
/-- A tree. -/
structure TreeN (ns : List Nd) : Prop where
  shp : Shp ns
  pos : 1 ≤ ns.length
  few : ns.length ≤ 1024
  frs : Forest ns 0 ns.length [ns.length - 1]
theorem TreeN.hts {ns : List Nd} (h : TreeN ns) : Sy.hts 0 ns = some 1 := by
  have := h.frs.hts 0
  rw [seg_all] at this
  exact this
def TreesD (D : List Df) : Prop := ∀ d ∈ D, TreeN d.2
theorem TreesD.rem {D : List Df} (h : TreesD D) (nm : List Nat) : TreesD (remD D nm) := fun d hd => h d (List.mem_filter.1 hd).1
theorem TreesD.find {D : List Df} (h : TreesD D) {nm : List Nat} {t : List Nd} (hf : findD D nm = some t) : TreeN t := h _ (findD_mem hf)

def preX (pre : List Nat) (x : X) : X := ⟨x.out, pre ++ x.rt⟩
def mapX (f : X → X) : Except Nat X → Except Nat X
  | .ok x => .ok (f x)
  | .error e => .error e
theorem put_pre (n : Nd) (pre : List Nat) (x : X) (h : n.l.length ≤ x.rt.length) : putX n (preX pre x) = preX pre (putX n x) := by
  unfold putX preX
  simp only
  have e : (pre ++ x.rt).length - n.l.length = pre.length + (x.rt.length - n.l.length) := by rw [List.length_append]; omega
  have d0 : List.drop (pre.length + (x.rt.length - n.l.length)) pre = [] := List.drop_eq_nil_of_le (by omega)
  have t0 : List.take (pre.length + (x.rt.length - n.l.length)) pre = pre := List.take_of_length_le (by omega)
  rw [e, List.drop_append, List.take_append, d0, t0]
  simp
theorem shp_ref {n : Nd} (h : shapeB n = true) (h6 : n.op = 6) : n.l = [] := by
  unfold shapeB at h
  rw [if_neg (by omega), if_neg (by omega), if_neg (by omega), if_neg (by omega), if_pos h6] at h
  simp only [Bool.and_eq_true, beq_iff_eq] at h
  exact h.2
theorem put_len (n : Nd) (x : X) : (putX n x).rt.length = x.rt.length - n.l.length + 1 := by unfold putX; simp
/-- What is ahead of those that are looked at stays, and counts nothing. -/
theorem exF_pre_ (all : List Nat → Bool) : ∀ (k : Nat) (D : List Df), D.length < k → TreesD D → ∀ (l : List Nd), Shp l → ∀ (x : X) (m : Nat) (pre : List Nat), hts x.rt.length l = some m →
    exF all D l (preX pre x) = mapX (preX pre) (exF all D l x) ∧ ∀ x', exF all D l x = .ok x' → x'.rt.length = m := by
  intro k
  induction k with
  | zero => intro D hk; omega
  | succ k ihk =>
    intro D hk hT l
    induction l with
    | nil => intro _ x m pre h; rw [exF_nil, exF_nil]; cases h; exact ⟨rfl, fun x' e => by cases e; rfl⟩
    | cons n r ih =>
      intro hs x m pre h
      have hs2 : Shp r := fun y hy => hs y (List.mem_cons_of_mem _ hy)
      rw [hts] at h
      by_cases hn : n.l.length ≤ x.rt.length
      · rw [if_pos hn] at h
        by_cases h6 : n.op = 6
        · cases hf : findD D n.name with
          | none =>
            rw [exF_none h6 hf, exF_none h6 hf]
            exact ⟨rfl, fun x' e => by cases e⟩
          | some t =>
            have ht := hT.find hf
            have hh : hts (0 + x.rt.length) t = some (1 + x.rt.length) := hts_more t 0 1 _ ht.hts
            rw [Nat.zero_add] at hh
            obtain ⟨e1, e2⟩ := ihk (remD D n.name) (by have := remD_lt hf; omega) (hT.rem _) t ht.shp x _ pre hh
            rw [exF_some h6 hf, exF_some h6 hf, e1]
            cases hx : exF all (remD D n.name) t x with
            | error e => exact ⟨rfl, fun x' e => by cases e⟩
            | ok x' =>
              have e3 := e2 x' hx
              simp only [mapX]
              refine ih hs2 x' m pre ?_
              rw [shp_ref (hs n (by simp)) h6] at h
              rw [e3, Nat.add_comm]
              exact h
        · by_cases hl : 1024 ≤ x.out.length
          · rw [exF_long h6 hl, exF_long h6 (x := preX pre x) hl]
            exact ⟨rfl, fun x' e => by cases e⟩
          · rw [exF_put h6 hl, exF_put h6 (x := preX pre x) hl, put_pre n pre x hn]
            exact ih hs2 (putX n x) m pre (by rw [put_len]; exact h)
      · rw [if_neg hn] at h
        cases h
theorem exF_pre {all : List Nat → Bool} {D : List Df} (hT : TreesD D) {l : List Nd} (hs : Shp l) {x : X} {m : Nat} (h : hts x.rt.length l = some m) (pre : List Nat) : exF all D l (preX pre x) = mapX (preX pre) (exF all D l x) :=
  (exF_pre_ all (D.length + 1) D (by omega) hT l hs x m pre h).1
theorem exF_rts {all : List Nat → Bool} {D : List Df} (hT : TreesD D) {l : List Nd} (hs : Shp l) {x x' : X} {m : Nat} (h : hts x.rt.length l = some m) (he : exF all D l x = .ok x') : x'.rt.length = m :=
  (exF_pre_ all (D.length + 1) D (by omega) hT l hs x m [] h).2 x' he

/-- No names. -/
def PlainN (l : List Nd) : Prop := ∀ n ∈ l, n.op ≠ 6
theorem shape_with {n : Nd} {l : List Nat} (h : l.length = n.l.length) : shapeB (withL n l) = shapeB n := by
  have e : (l == []) = (n.l == []) := by
    cases l with
    | nil => cases hn : n.l with
      | nil => rfl
      | cons a b => rw [hn] at h; simp at h
    | cons a b => cases hn : n.l with
      | nil => rw [hn] at h; simp at h
      | cons c d => rfl
  unfold shapeB zeroB withL
  simp only [h, e]
/-- What holds of what was put. -/
structure InvX (x : X) : Prop where
  shp : Shp x.out
  pl : PlainN x.out
  frs : Forest x.out 0 x.out.length x.rt
  few : x.out.length ≤ 1024
theorem inv_put {x : X} {n : Nd} (h : InvX x) (hs : shapeB n = true) (h6 : n.op ≠ 6) (hl : ¬ 1024 ≤ x.out.length) (hn : n.l.length ≤ x.rt.length) : InvX (putX n x) := by
  have hdl : (x.rt.drop (x.rt.length - n.l.length)).length = n.l.length := by rw [List.length_drop]; omega
  refine ⟨h.shp.put (by rw [shape_with hdl]; exact hs), fun y hy => ?_, ?_, ?_⟩
  · rcases List.mem_append.1 hy with q | q
    · exact h.pl y q
    · rw [List.mem_singleton] at q
      subst q
      exact h6
  · exact Forest.put (ys := x.rt.drop (x.rt.length - n.l.length)) (by rw [List.take_append_drop]; exact h.frs) rfl
  · show (x.out ++ [_]).length ≤ 1024
    rw [List.length_append, List.length_singleton]
    omega
theorem exF_inv_ (all : List Nat → Bool) : ∀ (k : Nat) (D : List Df), D.length < k → TreesD D → ∀ (l : List Nd), Shp l → ∀ (x x' : X) (m : Nat), hts x.rt.length l = some m → InvX x → exF all D l x = .ok x' → InvX x' := by
  intro k
  induction k with
  | zero => intro D hk; omega
  | succ k ihk =>
    intro D hk hT l
    induction l with
    | nil => intro _ x x' m h hi he; rw [exF_nil] at he; cases he; exact hi
    | cons n r ih =>
      intro hs x x' m h hi he
      have hs2 : Shp r := fun y hy => hs y (List.mem_cons_of_mem _ hy)
      rw [hts] at h
      by_cases hn : n.l.length ≤ x.rt.length
      · rw [if_pos hn] at h
        by_cases h6 : n.op = 6
        · cases hf : findD D n.name with
          | none => rw [exF_none h6 hf] at he; cases he
          | some t =>
            have ht := hT.find hf
            have hh : hts (0 + x.rt.length) t = some (1 + x.rt.length) := hts_more t 0 1 _ ht.hts
            rw [Nat.zero_add] at hh
            rw [exF_some h6 hf] at he
            cases hx : exF all (remD D n.name) t x with
            | error e => rw [hx] at he; cases he
            | ok x1 =>
              rw [hx] at he
              have h3 := ihk (remD D n.name) (by have := remD_lt hf; omega) (hT.rem _) t ht.shp x x1 _ hh hi hx
              have h4 := exF_rts (hT.rem _) ht.shp hh hx
              rw [shp_ref (hs n (by simp)) h6] at h
              exact ih hs2 x1 x' m (by rw [h4, Nat.add_comm]; exact h) h3 he
        · by_cases hl : 1024 ≤ x.out.length
          · rw [exF_long h6 hl] at he
            cases he
          · rw [exF_put h6 hl] at he
            exact ih hs2 (putX n x) x' m (by rw [put_len]; exact h) (inv_put hi (hs n (by simp)) h6 hl hn) he
      · rw [if_neg hn] at h
        cases h
def x0 : X := ⟨[], []⟩
theorem inv0 : InvX x0 := ⟨fun n hn => (by cases hn), fun n hn => (by cases hn), .nil 0, by show 0 ≤ 1024; omega⟩
/-- P6.3: what Expand tells is a tree without names. -/
theorem exF_tree {all : List Nat → Bool} {D : List Df} (hT : TreesD D) {l : List Nd} (ht : TreeN l) {x : X} (he : exF all D l x0 = .ok x) : TreeN x.out ∧ PlainN x.out := by
  have hi := exF_inv_ all (D.length + 1) D (by omega) hT l ht.shp x0 x 1 ht.hts inv0 he
  have hl := exF_rts hT ht.shp (x := x0) ht.hts he
  obtain ⟨r, hr⟩ : ∃ r, x.rt = [r] := by
    match h : x.rt, hl with
    | [r], _ => exact ⟨r, rfl⟩
  have hf := hi.frs
  rw [hr] at hf
  have := hf.last
  refine ⟨⟨hi.shp, by omega, hi.few, ?_⟩, hi.pl⟩
  rw [show x.out.length - 1 = r from by omega]
  exact hf

/-- P6.3: a tree without names stays. -/
theorem exF_plain {all : List Nat → Bool} {D : List Df} {ns : List Nd} (h : TreeN ns) (hp : PlainN ns) : ∀ (i : Nat) (st : List Nat), i ≤ ns.length → Forest ns 0 i st → exF all D (ns.take i) x0 = .ok ⟨ns.take i, st⟩ := by
  intro i
  induction i with
  | zero =>
    intro st _ hf
    have := hf.roots _ (.nil 0)
    subst this
    rw [List.take_zero, exF_nil]
    rfl
  | succ i ih =>
    intro st hi hf
    obtain ⟨b, ks2, n, hk, hn, f1, f2⟩ := hf.top (Nat.zero_le _)
    have e1 := ih (ks2 ++ n.l) (by omega) (f1.join f2)
    have e2 : ns.take (i + 1) = ns.take i ++ [n] := by rw [List.take_add_one, hn]; rfl
    have hm : n ∈ ns := List.mem_of_getElem? hn
    have hlen : (ns.take i).length = i := by rw [List.length_take]; omega
    have hf2 := h.few
    rw [e2, exF_append, e1]
    simp only
    rw [exF_put (hp n hm) (by show ¬ 1024 ≤ (ns.take i).length; omega), exF_nil]
    have hd : (ks2 ++ n.l).length - n.l.length = ks2.length := by rw [List.length_append]; omega
    have hw : withL n n.l = n := rfl
    unfold putX
    simp only
    rw [hd, List.drop_left, List.take_left, hw, hlen, hk]
theorem exF_stays {all : List Nat → Bool} {D : List Df} {ns : List Nd} (h : TreeN ns) (hp : PlainN ns) : exF all D ns x0 = .ok ⟨ns, [ns.length - 1]⟩ := by
  have := exF_plain (all := all) (D := D) h hp ns.length _ (Nat.le_refl _) h.frs
  rw [List.take_length] at this
  exact this

/-- Only what names stand for counts. -/
theorem exF_congr_ (all : List Nat → Bool) : ∀ (k : Nat) (D D' : List Df), D.length < k → (∀ m, findD D m = findD D' m) → ∀ (l : List Nd) (x : X), exF all D l x = exF all D' l x := by
  intro k
  induction k with
  | zero => intro D D' hk; omega
  | succ k ihk =>
    intro D D' hk hD l
    induction l with
    | nil => intro x; rw [exF_nil, exF_nil]
    | cons n r ih =>
      intro x
      by_cases h6 : n.op = 6
      · cases hf : findD D n.name with
        | none => rw [exF_none h6 hf, exF_none h6 (by rw [← hD]; exact hf)]
        | some t =>
          rw [exF_some h6 hf, exF_some h6 (D := D') (by rw [← hD]; exact hf), ihk (remD D n.name) (remD D' n.name) (by have := remD_lt hf; omega) (fun m => by rw [findD_rem, findD_rem, hD])]
          cases exF all (remD D' n.name) t x with
          | error e => rfl
          | ok x' => exact ih x'
      · by_cases hl : 1024 ≤ x.out.length
        · rw [exF_long h6 hl, exF_long h6 hl]
        · rw [exF_put h6 hl, exF_put h6 hl]
          exact ih _
theorem exF_congr {all : List Nat → Bool} {D D' : List Df} (hD : ∀ m, findD D m = findD D' m) (l : List Nd) (x : X) : exF all D l x = exF all D' l x := exF_congr_ all (D.length + 1) D D' (by omega) hD l x

/-- Expand. -/
def allD (D : List Df) (nm : List Nat) : Bool := (findD D nm).isSome
def expN (l : List Nd) (D : List Df) : Except Nat (List Nd) := match exF (allD D) D l x0 with | .ok x => .ok x.out | .error e => .error e
theorem expN_tree {D : List Df} (hT : TreesD D) {l o : List Nd} (ht : TreeN l) (he : expN l D = .ok o) : TreeN o ∧ PlainN o := by
  unfold expN at he
  cases h : exF (allD D) D l x0 with
  | error e => rw [h] at he; cases he
  | ok x => rw [h] at he; cases he; exact exF_tree hT ht h
theorem expN_stays {D : List Df} {ns : List Nd} (h : TreeN ns) (hp : PlainN ns) : expN ns D = .ok ns := by
  unfold expN
  rw [exF_stays h hp]
theorem expN_congr {D D' : List Df} (hD : ∀ m, findD D m = findD D' m) (l : List Nd) : expN l D = expN l D' := by
  have e : allD D = allD D' := by funext m; unfold allD; rw [hD]
  unfold expN
  rw [e, exF_congr hD]
end Go.Proofs.YtcidimjjclanmaaDoor.Sy

/- How many nodes a repetition has that is written out. Plain lists. -/
import Derived.Test.YtdaaigkmlbpbgaaPJs
import Derived.Test.YtdaaigkmlbpbgaaPJx
import Derived.Test.YtdaaigkmlbpbgaaPJc
namespace Go.Proofs.Ytdaaigkmlbpbgaa.Sy.Pl
open Go.RowKit Go.Proofs.Ytdaaigkmlbpbgaa.Sy.Lg
set_option maxRecDepth 100000
set_option linter.unusedVariables false

/-- No repetition but a star. -/
def Star (n : Nd) : Prop := n.op = 5 → n.lo = 0 ∧ n.hi = -1
/-- It puts so many nodes, if there is room, and none of them is counted. -/
def Puts (P : PF) (m : Nat) : Prop := ∀ o : List Nd, o.length + m ≤ 1024 → ∃ x : List Nd, x.length = m ∧ P o = some (o ++ x) ∧ ∀ n ∈ x, Star n
theorem puts_put {n : Nd} (h : Star n) : Puts (putF n) 1 := by
  intro o ho
  refine ⟨[n], rfl, ?_, fun k hk => ?_⟩
  · unfold putF
    rw [if_pos (by omega)]
  · obtain rfl := List.mem_singleton.1 hk
    exact h
theorem star_of {n : Nd} (h : n.op ≠ 5) : Star n := fun q => absurd q h
/-- One, then the other, which may look at what is there. -/
theorem puts_bind {P : PF} {Q : List Nd → PF} {a b : Nat} (hP : Puts P a) (hQ : ∀ o, Puts (Q o) b) : Puts (fun o => (P o).bind fun o1 => Q o1 o1) (a + b) := by
  intro o ho
  obtain ⟨x, h1, h2, h3⟩ := hP o (by omega)
  have hl : (o ++ x).length = o.length + a := by rw [List.length_append, h1]
  obtain ⟨y, g1, g2, g3⟩ := hQ (o ++ x) (o ++ x) (by omega)
  refine ⟨x ++ y, by rw [List.length_append, h1, g1], ?_, fun n hn => ?_⟩
  · show (P o).bind _ = _
    rw [h2]
    show Q (o ++ x) (o ++ x) = _
    rw [g2, List.append_assoc]
  · rcases List.mem_append.1 hn with q | q
    · exact h3 n q
    · exact g3 n q
theorem puts_times {P : PF} {m : Nat} (hP : Puts P m) : ∀ (t : Nat) (o : List Nd) (rs : List Nat), o.length + t * m ≤ 1024 → ∃ x rs', x.length = t * m ∧ timesF P t o rs = some (o ++ x, rs') ∧ rs'.length = rs.length + t ∧ ∀ n ∈ x, Star n
  | 0, o, rs, _ => ⟨[], rs, by simp, by simp [timesF], rfl, fun n hn => by cases hn⟩
  | t + 1, o, rs, h => by
    rw [Nat.succ_mul] at h
    obtain ⟨x, h1, h2, h3⟩ := hP o (by omega)
    have hl : (o ++ x).length = o.length + m := by rw [List.length_append, h1]
    obtain ⟨y, rs', g1, g2, g3, g4⟩ := puts_times hP t (o ++ x) (rs ++ [(o ++ x).length - 1]) (by omega)
    refine ⟨x ++ y, rs', by rw [List.length_append, h1, g1, Nat.succ_mul]; omega, ?_, by rw [g3]; simp; omega, fun n hn => ?_⟩
    · unfold timesF
      rw [h2]
      show timesF P t (o ++ x) _ = _
      rw [g2, List.append_assoc]
    · rcases List.mem_append.1 hn with q | q
      · exact h3 n q
      · exact g4 n q
theorem puts_rest {P : PF} {m : Nat} (hP : Puts P m) : ∀ t, Puts (restF P t) (m + 2 + t * (m + 3)) := by
  intro t
  induction t with
  | zero =>
    have := puts_bind (puts_put (n := ndEmpty) (star_of (by decide))) (Q := fun o1 => fun o => (P o).bind fun o2 => putF (ndAlt [o1.length - 1, o2.length - 1]) o2)
      (fun o1 => puts_bind hP (Q := fun o2 => putF (ndAlt [o1.length - 1, o2.length - 1])) (fun o2 => puts_put (star_of (show (4 : Nat) ≠ 5 by decide))))
    rw [show 1 + (m + 1) = m + 2 + 0 * (m + 3) from by omega] at this
    exact this
  | succ t ih =>
    have := puts_bind (puts_put (n := ndEmpty) (star_of (by decide))) (Q := fun o1 => fun o => (P o).bind fun o2 => (restF P t o2).bind fun o3 => (putF (ndCat [o2.length - 1, o3.length - 1]) o3).bind fun o4 => putF (ndAlt [o1.length - 1, o4.length - 1]) o4)
      (fun o1 => puts_bind hP (Q := fun o2 => fun o => (restF P t o).bind fun o3 => (putF (ndCat [o2.length - 1, o3.length - 1]) o3).bind fun o4 => putF (ndAlt [o1.length - 1, o4.length - 1]) o4)
        (fun o2 => puts_bind ih (Q := fun o3 => fun o => (putF (ndCat [o2.length - 1, o3.length - 1]) o).bind fun o4 => putF (ndAlt [o1.length - 1, o4.length - 1]) o4)
          (fun o3 => puts_bind (puts_put (star_of (show (3 : Nat) ≠ 5 by decide))) (Q := fun o4 => putF (ndAlt [o1.length - 1, o4.length - 1]))
            (fun o4 => puts_put (star_of (show (4 : Nat) ≠ 5 by decide))))))
    rw [show 1 + (m + (m + 2 + t * (m + 3) + (1 + 1))) = m + 2 + (t + 1) * (m + 3) from by rw [Nat.succ_mul]; omega] at this
    exact this
/-- How many nodes stand behind the times that must be, and how many things they are. -/
def tailM (m : Nat) (lo hi : Int) : Nat := if hi = -1 then m + 1 else if lo < hi then m + 2 + (hi - lo - 1).toNat * (m + 3) else 0
def tailI (lo hi : Int) : Nat := if hi = -1 ∨ lo < hi then 1 else 0
theorem puts_tail {P : PF} {m : Nat} (hP : Puts P m) (lo hi : Int) (o : List Nd) (rs : List Nat) (h : o.length + tailM m lo hi ≤ 1024) :
    ∃ x rs', x.length = tailM m lo hi ∧ tailF P lo hi o rs = some (o ++ x, rs') ∧ rs'.length = rs.length + tailI lo hi ∧ ∀ n ∈ x, Star n := by
  unfold tailM at h
  unfold tailF tailM tailI
  by_cases h1 : hi = -1
  · rw [if_pos h1] at h
    rw [if_pos h1, if_pos h1, if_pos (.inl h1)]
    have hq : Puts (repeatF P 0 (-1)) (m + 1) := puts_bind hP (Q := fun o' => putF (ndRep (o'.length - 1) 0 (-1))) (fun o' => puts_put (fun _ => ⟨rfl, rfl⟩))
    obtain ⟨x, g1, g2, g3⟩ := hq o (by omega)
    exact ⟨x, _, g1, by rw [g2]; rfl, by simp, g3⟩
  · rw [if_neg h1] at h
    rw [if_neg h1, if_neg h1]
    by_cases h2 : lo < hi
    · rw [if_pos h2] at h
      rw [if_pos h2, if_pos h2, if_pos (.inr h2)]
      obtain ⟨x, g1, g2, g3⟩ := puts_rest hP (hi - lo - 1).toNat o (by omega)
      exact ⟨x, _, g1, by rw [g2]; rfl, by simp, g3⟩
    · rw [if_neg h2, if_neg h2, if_neg (fun q => by rcases q with q | q; exact h1 q; exact h2 q)]
      exact ⟨[], rs, rfl, by simp, rfl, fun n hn => by cases hn⟩
theorem puts_row {P : PF} {m : Nat} (hP : Puts P m) (lo hi : Int) : Puts (rowF P lo hi) (lo.toNat * m + tailM m lo hi + if lo.toNat + tailI lo hi = 1 then 0 else 1) := by
  intro o ho
  obtain ⟨x, rs, h1, h2, h3, h4⟩ := puts_times hP lo.toNat o [] (by omega)
  have hl : (o ++ x).length = o.length + lo.toNat * m := by rw [List.length_append, h1]
  obtain ⟨y, rs', g1, g2, g3, g4⟩ := puts_tail hP lo hi (o ++ x) rs (by omega)
  have hl2 : (o ++ x ++ y).length = o.length + lo.toNat * m + tailM m lo hi := by rw [List.length_append, hl, g1]
  have hn : rs'.length = lo.toNat + tailI lo hi := by rw [g3, h3]; simp
  have hxy : ∀ n ∈ x ++ y, Star n := fun n hn => by
    rcases List.mem_append.1 hn with q | q
    · exact h4 n q
    · exact g4 n q
  unfold rowF
  rw [h2]
  show ∃ z, _ ∧ ((tailF P lo hi (o ++ x) rs).bind fun q => catF q.2 q.1) = _ ∧ _
  rw [g2]
  show ∃ z, _ ∧ catF rs' (o ++ x ++ y) = _ ∧ _
  unfold catF
  by_cases hc : lo.toNat + tailI lo hi = 1
  · rw [if_pos hc, if_pos (by omega)]
    exact ⟨x ++ y, by rw [List.length_append, h1, g1, Nat.add_zero], by rw [List.append_assoc], hxy⟩
  · rw [if_neg hc] at ho
    rw [if_neg hc, if_neg (by omega)]
    obtain ⟨z, q1, q2, q3⟩ := puts_put (n := ndCat rs') (star_of (show (3 : Nat) ≠ 5 by decide)) (o ++ x ++ y) (by omega)
    refine ⟨x ++ y ++ z, by simp [h1, g1, q1]; omega, by rw [q2]; simp, fun n hn => ?_⟩
    rcases List.mem_append.1 hn with q | q
    · exact hxy n q
    · exact q3 n q
theorem puts_leaf {ns : List Nd} {most : Nat} {n : Nd} (h5 : n.op ≠ 5) (hl : n.l = []) (Q : Nat → PF) : Puts (plan1 ns most n Q) 1 := by
  intro o ho
  unfold plan1
  rw [if_neg h5, hl]
  exact puts_put (n := withL n []) (star_of h5) o ho
theorem puts_two {ns : List Nd} {most : Nat} {n : Nd} (h5 : n.op ≠ 5) {x y : Nat} (hl : n.l = [x, y]) {Q : Nat → PF} {a b : Nat} (hx : Puts (Q x) a) (hy : Puts (Q y) b) : Puts (plan1 ns most n Q) (a + (b + 1)) := by
  intro o ho
  unfold plan1
  rw [if_neg h5, hl]
  obtain ⟨u, h1, h2, h3⟩ := hx o (by omega)
  have hu : (o ++ u).length = o.length + a := by rw [List.length_append, h1]
  obtain ⟨v, g1, g2, g3⟩ := hy (o ++ u) (by omega)
  have hv : (o ++ u ++ v).length = o.length + a + b := by rw [List.length_append, hu, g1]
  unfold kidsF
  rw [h2]
  show ∃ z, _ ∧ ((kidsF Q [y] (o ++ u) _).bind _) = _ ∧ _
  unfold kidsF
  rw [g2]
  show ∃ z, _ ∧ putF (withL n _) (o ++ u ++ v) = _ ∧ _
  obtain ⟨z, q1, q2, q3⟩ := puts_put (n := withL n ([] ++ [(o ++ u).length - 1] ++ [(o ++ u ++ v).length - 1])) (star_of h5) (o ++ u ++ v) (by omega)
  refine ⟨u ++ v ++ z, by rw [List.length_append, List.length_append, h1, g1, q1]; omega, by rw [q2]; simp, fun n hn => ?_⟩
  rcases List.mem_append.1 hn with q | q
  · rcases List.mem_append.1 q with q | q
    · exact h3 n q
    · exact g3 n q
  · exact q3 n q
/-- Two leaves in a row, some times. -/
theorem plan_copies {n0 n1 n2 n3 : Nd} (a0 : n0.op ≠ 5) (b0 : n0.l = []) (a1 : n1.op ≠ 5) (b1 : n1.l = []) (a2 : n2.op = 3) (b2 : n2.l = [0, 1]) (a3 : n3.op = 5) (b3 : n3.l = [2]) (most : Nat)
    (h : n3.lo.toNat * 3 + tailM 3 n3.lo n3.hi + (if n3.lo.toNat + tailI n3.lo n3.hi = 1 then 0 else 1) ≤ 1024) :
    ∃ o, planN [n0, n1, n2, n3] most = some o ∧ o.length = n3.lo.toNat * 3 + tailM 3 n3.lo n3.hi + (if n3.lo.toNat + tailI n3.lo n3.hi = 1 then 0 else 1) ∧ ∀ n ∈ o, Star n := by
  have h3 : Puts (plF [n0, n1, n2, n3] most 3 2) 3 := by
    show Puts (plan1 [n0, n1, n2, n3] most n2 (plF [n0, n1, n2, n3] most 2)) 3
    have q0 : Puts (plF [n0, n1, n2, n3] most 2 0) 1 := by
      show Puts (plan1 [n0, n1, n2, n3] most n0 (plF [n0, n1, n2, n3] most 1)) 1
      exact puts_leaf a0 b0 _
    have q1 : Puts (plF [n0, n1, n2, n3] most 2 1) 1 := by
      show Puts (plan1 [n0, n1, n2, n3] most n1 (plF [n0, n1, n2, n3] most 1)) 1
      exact puts_leaf a1 b1 _
    exact puts_two (by omega) b2 q0 q1
  obtain ⟨x, h1, h2, h4⟩ := puts_row h3 n3.lo n3.hi [] (by simpa using h)
  refine ⟨x, ?_, h1, h4⟩
  rw [List.nil_append] at h2
  rw [← h2]
  show plan1 [n0, n1, n2, n3] most n3 (plF [n0, n1, n2, n3] most 3) [] = _
  unfold plan1
  rw [if_pos a3, b3]
  show repF (plF [n0, n1, n2, n3] most 3 2) (n2.op == 2) most n3.lo n3.hi [] = _
  unfold repF
  rw [a2]
  rw [if_neg (fun q => by cases q.1), if_neg (fun q => by cases q.1)]
end Go.Proofs.Ytdaaigkmlbpbgaa.Sy.Pl

namespace Go.Proofs.Ytdaaigkmlbpbgaa.Sy.Pl
open Go.RowKit Go.Proofs.Ytdaaigkmlbpbgaa.Sy.Ap Go.Proofs.Ytdaaigkmlbpbgaa.Sy.Lg
set_option maxRecDepth 100000
set_option linter.unusedVariables false

/-! ### Plain -/
theorem star_bad {ns : List Nd} {n : Nd} (h : Star n) : ctB ns n = false ∧ badB ns n = false := by
  by_cases h5 : n.op = 5
  · obtain ⟨h1, h2⟩ := h h5
    have hc : ctB ns n = false := by
      unfold ctB
      have : decide (1 ≤ n.lo) = false := decide_eq_false (by omega)
      rw [this, Bool.and_false, Bool.false_and]
    refine ⟨hc, ?_⟩
    unfold badB starB
    have e1 : (n.op == 5) = true := by rw [h5]; rfl
    have e2 : (n.lo == 0) = true := by rw [h1]; rfl
    have e3 : (n.hi == -1) = true := by rw [h2]; rfl
    rw [e1, e2, e3]
    rfl
  · have e1 : (n.op == 5) = false := beq_eq_false_iff_ne.2 h5
    unfold badB ctB
    rw [e1]
    exact ⟨rfl, rfl⟩
theorem getD_mem {o : List Nd} {i : Nat} (h : i < o.length) : o.getD i nd0 ∈ o := by
  rw [List.getD_eq_getElem?_getD, List.getElem?_eq_getElem h]
  exact List.getElem_mem h
theorem stars {o : List Nd} (h : ∀ n ∈ o, Star n) : ctN o = 0 ∧ Rp o := by
  refine ⟨?_, rp_iff.2 fun k hk => (star_bad (h _ (getD_mem hk))).2⟩
  unfold ctN
  rw [List.countP_eq_zero]
  intro i hi
  rw [(star_bad (ns := o) (h _ (getD_mem (List.mem_range.1 hi)))).1]
  exact Bool.false_ne_true
/-- A byte some times. -/
abbrev noN (a b : Nat) : List Nd := [ndBytes (oneB 1), ndRep 0 a b]
theorem noN_tree {a b : Nat} (h1 : a ≤ b) (h2 : 1 ≤ b) (h3 : b ≤ 4096) : TreeN (noN a b) ∧ PlainN (noN a b) := by
  refine ⟨⟨fun n hn => ?_, by show 1 ≤ 2; omega, by show 2 ≤ 1024; omega, ?_⟩, fun n hn => ?_⟩
  · rw [List.mem_cons, List.mem_singleton] at hn
    rcases hn with rfl | rfl
    · show shapeB (ndBytes (oneB 1)) = true
      decide +kernel
    · exact shape_rep (by omega) (by omega) (.inr ⟨by omega, by omega, by omega⟩)
  · have f0 : Forest (noN a b) 0 1 [0] := Forest.snoc (n := ndBytes (oneB 1)) (Forest.nil 0) rfl (Forest.nil 0)
    exact Forest.snoc (n := ndRep 0 a b) (Forest.nil 0) rfl f0
  · rw [List.mem_cons, List.mem_singleton] at hn
    rcases hn with rfl | rfl
    · show (2 : Nat) ≠ 6; decide
    · show (5 : Nat) ≠ 6; decide
theorem no_most {a b : Nat} (h1 : a ≤ b) (h2 : 1 ≤ b) (h3 : b ≤ 30) : ∃ o, planN (noN a b) 4096 = some o ∧ ctN o = 0 ∧ Rp o := by
  have hP : Puts (plF (noN a b) 4096 1 0) 1 := by
    show Puts (plan1 (noN a b) 4096 (ndBytes (oneB 1)) (plF (noN a b) 4096 0)) 1
    exact puts_leaf (by decide) rfl _
  have hlen : ([] : List Nd).length + ((a : Int).toNat * 1 + tailM 1 (a : Int) (b : Int) + if (a : Int).toNat + tailI (a : Int) (b : Int) = 1 then 0 else 1) ≤ 1024 := by
    unfold tailM
    rw [if_neg (by omega)]
    have : (if (a : Int).toNat + tailI (a : Int) (b : Int) = 1 then 0 else 1) ≤ 1 := by split <;> omega
    have h4 : (if (a : Int) < (b : Int) then 1 + 2 + ((b : Int) - (a : Int) - 1).toNat * (1 + 3) else 0) ≤ 124 := by split <;> omega
    rw [List.length_nil, Int.toNat_natCast]
    rw [Int.toNat_natCast] at this
    omega
  obtain ⟨x, q1, q2, q3⟩ := puts_row hP (a : Int) (b : Int) [] hlen
  rw [List.nil_append] at q2
  obtain ⟨s1, s2⟩ := stars q3
  refine ⟨x, ?_, s1, s2⟩
  rw [← q2]
  show plan1 (noN a b) 4096 (ndRep 0 a b) (plF (noN a b) 4096 1) [] = _
  unfold plan1
  rw [if_pos (show (ndRep 0 a b).op = 5 from rfl)]
  unfold repF
  rw [if_neg (fun q => by have := q.2; have h : (ndRep 0 a b).hi = (b : Int) := rfl; omega), if_neg (fun q => by have := q.2.1; have h : (ndRep 0 a b).hi = (b : Int) := rfl; omega)]
  rfl
theorem no_least {a b : Nat} (h1 : a ≤ b) (h2 : 1 ≤ b) (h3 : b ≤ 30) : ∃ o, planN (noN a b) 1 = some o ∧ ctN o = (if 1 < b then 1 else 0) ∧ Rp o ∧ o.length ≤ 4 := by
  have e0 : planN (noN a b) 1 = repF (plF (noN a b) 1 1 0) true 1 (a : Int) (b : Int) [] := rfl
  rw [e0]
  unfold repF
  by_cases hb : 1 < b
  · rw [if_pos hb, if_pos ⟨rfl, by show ((1 : Nat) : Int) < (b : Int); omega⟩]
    by_cases ha : a = 0
    · subst ha
      rw [if_pos (show ((0 : Nat) : Int) = 0 from rfl)]
      refine ⟨[ndEmpty, ndBytes (oneB 1), ndRep 1 1 b, ndAlt [0, 2]], rfl, ?_, ?_, by show 4 ≤ 4; omega⟩
      · have hr : ctB [ndEmpty, ndBytes (oneB 1), ndRep 1 1 b, ndAlt [0, 2]] (ndRep 1 1 b) = true := by
          show (true && true && decide ((1 : Int) ≤ 1) && decide ((2 : Int) ≤ (b : Int))) = true
          simp; omega
        unfold ctN
        simp only [List.length_cons, List.length_nil, List.range_succ, List.range_zero, List.nil_append, List.cons_append]
        show List.countP _ [0, 1, 2, 3] = 1
        have g2 : ctB [ndEmpty, ndBytes (oneB 1), ndRep 1 1 b, ndAlt [0, 2]] (([ndEmpty, ndBytes (oneB 1), ndRep 1 1 (b : Int), ndAlt [0, 2]] : List Nd).getD 2 nd0) = true := hr
        have g0 : ctB [ndEmpty, ndBytes (oneB 1), ndRep 1 1 b, ndAlt [0, 2]] (([ndEmpty, ndBytes (oneB 1), ndRep 1 1 (b : Int), ndAlt [0, 2]] : List Nd).getD 0 nd0) = false := rfl
        have g1 : ctB [ndEmpty, ndBytes (oneB 1), ndRep 1 1 b, ndAlt [0, 2]] (([ndEmpty, ndBytes (oneB 1), ndRep 1 1 (b : Int), ndAlt [0, 2]] : List Nd).getD 1 nd0) = false := rfl
        have g3 : ctB [ndEmpty, ndBytes (oneB 1), ndRep 1 1 b, ndAlt [0, 2]] (([ndEmpty, ndBytes (oneB 1), ndRep 1 1 (b : Int), ndAlt [0, 2]] : List Nd).getD 3 nd0) = false := rfl
        simp only [List.countP_cons, List.countP_nil, g0, g1, g2, g3]
        rfl
      · intro n hn h5
        simp only [List.mem_cons, List.not_mem_nil, or_false] at hn
        rcases hn with rfl | rfl | rfl | rfl
        · exact absurd h5 (by decide)
        · exact absurd h5 (by show ¬ (2 : Nat) = 5; decide)
        · refine .inr ?_
          show (true && true && decide ((1 : Int) ≤ 1) && decide ((2 : Int) ≤ (b : Int))) = true
          simp; omega
        · exact absurd h5 (by show ¬ (4 : Nat) = 5; decide)
    · rw [if_neg (by omega)]
      have hr : ctB [ndBytes (oneB 1), ndRep 0 a b] (ndRep 0 a b) = true := by
        show (true && true && decide ((1 : Int) ≤ (a : Int)) && decide ((2 : Int) ≤ (b : Int))) = true
        simp; omega
      refine ⟨[ndBytes (oneB 1), ndRep 0 a b], rfl, ?_, ?_, by show 2 ≤ 4; omega⟩
      · unfold ctN
        show List.countP _ [0, 1] = 1
        have g1 : ctB [ndBytes (oneB 1), ndRep 0 a b] (([ndBytes (oneB 1), ndRep 0 (a : Int) (b : Int)] : List Nd).getD 1 nd0) = true := hr
        have g0 : ctB [ndBytes (oneB 1), ndRep 0 a b] (([ndBytes (oneB 1), ndRep 0 (a : Int) (b : Int)] : List Nd).getD 0 nd0) = false := rfl
        simp only [List.countP_cons, List.countP_nil, g0, g1]
        rfl
      · intro n hn h5
        simp only [List.mem_cons, List.not_mem_nil, or_false] at hn
        rcases hn with rfl | rfl
        · exact absurd h5 (by show ¬ (2 : Nat) = 5; decide)
        · exact .inr hr
  · have hb1 : b = 1 := by omega
    subst hb1
    rw [if_neg hb, if_neg (fun q => by have := q.2; omega), if_neg (fun q => by have := q.2.1; omega)]
    have ha : a = 0 ∨ a = 1 := by omega
    rcases ha with rfl | rfl
    · refine ⟨[ndEmpty, ndBytes (oneB 1), ndAlt [0, 1]], rfl, rfl, ?_, by decide⟩
      exact (stars (fun n hn h5 => by
        simp only [List.mem_cons, List.not_mem_nil, or_false] at hn
        rcases hn with rfl | rfl | rfl
        · exact absurd h5 (by decide)
        · exact absurd h5 (by show ¬ (2 : Nat) = 5; decide)
        · exact absurd h5 (by show ¬ (4 : Nat) = 5; decide))).2
    · refine ⟨[ndBytes (oneB 1)], rfl, rfl, ?_, by decide⟩
      exact (stars (fun n hn h5 => by
        simp only [List.mem_cons, List.not_mem_nil, or_false] at hn
        subst hn
        exact absurd h5 (by show ¬ (2 : Nat) = 5; decide))).2
/-! ### In memory -/
def gB (x : Nat) : Gd := ⟨2, oneB x, [], 0, 0, { data := #[] }⟩
def gK (op : Nat) (l : List Int) (lo hi : Int) : Gd := ⟨op, noB, l, lo, hi, { data := #[] }⟩
theorem gB_row (x : Nat) (v : Int) (h0 : W (oneB x) 0 = v) (h1 : W (oneB x) 1 = 0) (h2 : W (oneB x) 2 = 0) (h3 : W (oneB x) 3 = 0) : gdL (gB x) none 0 = [.int .u8 2, .int .u64 v, .int .u64 0, .int .u64 0, .int .u64 0, .slice none 0 0, .int .i64 0, .int .i64 0, .string { data := #[] }] := by
  unfold gdL
  show [Value.int .u8 2, .int .u64 (W (oneB x) 0), .int .u64 (W (oneB x) 1), .int .u64 (W (oneB x) 2), .int .u64 (W (oneB x) 3), _, _, _, _] = _
  rw [h0, h1, h2, h3]
  rfl
theorem gK_row (op : Nat) (l : List Int) (lo hi : Int) (A : Option Addr) (c : Nat) : gdL (gK op l lo hi) A c = [.int .u8 (op : Int), .int .u64 0, .int .u64 0, .int .u64 0, .int .u64 0, .slice A l.length c, .int .i64 lo, .int .i64 hi, .string { data := #[] }] := by
  simp only [gdL, gK, W_zero]
theorem w1_two : W (oneB 1) 0 = 2 ∧ W (oneB 1) 1 = 0 ∧ W (oneB 1) 2 = 0 ∧ W (oneB 1) 3 = 0 := by decide +kernel
theorem w2_four : W (oneB 2) 0 = 4 ∧ W (oneB 2) 1 = 0 ∧ W (oneB 2) 2 = 0 ∧ W (oneB 2) 3 = 0 := by decide +kernel
end Go.Proofs.Ytdaaigkmlbpbgaa.Sy.Pl

/- A region that draws its order, walked operation by operation, whatever the order: each operation owes a fact on what it yields, out of the facts of those that it waits for. Facts live on while memory is only made. Nothing of the program. -/
import Derived.WalkKit
import Derived.Orders
namespace Go.Proofs.Ytblanbopjebenaa
open Go.RowKit

section
variable {P : Program} {ops : Array Oper} {Q : Exit → Act → World → Prop}

/-- How many are not listed yet. -/
def left (l : List Bool) : Nat := l.countP fun b => !b
theorem left_set (l : List Bool) (i : Nat) (h : l[i]? = some false) : left (l.set i true) + 1 = left l := by
  induction l generalizing i with
  | nil => simp at h
  | cons b r ih =>
    cases i with
    | zero =>
      simp at h
      subst h
      simp [left]
    | succ i =>
      have := ih i (by simpa using h)
      simp only [left, List.set_cons_succ, List.countP_cons] at this ⊢
      omega

/-- What an operation waits for has yielded, and its fact holds. -/
def Deps (ops : Array Oper) (F : Nat → Value → World → Prop) (a : Act) (w : World) : List Edge → Prop
  | [] => True
  | e :: es => (∀ (o : Oper) (d : Nat), ops[e.on]? = some o → o.dst = some d → ∃ v, a.tmps[d]? = some v ∧ F e.on v w) ∧ Deps ops F a w es

structure RegInv (ops : Array Oper) (a0 : Act) (S : World → Prop) (F : Nat → Value → World → Prop) (listed : Array Bool) (a : Act) (w : World) : Prop where
  lsize : listed.size = ops.size
  tsize : a.tmps.size = a0.tmps.size
  defers : a.defers = a0.defers
  world : S w
  known : ∀ t, (∀ (i : Nat) (o : Oper), ops[i]? = some o → o.dst ≠ some t) → a.tmps[t]? = a0.tmps[t]?
  facts : ∀ (i : Nat) (o : Oper) (d : Nat), ops[i]? = some o → o.dst = some d → listed.getD i false = true → ∃ v, a.tmps[d]? = some v ∧ F i v w

/-- What each operation owes. -/
def RegStep (P : Program) (ops : Array Oper) (Q : Exit → Act → World → Prop) (a0 : Act) (S : World → Prop) (F : Nat → Value → World → Prop) (i : Nat) (o : Oper) : Prop :=
  ∀ (a : Act) (w : World), S w → a.tmps.size = a0.tmps.size → a.defers = a0.defers → (∀ t, (∀ (j : Nat) (oj : Oper), ops[j]? = some oj → oj.dst ≠ some t) → a.tmps[t]? = a0.tmps[t]?) → Deps ops F a w (o.after.toList.filter fun e => Region.binds .any e) →
    ∀ K : Act → World → Prop, (∀ v w', F i v w' → S w' → Below w.heap.size w w' → K (a.put o.dst v) w') →
      if Region.wanted o (yielded ops a.tmps) = true then o.wp P a w K Q else K (a.put o.dst undef) w

def RegSteps (P : Program) (ops : Array Oper) (Q : Exit → Act → World → Prop) (a0 : Act) (S : World → Prop) (F : Nat → Value → World → Prop) : Nat → List Oper → Prop
  | _, [] => True
  | i, o :: os => RegStep P ops Q a0 S F i o ∧ RegSteps P ops Q a0 S F (i + 1) os

theorem regSteps_at {a0 : Act} {S : World → Prop} {F : Nat → Value → World → Prop} : ∀ (l : List Oper) (k : Nat), RegSteps P ops Q a0 S F k l → ∀ i o, l[i]? = some o → RegStep P ops Q a0 S F (k + i) o
  | [], _, _, i, o, h => by simp at h
  | x :: r, k, h, 0, o, ho => by
    simp at ho
    subst ho
    exact h.1
  | x :: r, k, h, i + 1, o, ho => by
    have := regSteps_at r (k + 1) h.2 i o (by simpa using ho)
    rw [show k + (i + 1) = k + 1 + i from by omega]
    exact this

/-- The region's own shape: no two operations write one slot, each slot is there, each waits for earlier ones. -/
def regShape (ops : Array Oper) (n : Nat) : Bool :=
  (List.range ops.size).all fun i =>
    match ops[i]? with
    | none => true
    | some o =>
      (match o.dst with
       | none => true
       | some d => decide (d < n) && (List.range ops.size).all fun j => decide (j = i) || (match ops[j]? with | none => true | some oj => oj.dst != some d)) &&
      o.after.toList.all fun e => decide (e.on < i)

theorem shape_lt {n : Nat} (h : regShape ops n = true) {i : Nat} {o : Oper} {d : Nat} (ho : ops[i]? = some o) (hd : o.dst = some d) : d < n := by
  have hi : i < ops.size := (Array.getElem?_eq_some_iff.1 ho).1
  have := List.all_eq_true.1 h i (List.mem_range.2 hi)
  simp only [ho, hd, Bool.and_eq_true, decide_eq_true_eq] at this
  exact this.1.1
theorem shape_one {n : Nat} (h : regShape ops n = true) {i j : Nat} {o oj : Oper} {d : Nat} (ho : ops[i]? = some o) (hd : o.dst = some d) (hj : ops[j]? = some oj) (hne : j ≠ i) : oj.dst ≠ some d := by
  have hi : i < ops.size := (Array.getElem?_eq_some_iff.1 ho).1
  have hjl : j < ops.size := (Array.getElem?_eq_some_iff.1 hj).1
  have := List.all_eq_true.1 h i (List.mem_range.2 hi)
  simp only [ho, hd, Bool.and_eq_true, decide_eq_true_eq] at this
  have h2 := List.all_eq_true.1 this.1.2 j (List.mem_range.2 hjl)
  simp only [hj, Bool.or_eq_true, decide_eq_true_eq, bne_iff_ne] at h2
  rcases h2 with h2 | h2
  · exact absurd h2 hne
  · exact h2
theorem shape_back {n : Nat} (h : regShape ops n = true) {i : Nat} {o : Oper} (ho : ops[i]? = some o) {e : Edge} (he : e ∈ o.after) : e.on < i := by
  have hi : i < ops.size := (Array.getElem?_eq_some_iff.1 ho).1
  have := List.all_eq_true.1 h i (List.mem_range.2 hi)
  simp only [ho, Bool.and_eq_true] at this
  have h2 := List.all_eq_true.1 this.2 e (by simpa using he)
  simpa using h2

theorem put_tmps (a : Act) (d : Nat) (v : Value) : (a.put (some d) v).tmps = a.tmps.setIfInBounds d v := rfl

theorem deps_of {F : Nat → Value → World → Prop} {a0 : Act} {S : World → Prop} {listed : Array Bool} {a : Act} {w : World} (inv : RegInv ops a0 S F listed a w) {o : Oper}
    (hr : ∀ e ∈ o.after, Region.binds .any e = true → listed.getD e.on false = true) : ∀ l : List Edge, (∀ e ∈ l, e ∈ o.after ∧ Region.binds .any e = true) → Deps ops F a w l
  | [], _ => trivial
  | e :: es, hl => ⟨fun oj d hoj hd => inv.facts e.on oj d hoj hd (hr e (hl e (by simp)).1 (hl e (by simp)).2), deps_of inv hr es (fun x hx => hl x (by simp [hx]))⟩

theorem wpAny_facts {F : Nat → Value → World → Prop} {a0 : Act} {S : World → Prop} (hsh : regShape ops a0.tmps.size = true)
    (hstab : ∀ i v w w', F i v w → Below w.heap.size w w' → F i v w')
    (hstep : ∀ (i : Nat) (o : Oper), ops[i]? = some o → RegStep P ops Q a0 S F i o)
    (hend : ∀ (a : Act) (w : World), S w → a.tmps.size = a0.tmps.size → a.defers = a0.defers → (∀ t, (∀ (j : Nat) (oj : Oper), ops[j]? = some oj → oj.dst ≠ some t) → a.tmps[t]? = a0.tmps[t]?) →
      (∀ (i : Nat) (o : Oper) (d : Nat), ops[i]? = some o → o.dst = some d → ∃ v, a.tmps[d]? = some v ∧ F i v w) → Q .normal a w) :
    ∀ (fuel : Nat) (listed : Array Bool) (a : Act) (w : World), RegInv ops a0 S F listed a w → left listed.toList ≤ fuel → wpAny P .any ops Q fuel listed a w := by
  have hall : ∀ (listed : Array Bool), listed.size = ops.size → Region.ready .any ops listed = [] → ∀ i, i < ops.size → listed.getD i false = true := by
    intro listed hls hr i
    induction i using Nat.strongRecOn with
    | ind i ih =>
      intro hi
      cases hg : listed.getD i false with
      | true => rfl
      | false =>
        exfalso
        have ho : ops[i]? = some ops[i] := Array.getElem?_eq_getElem hi
        have hm : i ∈ Region.ready .any ops listed := by
          rw [mem_ready]
          refine ⟨?_, ops[i], ho, fun e he _ => ?_⟩
          · simp [hls, hi] at hg ⊢; exact hg
          · have := shape_back hsh ho he
            exact ih e.on this (by omega)
        rw [hr] at hm
        cases hm
  have fin : ∀ (listed : Array Bool) (a : Act) (w : World), RegInv ops a0 S F listed a w → Region.ready .any ops listed = [] → Q .normal a w := by
    intro listed a w inv hr
    refine hend a w inv.world inv.tsize inv.defers inv.known fun i o d ho hd => inv.facts i o d ho hd ?_
    exact hall listed inv.lsize hr i (Array.getElem?_eq_some_iff.1 ho).1
  intro fuel
  induction fuel with
  | zero =>
    intro listed a w inv hl
    have hr : Region.ready .any ops listed = [] := by
      rw [List.eq_nil_iff_forall_not_mem]
      intro i hi
      rw [mem_ready] at hi
      obtain ⟨h0, o, ho, _⟩ := hi
      have hlt : i < ops.size := (Array.getElem?_eq_some_iff.1 ho).1
      have h1 : listed.toList[i]? = some false := by
        have : i < listed.size := by rw [inv.lsize]; exact hlt
        simp [this] at h0 ⊢; exact h0
      have := left_set _ _ h1
      omega
    exact ⟨hr, fin listed a w inv hr⟩
  | succ fuel ih =>
    intro listed a w inv hl
    refine ⟨fin listed a w inv, fun i hi => ?_⟩
    rw [mem_ready] at hi
    obtain ⟨h0, o, ho, hdep⟩ := hi
    have hlt : i < ops.size := (Array.getElem?_eq_some_iff.1 ho).1
    have hll : i < listed.size := by rw [inv.lsize]; exact hlt
    have h1 : listed.toList[i]? = some false := by simp [hll] at h0 ⊢; exact h0
    have hcnt := left_set _ _ h1
    have hl' : left (listed.setIfInBounds i true).toList ≤ fuel := by rw [Array.toList_setIfInBounds]; omega
    have hdeps := deps_of inv hdep (o.after.toList.filter fun e => Region.binds .any e) (fun e he => by simpa using he)
    have next : ∀ v w', F i v w' → S w' → Below w.heap.size w w' → wpAny P .any ops Q fuel (listed.setIfInBounds i true) (a.put o.dst v) w' := by
      intro v w' hF hS hB
      refine ih _ _ _ ⟨by simp [inv.lsize], ?_, ?_, hS, ?_, ?_⟩ hl'
      · cases hd : o.dst with
        | none => exact inv.tsize
        | some d => rw [put_tmps, Array.size_setIfInBounds]; exact inv.tsize
      · cases hd : o.dst with
        | none => exact inv.defers
        | some d => exact inv.defers
      · intro t ht
        have hne := ht i o ho
        cases hd : o.dst with
        | none => exact inv.known t ht
        | some d =>
          rw [put_tmps, Array.getElem?_setIfInBounds_ne (fun e => hne (by rw [hd, e]))]
          exact inv.known t ht
      · intro j oj d' hj hdj hlj
        by_cases hji : j = i
        · subst hji
          have : oj = o := Option.some.inj (hj.symm.trans ho)
          subst this
          refine ⟨v, ?_, hF⟩
          rw [hdj, put_tmps]
          have := shape_lt hsh ho hdj
          rw [Array.getElem?_setIfInBounds_self_of_lt (by rw [inv.tsize]; exact this)]
        · have hlj' : listed.getD j false = true := by rw [getD_set_ne false (Ne.symm hji)] at hlj; exact hlj
          obtain ⟨u, hu, hFu⟩ := inv.facts j oj d' hj hdj hlj'
          refine ⟨u, ?_, hstab j u w w' hFu hB⟩
          cases hd : o.dst with
          | none => exact hu
          | some d =>
            have hne := shape_one hsh hj hdj ho (Ne.symm hji)
            rw [put_tmps, Array.getElem?_setIfInBounds_ne (fun e => hne (by rw [hd, e]))]
            exact hu
    have hs := hstep i o ho a w inv.world inv.tsize inv.defers inv.known hdeps _ next
    unfold wpOp
    simp only [ho]
    split
    · rename_i hw; rw [if_pos hw] at hs; exact .inl hs
    · rename_i hw; rw [if_neg hw] at hs; exact hs

/-- The law, from the region's beginning. -/
theorem wpAny_start {a0 : Act} {w : World} (S : World → Prop) (F : Nat → Value → World → Prop) (hsh : regShape ops a0.tmps.size = true)
    (hstab : ∀ i v w w', F i v w → Below w.heap.size w w' → F i v w') (hS : S w)
    (hstep : RegSteps P ops Q a0 S F 0 ops.toList)
    (hend : ∀ (a : Act) (w : World), S w → a.tmps.size = a0.tmps.size → a.defers = a0.defers → (∀ t, (∀ (j : Nat) (oj : Oper), ops[j]? = some oj → oj.dst ≠ some t) → a.tmps[t]? = a0.tmps[t]?) →
      (∀ (i : Nat) (o : Oper) (d : Nat), ops[i]? = some o → o.dst = some d → ∃ v, a.tmps[d]? = some v ∧ F i v w) → Q .normal a w) :
    wpAny P .any ops Q ops.size (Array.replicate ops.size false) a0 w := by
  refine wpAny_facts hsh hstab ?_ hend ops.size _ a0 _ ⟨by simp, rfl, rfl, hS, fun _ _ => rfl, ?_⟩ ?_
  · intro i o ho
    have := regSteps_at ops.toList 0 hstep i o (by simpa using ho)
    rw [Nat.zero_add] at this
    exact this
  · intro i o d ho _ hl
    have hlt : i < ops.size := (Array.getElem?_eq_some_iff.1 ho).1
    simp [hlt] at hl
  · simp only [left, Array.toList_replicate]
    exact Nat.le_trans List.countP_le_length (by simp)

/-- Whatever order: the text's own among them. -/
theorem any_text {m : Nat} (hsh : regShape ops m = true) : ∀ (n k : Nat) (listed : Array Bool) (a : Act) (w : World), listed.size = ops.size → k + n = ops.size → (∀ i, i < ops.size → listed.getD i false = decide (i < k)) →
    wpAny P .any ops Q n listed a w → wpOps P ops Q (List.range' k n) a w := by
  intro n
  induction n with
  | zero => intro k listed a w _ _ _ h; exact h.2
  | succ n ih =>
    intro k listed a w hls hk hl h
    rw [List.range'_succ, wpOps_cons]
    have hlt : k < ops.size := by omega
    have ho : ops[k]? = some ops[k] := Array.getElem?_eq_getElem hlt
    have hm : k ∈ Region.ready .any ops listed := by
      rw [mem_ready]
      refine ⟨?_, ops[k], ho, fun e he _ => ?_⟩
      · have := hl k hlt
        simp [hls, hlt] at this ⊢; exact this
      · have h1 := shape_back hsh ho he
        rw [hl e.on (by omega)]
        simpa using h1
    refine wpOp_mono (fun a w hh => ih (k + 1) _ a w (by simp [hls]) (by omega) ?_ hh) (h.2 k hm)
    intro i hi
    by_cases hik : k = i
    · subst hik
      have : k < listed.size := by omega
      simp [this]
    · rw [getD_set_ne false hik, hl i hi, decide_eq_decide]
      omega
end

end Go.Proofs.Ytblanbopjebenaa

/- Regions that draw their order, by slots; an append that keeps the old row. -/
import Derived.WalkKit
import Derived.Orders
import Derived.StillTail
import Derived.Maps.AppendAt
/- A region that draws its order, walked operation by operation, whatever the order: each operation owes a fact on what it yields, out of the facts of those that it waits for. Facts live on while memory is only made. Nothing of the program. -/
namespace Go.Proofs.Ytahhiajliomcfaa
open Go.RowKit

section
variable {P : Program} {ops : Array Oper} {Q : Exit → Act → World → Prop}

/-- How many are not listed yet. -/
def left (l : List Bool) : Nat := l.countP fun b => !b
theorem left_set (l : List Bool) (i : Nat) (h : l[i]? = some false) : left (l.set i true) + 1 = left l := by
  induction l generalizing i with
  | nil => simp at h
  | cons b r ih =>
    cases i with
    | zero =>
      simp at h
      subst h
      simp [left]
    | succ i =>
      have := ih i (by simpa using h)
      simp only [left, List.set_cons_succ, List.countP_cons] at this ⊢
      omega

/-- What an operation waits for has yielded, and its fact holds. -/
def Deps (ops : Array Oper) (F : Nat → Value → World → Prop) (a : Act) (w : World) : List Edge → Prop
  | [] => True
  | e :: es => (∀ (o : Oper) (d : Nat), ops[e.on]? = some o → o.dst = some d → ∃ v, a.tmps[d]? = some v ∧ F e.on v w) ∧ Deps ops F a w es

structure RegInv (ops : Array Oper) (a0 : Act) (S : World → Prop) (F : Nat → Value → World → Prop) (listed : Array Bool) (a : Act) (w : World) : Prop where
  lsize : listed.size = ops.size
  tsize : a.tmps.size = a0.tmps.size
  defers : a.defers = a0.defers
  world : S w
  known : ∀ t, (∀ (i : Nat) (o : Oper), ops[i]? = some o → o.dst ≠ some t) → a.tmps[t]? = a0.tmps[t]?
  facts : ∀ (i : Nat) (o : Oper) (d : Nat), ops[i]? = some o → o.dst = some d → listed.getD i false = true → ∃ v, a.tmps[d]? = some v ∧ F i v w

/-- What each operation owes. -/
def RegStep (P : Program) (ops : Array Oper) (Q : Exit → Act → World → Prop) (a0 : Act) (S : World → Prop) (F : Nat → Value → World → Prop) (i : Nat) (o : Oper) : Prop :=
  ∀ (a : Act) (w : World), S w → a.tmps.size = a0.tmps.size → a.defers = a0.defers → (∀ t, (∀ (j : Nat) (oj : Oper), ops[j]? = some oj → oj.dst ≠ some t) → a.tmps[t]? = a0.tmps[t]?) → Deps ops F a w (o.after.toList.filter fun e => Region.binds .any e) →
    ∀ K : Act → World → Prop, (∀ v w', F i v w' → S w' → Below w.heap.size w w' → K (a.put o.dst v) w') →
      if Region.wanted o (yielded ops a.tmps) = true then o.wp P a w K Q else K (a.put o.dst undef) w

def RegSteps (P : Program) (ops : Array Oper) (Q : Exit → Act → World → Prop) (a0 : Act) (S : World → Prop) (F : Nat → Value → World → Prop) : Nat → List Oper → Prop
  | _, [] => True
  | i, o :: os => RegStep P ops Q a0 S F i o ∧ RegSteps P ops Q a0 S F (i + 1) os

theorem regSteps_at {a0 : Act} {S : World → Prop} {F : Nat → Value → World → Prop} : ∀ (l : List Oper) (k : Nat), RegSteps P ops Q a0 S F k l → ∀ i o, l[i]? = some o → RegStep P ops Q a0 S F (k + i) o
  | [], _, _, i, o, h => by simp at h
  | x :: r, k, h, 0, o, ho => by
    simp at ho
    subst ho
    exact h.1
  | x :: r, k, h, i + 1, o, ho => by
    have := regSteps_at r (k + 1) h.2 i o (by simpa using ho)
    rw [show k + (i + 1) = k + 1 + i from by omega]
    exact this

/-- The region's own shape: no two operations write one slot, each slot is there, each waits for earlier ones. -/
def regShape (ops : Array Oper) (n : Nat) : Bool :=
  (List.range ops.size).all fun i =>
    match ops[i]? with
    | none => true
    | some o =>
      (match o.dst with
       | none => true
       | some d => decide (d < n) && (List.range ops.size).all fun j => decide (j = i) || (match ops[j]? with | none => true | some oj => oj.dst != some d)) &&
      o.after.toList.all fun e => decide (e.on < i)

theorem shape_lt {n : Nat} (h : regShape ops n = true) {i : Nat} {o : Oper} {d : Nat} (ho : ops[i]? = some o) (hd : o.dst = some d) : d < n := by
  have hi : i < ops.size := (Array.getElem?_eq_some_iff.1 ho).1
  have := List.all_eq_true.1 h i (List.mem_range.2 hi)
  simp only [ho, hd, Bool.and_eq_true, decide_eq_true_eq] at this
  exact this.1.1
theorem shape_one {n : Nat} (h : regShape ops n = true) {i j : Nat} {o oj : Oper} {d : Nat} (ho : ops[i]? = some o) (hd : o.dst = some d) (hj : ops[j]? = some oj) (hne : j ≠ i) : oj.dst ≠ some d := by
  have hi : i < ops.size := (Array.getElem?_eq_some_iff.1 ho).1
  have hjl : j < ops.size := (Array.getElem?_eq_some_iff.1 hj).1
  have := List.all_eq_true.1 h i (List.mem_range.2 hi)
  simp only [ho, hd, Bool.and_eq_true, decide_eq_true_eq] at this
  have h2 := List.all_eq_true.1 this.1.2 j (List.mem_range.2 hjl)
  simp only [hj, Bool.or_eq_true, decide_eq_true_eq, bne_iff_ne] at h2
  rcases h2 with h2 | h2
  · exact absurd h2 hne
  · exact h2
theorem shape_back {n : Nat} (h : regShape ops n = true) {i : Nat} {o : Oper} (ho : ops[i]? = some o) {e : Edge} (he : e ∈ o.after) : e.on < i := by
  have hi : i < ops.size := (Array.getElem?_eq_some_iff.1 ho).1
  have := List.all_eq_true.1 h i (List.mem_range.2 hi)
  simp only [ho, Bool.and_eq_true] at this
  have h2 := List.all_eq_true.1 this.2 e (by simpa using he)
  simpa using h2

theorem put_tmps (a : Act) (d : Nat) (v : Value) : (a.put (some d) v).tmps = a.tmps.setIfInBounds d v := rfl

theorem deps_of {F : Nat → Value → World → Prop} {a0 : Act} {S : World → Prop} {listed : Array Bool} {a : Act} {w : World} (inv : RegInv ops a0 S F listed a w) {o : Oper}
    (hr : ∀ e ∈ o.after, Region.binds .any e = true → listed.getD e.on false = true) : ∀ l : List Edge, (∀ e ∈ l, e ∈ o.after ∧ Region.binds .any e = true) → Deps ops F a w l
  | [], _ => trivial
  | e :: es, hl => ⟨fun oj d hoj hd => inv.facts e.on oj d hoj hd (hr e (hl e (by simp)).1 (hl e (by simp)).2), deps_of inv hr es (fun x hx => hl x (by simp [hx]))⟩

theorem wpAny_facts {F : Nat → Value → World → Prop} {a0 : Act} {S : World → Prop} (hsh : regShape ops a0.tmps.size = true)
    (hstab : ∀ i v w w', F i v w → Below w.heap.size w w' → F i v w')
    (hstep : ∀ (i : Nat) (o : Oper), ops[i]? = some o → RegStep P ops Q a0 S F i o)
    (hend : ∀ (a : Act) (w : World), S w → a.tmps.size = a0.tmps.size → a.defers = a0.defers → (∀ t, (∀ (j : Nat) (oj : Oper), ops[j]? = some oj → oj.dst ≠ some t) → a.tmps[t]? = a0.tmps[t]?) →
      (∀ (i : Nat) (o : Oper) (d : Nat), ops[i]? = some o → o.dst = some d → ∃ v, a.tmps[d]? = some v ∧ F i v w) → Q .normal a w) :
    ∀ (fuel : Nat) (listed : Array Bool) (a : Act) (w : World), RegInv ops a0 S F listed a w → left listed.toList ≤ fuel → wpAny P .any ops Q fuel listed a w := by
  have hall : ∀ (listed : Array Bool), listed.size = ops.size → Region.ready .any ops listed = [] → ∀ i, i < ops.size → listed.getD i false = true := by
    intro listed hls hr i
    induction i using Nat.strongRecOn with
    | ind i ih =>
      intro hi
      cases hg : listed.getD i false with
      | true => rfl
      | false =>
        exfalso
        have ho : ops[i]? = some ops[i] := Array.getElem?_eq_getElem hi
        have hm : i ∈ Region.ready .any ops listed := by
          rw [mem_ready]
          refine ⟨?_, ops[i], ho, fun e he _ => ?_⟩
          · simp [hls, hi] at hg ⊢; exact hg
          · have := shape_back hsh ho he
            exact ih e.on this (by omega)
        rw [hr] at hm
        cases hm
  have fin : ∀ (listed : Array Bool) (a : Act) (w : World), RegInv ops a0 S F listed a w → Region.ready .any ops listed = [] → Q .normal a w := by
    intro listed a w inv hr
    refine hend a w inv.world inv.tsize inv.defers inv.known fun i o d ho hd => inv.facts i o d ho hd ?_
    exact hall listed inv.lsize hr i (Array.getElem?_eq_some_iff.1 ho).1
  intro fuel
  induction fuel with
  | zero =>
    intro listed a w inv hl
    have hr : Region.ready .any ops listed = [] := by
      rw [List.eq_nil_iff_forall_not_mem]
      intro i hi
      rw [mem_ready] at hi
      obtain ⟨h0, o, ho, _⟩ := hi
      have hlt : i < ops.size := (Array.getElem?_eq_some_iff.1 ho).1
      have h1 : listed.toList[i]? = some false := by
        have : i < listed.size := by rw [inv.lsize]; exact hlt
        simp [this] at h0 ⊢; exact h0
      have := left_set _ _ h1
      omega
    exact ⟨hr, fin listed a w inv hr⟩
  | succ fuel ih =>
    intro listed a w inv hl
    refine ⟨fin listed a w inv, fun i hi => ?_⟩
    rw [mem_ready] at hi
    obtain ⟨h0, o, ho, hdep⟩ := hi
    have hlt : i < ops.size := (Array.getElem?_eq_some_iff.1 ho).1
    have hll : i < listed.size := by rw [inv.lsize]; exact hlt
    have h1 : listed.toList[i]? = some false := by simp [hll] at h0 ⊢; exact h0
    have hcnt := left_set _ _ h1
    have hl' : left (listed.setIfInBounds i true).toList ≤ fuel := by rw [Array.toList_setIfInBounds]; omega
    have hdeps := deps_of inv hdep (o.after.toList.filter fun e => Region.binds .any e) (fun e he => by simpa using he)
    have next : ∀ v w', F i v w' → S w' → Below w.heap.size w w' → wpAny P .any ops Q fuel (listed.setIfInBounds i true) (a.put o.dst v) w' := by
      intro v w' hF hS hB
      refine ih _ _ _ ⟨by simp [inv.lsize], ?_, ?_, hS, ?_, ?_⟩ hl'
      · cases hd : o.dst with
        | none => exact inv.tsize
        | some d => rw [put_tmps, Array.size_setIfInBounds]; exact inv.tsize
      · cases hd : o.dst with
        | none => exact inv.defers
        | some d => exact inv.defers
      · intro t ht
        have hne := ht i o ho
        cases hd : o.dst with
        | none => exact inv.known t ht
        | some d =>
          rw [put_tmps, Array.getElem?_setIfInBounds_ne (fun e => hne (by rw [hd, e]))]
          exact inv.known t ht
      · intro j oj d' hj hdj hlj
        by_cases hji : j = i
        · subst hji
          have : oj = o := Option.some.inj (hj.symm.trans ho)
          subst this
          refine ⟨v, ?_, hF⟩
          rw [hdj, put_tmps]
          have := shape_lt hsh ho hdj
          rw [Array.getElem?_setIfInBounds_self_of_lt (by rw [inv.tsize]; exact this)]
        · have hlj' : listed.getD j false = true := by rw [getD_set_ne false (Ne.symm hji)] at hlj; exact hlj
          obtain ⟨u, hu, hFu⟩ := inv.facts j oj d' hj hdj hlj'
          refine ⟨u, ?_, hstab j u w w' hFu hB⟩
          cases hd : o.dst with
          | none => exact hu
          | some d =>
            have hne := shape_one hsh hj hdj ho (Ne.symm hji)
            rw [put_tmps, Array.getElem?_setIfInBounds_ne (fun e => hne (by rw [hd, e]))]
            exact hu
    have hs := hstep i o ho a w inv.world inv.tsize inv.defers inv.known hdeps _ next
    unfold wpOp
    simp only [ho]
    split
    · rename_i hw; rw [if_pos hw] at hs; exact .inl hs
    · rename_i hw; rw [if_neg hw] at hs; exact hs

/-- The law, from the region's beginning. -/
theorem wpAny_start {a0 : Act} {w : World} (S : World → Prop) (F : Nat → Value → World → Prop) (hsh : regShape ops a0.tmps.size = true)
    (hstab : ∀ i v w w', F i v w → Below w.heap.size w w' → F i v w') (hS : S w)
    (hstep : RegSteps P ops Q a0 S F 0 ops.toList)
    (hend : ∀ (a : Act) (w : World), S w → a.tmps.size = a0.tmps.size → a.defers = a0.defers → (∀ t, (∀ (j : Nat) (oj : Oper), ops[j]? = some oj → oj.dst ≠ some t) → a.tmps[t]? = a0.tmps[t]?) →
      (∀ (i : Nat) (o : Oper) (d : Nat), ops[i]? = some o → o.dst = some d → ∃ v, a.tmps[d]? = some v ∧ F i v w) → Q .normal a w) :
    wpAny P .any ops Q ops.size (Array.replicate ops.size false) a0 w := by
  refine wpAny_facts hsh hstab ?_ hend ops.size _ a0 _ ⟨by simp, rfl, rfl, hS, fun _ _ => rfl, ?_⟩ ?_
  · intro i o ho
    have := regSteps_at ops.toList 0 hstep i o (by simpa using ho)
    rw [Nat.zero_add] at this
    exact this
  · intro i o d ho _ hl
    have hlt : i < ops.size := (Array.getElem?_eq_some_iff.1 ho).1
    simp [hlt] at hl
  · simp only [left, Array.toList_replicate]
    exact Nat.le_trans List.countP_le_length (by simp)

end

end Go.Proofs.Ytahhiajliomcfaa

/- The same law by slots: what each slot holds once it is written, and what an operation owes out of the slots that it reads. Nothing of the program. -/
namespace Go.Proofs.Ytahhiajliomcfaa
open Go.RowKit

section
variable {P : Program} {ops : Array Oper} {Q : Exit → Act → World → Prop}

/-- The slots ts hold what G says. -/
def Holds (G : Nat → Value → World → Prop) (a : Act) (w : World) : List Nat → Prop
  | [] => True
  | t :: ts => (∃ v, a.tmps[t]? = some v ∧ G t v w) ∧ Holds G a w ts
def AtDst (G : Nat → Value → World → Prop) (v : Value) (w : World) : Option Nat → Prop
  | none => True
  | some d => G d v w

/-- What an operation owes. -/
def Owes (P : Program) (ops : Array Oper) (Q : Exit → Act → World → Prop) (S : World → Prop) (G : Nat → Value → World → Prop) (o : Oper) : Prop :=
  ∀ (a : Act) (w : World), S w → Holds G a w (o.looksAt ops) →
    ∀ K : Act → World → Prop, (∀ v w', AtDst G v w' o.dst → S w' → Below w.heap.size w w' → K (a.put o.dst v) w') →
      if Region.wanted o (yielded ops a.tmps) = true then o.wp P a w K Q else K (a.put o.dst undef) w
def OweAll (P : Program) (ops : Array Oper) (Q : Exit → Act → World → Prop) (S : World → Prop) (G : Nat → Value → World → Prop) : List Oper → Prop
  | [] => True
  | o :: os => Owes P ops Q S G o ∧ OweAll P ops Q S G os

/-- Each operation waits for those that write what it reads. -/
def regReads (ops : Array Oper) : Bool :=
  ops.toList.all fun o => (o.looksAt ops).all fun t => (List.range ops.size).all fun j =>
    match ops[j]? with
    | none => true
    | some oj => (oj.dst != some t) || (o.after.toList.filter fun e => Region.binds .any e).any fun e => e.on == j

/-- Whatever is read and not written here is among the slots ro. -/
def regRo (ops : Array Oper) (ro : List Nat) : Bool :=
  ops.toList.all fun o => (o.looksAt ops).all fun t => ro.contains t || ops.toList.any fun oj => oj.dst == some t
theorem holds_mem {G : Nat → Value → World → Prop} {a : Act} {w : World} : ∀ (l : List Nat), Holds G a w l → ∀ t ∈ l, ∃ v, a.tmps[t]? = some v ∧ G t v w
  | [], _, t, h => by cases h
  | x :: r, h, t, ht => by
    rcases List.mem_cons.1 ht with rfl | ht
    · exact h.1
    · exact holds_mem r h.2 t ht

theorem owe_at {S : World → Prop} {G : Nat → Value → World → Prop} : ∀ (l : List Oper), OweAll P ops Q S G l → ∀ o ∈ l, Owes P ops Q S G o
  | [], _, o, h => by cases h
  | x :: r, h, o, ho => by
    rcases List.mem_cons.1 ho with rfl | ho
    · exact h.1
    · exact owe_at r h.2 o ho

theorem deps_mem {F : Nat → Value → World → Prop} {a : Act} {w : World} : ∀ (l : List Edge), Deps ops F a w l → ∀ e ∈ l, ∀ (o : Oper) (d : Nat), ops[e.on]? = some o → o.dst = some d → ∃ v, a.tmps[d]? = some v ∧ F e.on v w
  | [], _, e, he => by cases he
  | x :: r, h, e, he => by
    rcases List.mem_cons.1 he with rfl | he
    · exact h.1
    · exact deps_mem r h.2 e he

theorem slots_any {a0 : Act} {w : World} (S : World → Prop) (G : Nat → Value → World → Prop) (hsh : regShape ops a0.tmps.size = true)
    (hrd : regReads ops = true)
    (hstab : ∀ t v w w', G t v w → Below w.heap.size w w' → G t v w') (hS : S w) (ro : List Nat) (hro : regRo ops ro = true) (hin : ∀ w, S w → Holds G a0 w ro)
    (howe : OweAll P ops Q S G ops.toList)
    (hend : ∀ (a : Act) (w : World), S w → a.tmps.size = a0.tmps.size → a.defers = a0.defers → (∀ t, (∀ (j : Nat) (oj : Oper), ops[j]? = some oj → oj.dst ≠ some t) → a.tmps[t]? = a0.tmps[t]?) →
      (∀ (i : Nat) (o : Oper) (d : Nat), ops[i]? = some o → o.dst = some d → ∃ v, a.tmps[d]? = some v ∧ G d v w) → Q .normal a w) :
    wpAny P .any ops Q ops.size (Array.replicate ops.size false) a0 w := by
  have hG : ∀ (i : Nat) (o : Oper) (d : Nat), ops[i]? = some o → o.dst = some d → ∀ v w, (∀ (o : Oper) (d : Nat), ops[i]? = some o → o.dst = some d → G d v w) ↔ G d v w := by
    intro i o d ho hd v w
    constructor
    · exact fun h => h o d ho hd
    · intro h o' d' ho' hd'
      have : o' = o := Option.some.inj (ho'.symm.trans ho)
      subst this
      have : d' = d := Option.some.inj (hd'.symm.trans hd)
      subst this
      exact h
  refine wpAny_start S (fun i v w => ∀ (o : Oper) (d : Nat), ops[i]? = some o → o.dst = some d → G d v w) hsh (fun i v w w' h hB o d ho hd => hstab d v w w' (h o d ho hd) hB) hS ?_ ?_
  · have key : ∀ (l : List Oper) (k : Nat), (∀ i o, l[i]? = some o → ops[k + i]? = some o) → RegSteps P ops Q a0 S (fun i v w => ∀ (o : Oper) (d : Nat), ops[i]? = some o → o.dst = some d → G d v w) k l := by
      intro l
      induction l with
      | nil => intro k _; trivial
      | cons o r ih =>
        intro k hk
        refine ⟨?_, ih (k + 1) fun i o' h => by rw [show k + 1 + i = k + (i + 1) from by omega]; exact hk (i + 1) o' (by simpa using h)⟩
        have ho : ops[k]? = some o := by have := hk 0 o rfl; simpa using this
        have hmem : o ∈ ops.toList := by
          obtain ⟨h, e⟩ := Array.getElem?_eq_some_iff.1 ho
          rw [← e]; simp
        intro a w hSw hts hdf hkn hdp K hK
        refine owe_at ops.toList howe o hmem a w hSw ?_ K (fun v w' hA hS' hB => hK v w' (fun o' d ho' hd => ?_) hS' hB)
        · have hl : ∀ ts : List Nat, (∀ t ∈ ts, t ∈ o.looksAt ops) → Holds G a w ts := by
            intro ts
            induction ts with
            | nil => intro _; trivial
            | cons t ts iht =>
              intro hts'
              refine ⟨?_, iht fun x hx => hts' x (by simp [hx])⟩
              have hto := hts' t (by simp)
              by_cases hw : ∃ (j : Nat) (oj : Oper), ops[j]? = some oj ∧ oj.dst = some t
              · obtain ⟨j, oj, hj, hdj⟩ := hw
                have hjl : j < ops.size := (Array.getElem?_eq_some_iff.1 hj).1
                have h1 := List.all_eq_true.1 (List.all_eq_true.1 (List.all_eq_true.1 hrd o hmem) t hto) j (List.mem_range.2 hjl)
                simp only [hj, hdj, bne_self_eq_false, Bool.false_or, List.any_eq_true, beq_iff_eq] at h1
                obtain ⟨e, he, hej⟩ := h1
                obtain ⟨v, hv, hF⟩ := deps_mem _ hdp e he oj t (by rw [hej]; exact hj) hdj
                exact ⟨v, hv, hF oj t (by rw [hej]; exact hj) hdj⟩
              · have hno : ∀ (j : Nat) (oj : Oper), ops[j]? = some oj → oj.dst ≠ some t := fun j oj hj hd => hw ⟨j, oj, hj, hd⟩
                have h1 := List.all_eq_true.1 (List.all_eq_true.1 hro o hmem) t hto
                rw [Bool.or_eq_true] at h1
                rcases h1 with h1 | h1
                · obtain ⟨v, hv, hg⟩ := holds_mem ro (hin w hSw) t (by simpa using h1)
                  exact ⟨v, (hkn t hno).trans hv, hg⟩
                · rw [List.any_eq_true] at h1
                  obtain ⟨oj, hoj, hdj⟩ := h1
                  obtain ⟨j, hj⟩ := List.getElem?_of_mem hoj
                  exact absurd (by simpa using hdj) (hno j oj (by simpa using hj))
          exact hl _ fun _ h => h
        · have : o' = o := Option.some.inj (ho'.symm.trans ho)
          subst this
          rw [hd] at hA
          exact hA
    refine key ops.toList 0 fun i o h => ?_
    rw [Nat.zero_add]
    simpa using h
  · intro a w hSw hts hdf hkn hf
    refine hend a w hSw hts hdf hkn fun i o d ho hd => ?_
    obtain ⟨v, hv, hF⟩ := hf i o d ho hd
    exact ⟨v, hv, hF o d ho hd⟩

/-- A region that draws. -/
theorem wp_region_slots {id : Nat} {a0 : Act} {w : World} (S : World → Prop) (G : Nat → Value → World → Prop) (hm : P.follows .mixedOrders = true) (hsh : regShape ops a0.tmps.size = true)
    (hrd : regReads ops = true)
    (hstab : ∀ t v w w', G t v w → Below w.heap.size w w' → G t v w') (hS : S w.drew) (ro : List Nat) (hro : regRo ops ro = true) (hin : ∀ w, S w → Holds G a0 w ro)
    (howe : OweAll P ops Q S G ops.toList)
    (hend : ∀ (a : Act) (w : World), S w → a.tmps.size = a0.tmps.size → a.defers = a0.defers → (∀ t, (∀ (j : Nat) (oj : Oper), ops[j]? = some oj → oj.dst ≠ some t) → a.tmps[t]? = a0.tmps[t]?) →
      (∀ (i : Nat) (o : Oper) (d : Nat), ops[i]? = some o → o.dst = some d → ∃ v, a.tmps[d]? = some v ∧ G d v w) → Q .normal a w) :
    (Code.region id ops true).wp P Q a0 w :=
  wp_region_any hm (slots_any S G hsh hrd hstab hS ro hro hin howe hend)
theorem spec_ok {R R' : Value → World → Prop} {v : Value} {w : World} (h : some R = some R') (t : R v w) : R' v w := by cases h; exact t
theorem no_some {α : Type} {x : α} {C : Prop} (h : (none : Option α) = some x) : C := by cases h
theorem want_none {o : Oper} {y : Nat → Option Bool} (h : o.guard = none) : Region.wanted o y = true := by simp [Region.wanted, h]
theorem want_some {o oj : Oper} {a : Act} {j d : Nat} {b : Bool} (h : o.guard = some (j, b)) (hj : ops[j]? = some oj) (hd : oj.dst = some d) (hv : a.tmps[d]? = some (.bool b)) : Region.wanted o (yielded ops a.tmps) = true := by
  simp [Region.wanted, h, yielded, hj, hd, hv]
theorem unwant {o oj : Oper} {a : Act} {j d : Nat} {b b' : Bool} (h : o.guard = some (j, b)) (hj : ops[j]? = some oj) (hd : oj.dst = some d) (hv : a.tmps[d]? = some (.bool b')) (hne : b' ≠ b) : ¬ Region.wanted o (yielded ops a.tmps) = true := by
  simp [Region.wanted, h, yielded, hj, hd, hv, hne]
theorem eval_at {a : Act} {t : Nat} {v : Value} (h : a.tmps[t]? = some v) : a.eval (.tmp t) = v := by
  simp [Act.eval, h]
end

end Go.Proofs.Ytahhiajliomcfaa

/- The law by slots once more, where some steps write: each operation says how it changes memory, some facts do not outlive some steps, and the order that the operations keep says that nobody reads them then. Nothing of the program. -/
namespace Go.Proofs.Ytahhiajliomcfaa
open Go.RowKit

section
variable {P : Program} {ops : Array Oper} {Q : Exit → Act → World → Prop}

def OwesE (P : Program) (ops : Array Oper) (Q : Exit → Act → World → Prop) (S : World → Prop) (G : Nat → Value → World → Prop) (E : Option Nat → World → World → Prop) (o : Oper) : Prop :=
  ∀ (a : Act) (w : World), S w → Holds G a w (o.looksAt ops) →
    ∀ K : Act → World → Prop, (∀ v w', AtDst G v w' o.dst → S w' → E o.dst w w' → K (a.put o.dst v) w') →
      if Region.wanted o (yielded ops a.tmps) = true then o.wp P a w K Q else K (a.put o.dst undef) w
def OweAllE (P : Program) (ops : Array Oper) (Q : Exit → Act → World → Prop) (S : World → Prop) (G : Nat → Value → World → Prop) (E : Option Nat → World → World → Prop) : List Oper → Prop
  | [] => True
  | o :: os => OwesE P ops Q S G E o ∧ OweAllE P ops Q S G E os
theorem oweE_at {S : World → Prop} {G : Nat → Value → World → Prop} {E : Option Nat → World → World → Prop} : ∀ (l : List Oper), OweAllE P ops Q S G E l → ∀ o ∈ l, OwesE P ops Q S G E o
  | [], _, o, h => by cases h
  | x :: r, h, o, ho => by
    rcases List.mem_cons.1 ho with rfl | ho
    · exact h.1
    · exact oweE_at r h.2 o ho

/-- What those of s wait for, however far. -/
def ancs (ops : Array Oper) : Nat → List Nat → List Nat
  | 0, s => s
  | n + 1, s => ancs ops n (if s.contains n then (match ops[n]? with | none => [] | some o => (o.after.toList.filter fun e => Region.binds .any e).map (·.on)) ++ s else s)

def Down (ops : Array Oper) (listed : Array Bool) : Prop := ∀ (i : Nat) (o : Oper), ops[i]? = some o → listed.getD i false = true → ∀ e ∈ o.after, Region.binds .any e = true → listed.getD e.on false = true
theorem ancs_listed {listed : Array Bool} (hd : Down ops listed) : ∀ (n : Nat) (s : List Nat), (∀ x ∈ s, listed.getD x false = true) → ∀ x ∈ ancs ops n s, listed.getD x false = true := by
  intro n
  induction n with
  | zero => exact fun s h => h
  | succ n ih =>
    intro s h x hx
    refine ih _ ?_ x hx
    intro y hy
    split at hy
    · rename_i hc
      rw [List.mem_append] at hy
      rcases hy with hy | hy
      · cases ho : ops[n]? with
        | none => rw [ho] at hy; cases hy
        | some o =>
          rw [ho] at hy
          simp only [List.mem_map, List.mem_filter] at hy
          obtain ⟨e, ⟨he, hb⟩, rfl⟩ := hy
          exact hd n o ho (h n (by simpa using hc)) e (by simpa using he) hb
      · exact h y hy
    · exact h y hy

/-- A fact that a step may end: the step comes earlier, or whoever reads the fact does. -/
def regPairs (ops : Array Oper) (ok : Nat → Option Nat → Bool) : Bool :=
  (List.range ops.size).all fun j => (List.range ops.size).all fun i =>
    match ops[j]?, ops[i]? with
    | some oj, some oi =>
      (match oj.dst with
       | none => true
       | some d => ok d oi.dst || (ancs ops ops.size [j]).contains i || (List.range ops.size).all fun r =>
          match ops[r]? with
          | none => true
          | some x => !(x.looksAt ops).contains d || (ancs ops ops.size [i]).contains r)
    | _, _ => true

structure RegInvE (ops : Array Oper) (ok : Nat → Option Nat → Bool) (a0 : Act) (S : World → Prop) (G : Nat → Value → World → Prop) (listed : Array Bool) (a : Act) (w : World) : Prop where
  lsize : listed.size = ops.size
  tsize : a.tmps.size = a0.tmps.size
  defers : a.defers = a0.defers
  world : S w
  known : ∀ t, (∀ (i : Nat) (o : Oper), ops[i]? = some o → o.dst ≠ some t) → a.tmps[t]? = a0.tmps[t]?
  down : Down ops listed
  facts : ∀ (i : Nat) (o : Oper) (d : Nat), ops[i]? = some o → o.dst = some d → listed.getD i false = true →
    ((∃ d', ok d d' = false) ∧ ∀ (r : Nat) (x : Oper), ops[r]? = some x → d ∈ x.looksAt ops → listed.getD r false = true) ∨ ∃ v, a.tmps[d]? = some v ∧ G d v w

end

end Go.Proofs.Ytahhiajliomcfaa

/- The law by slots, where the last operations come behind all others, in the order of the text (stores of an assignment). Nothing of the program. -/
namespace Go.Proofs.Ytahhiajliomcfaa
open Go.RowKit

section
variable {P : Program} {ops : Array Oper} {Q : Exit → Act → World → Prop}

/-- Each operation from n on waits, however far, for all ahead of n. -/
def regTail (ops : Array Oper) (n : Nat) : Bool :=
  (List.range ops.size).all fun t => (List.range n).all fun i => decide (t < n) || (ancs ops ops.size [t]).contains i
def headDone (ops : Array Oper) (n : Nat) : Array Bool := ((List.range ops.size).map fun i => decide (i < n)).toArray
theorem headDone_size {ops : Array Oper} {n : Nat} : (headDone ops n).size = ops.size := by simp [headDone]
theorem headDone_at {ops : Array Oper} {n i : Nat} (h : i < ops.size) : (headDone ops n)[i]? = some (decide (i < n)) := by
  unfold headDone
  rw [List.getElem?_toArray]
  simp [h]
theorem headDone_left {ops : Array Oper} {n : Nat} (h : n ≤ ops.size) : left (headDone ops n).toList = ops.size - n := by
  unfold left headDone
  rw [List.countP_map]
  generalize ops.size = m at h
  induction m with
  | zero => simp
  | succ m ih =>
    rw [List.range_succ, List.countP_append]
    by_cases hm : n ≤ m
    · rw [ih hm]
      have : ¬ m < n := by omega
      simp [this]
      omega
    · have e : n = m + 1 := by omega
      subst e
      rw [List.countP_eq_zero.2]
      · simp
      · intro x hx
        have := List.mem_range.1 hx
        simp
        omega

theorem wpAny_factsT (n : Nat) (hn : n ≤ ops.size) (htl : regTail ops n = true) (hsq : Region.seqB .any ops (ops.size - n) n (headDone ops n) = true) {ok : Nat → Option Nat → Bool} {G : Nat → Value → World → Prop} {E : Option Nat → World → World → Prop} {a0 : Act} {S : World → Prop} (hsh : regShape ops a0.tmps.size = true)
    (hrd : regReads ops = true) (hok : regPairs ops ok = true)
    (hstab : ∀ t d v w w', ok t d = true → S w → G t v w → E d w w' → G t v w') (ro : List Nat) (hro : regRo ops ro = true) (hin : ∀ w, S w → Holds G a0 w ro)
    (howe : OweAllE P ops Q S G E (ops.toList.take n))
    (hend : ∀ (a : Act) (w : World), S w → a.tmps.size = a0.tmps.size → a.defers = a0.defers → (∀ t, (∀ (j : Nat) (oj : Oper), ops[j]? = some oj → oj.dst ≠ some t) → a.tmps[t]? = a0.tmps[t]?) →
      (∀ (i : Nat) (o : Oper) (d : Nat), i < n → ops[i]? = some o → o.dst = some d → (∀ d', ok d d' = true) → ∃ v, a.tmps[d]? = some v ∧ G d v w) → wpList P ops Q (ops.toList.drop n) a w) :
    ∀ (fuel : Nat) (listed : Array Bool) (a : Act) (w : World), RegInvE ops ok a0 S G listed a w → (∀ t, n ≤ t → listed.getD t false = false) → left listed.toList = fuel → wpAny P .any ops Q fuel listed a w := by
  have hall : ∀ (listed : Array Bool), listed.size = ops.size → Region.ready .any ops listed = [] → ∀ i, i < ops.size → listed.getD i false = true := by
    intro listed hls hr i
    induction i using Nat.strongRecOn with
    | ind i ih =>
      intro hi
      cases hg : listed.getD i false with
      | true => rfl
      | false =>
        exfalso
        have ho : ops[i]? = some ops[i] := Array.getElem?_eq_getElem hi
        have hm : i ∈ Region.ready .any ops listed := by
          rw [mem_ready]
          refine ⟨?_, ops[i], ho, fun e he _ => ?_⟩
          · simp [hls, hi] at hg ⊢; exact hg
          · have := shape_back hsh ho he
            exact ih e.on this (by omega)
        rw [hr] at hm
        cases hm
  have fin : ∀ (fuel : Nat) (listed : Array Bool) (a : Act) (w : World), RegInvE ops ok a0 S G listed a w → (∀ t, n ≤ t → listed.getD t false = false) → left listed.toList = fuel → (∀ i, i < n → listed.getD i false = true) → wpAny P .any ops Q fuel listed a w := by
    intro fuel listed a w inv ht hf hh
    have hL : listed = headDone ops n := by
      apply Array.ext_getElem?
      intro i
      rcases Nat.lt_or_ge i ops.size with hi | hi
      · have hil : i < listed.size := by rw [inv.lsize]; exact hi
        rw [headDone_at hi]
        rcases Nat.lt_or_ge i n with hin | hin
        · have := hh i hin
          rw [Array.getElem?_eq_getElem hil, decide_eq_true hin]
          simpa [hil] using this
        · have := ht i hin
          rw [Array.getElem?_eq_getElem hil, decide_eq_false (by omega)]
          simpa [hil] using this
      · rw [Array.getElem?_eq_none (by rw [inv.lsize]; exact hi), Array.getElem?_eq_none (by rw [headDone_size]; exact hi)]
    have hlen : (ops.toList.drop n).length = ops.size - n := by simp
    have hfuel : fuel = (ops.toList.drop n).length := by
      rw [← hf, hL, hlen]
      exact headDone_left hn
    have hw := hend a w inv.world inv.tsize inv.defers inv.known fun i o d hin ho hd hdd => by
      rcases inv.facts i o d ho hd (hh i hin) with ⟨⟨d', h⟩, _⟩ | h
      · rw [hdd d'] at h; cases h
      · exact h
    rw [hfuel, hL]
    exact wpAny_of_seq (ops.toList.drop n) n (headDone ops n) a w (fun j => by simp [List.getElem?_drop]) (by rw [hlen]; exact hsq) hw
  intro fuel
  induction fuel with
  | zero =>
    intro listed a w inv ht hl
    refine fin 0 listed a w inv ht hl fun i hi => ?_
    cases hg : listed.getD i false with
    | true => rfl
    | false =>
      have hil : i < listed.size := by rw [inv.lsize]; omega
      have h1 : listed.toList[i]? = some false := by simp [hil] at hg ⊢; exact hg
      have := left_set _ _ h1
      omega
  | succ fuel ih =>
    intro listed a w inv ht hl
    by_cases hh : ∀ i, i < n → listed.getD i false = true
    · exact fin (fuel + 1) listed a w inv ht hl hh
    have hex : ∃ i0, i0 < n ∧ listed.getD i0 false = false := by
      apply Classical.byContradiction
      intro hno
      apply hh
      intro i hi
      cases hg : listed.getD i false with
      | true => rfl
      | false => exact absurd ⟨i, hi, hg⟩ hno
    obtain ⟨i0, hi0, hg0⟩ := hex
    refine ⟨fun hr => ?_, fun i hi => ?_⟩
    · have := hall listed inv.lsize hr i0 (by omega)
      rw [hg0] at this; cases this
    rw [mem_ready] at hi
    obtain ⟨h0, o, ho, hdep⟩ := hi
    have hlt : i < ops.size := (Array.getElem?_eq_some_iff.1 ho).1
    have hll : i < listed.size := by rw [inv.lsize]; exact hlt
    have h1 : listed.toList[i]? = some false := by simp [hll] at h0 ⊢; exact h0
    have hnot : listed.getD i false = false := by simp [hll] at h0 ⊢; exact h0
    have hcnt := left_set _ _ h1
    have hl' : left (listed.setIfInBounds i true).toList = fuel := by rw [Array.toList_setIfInBounds]; omega
    have hmem : o ∈ ops.toList := by
      obtain ⟨h, e⟩ := Array.getElem?_eq_some_iff.1 ho
      rw [← e]; simp
    have hmore : ∀ r, listed.getD r false = true → (listed.setIfInBounds i true).getD r false = true := by
      intro r hr
      by_cases hri : r = i
      · subst hri; rw [hnot] at hr; cases hr
      · rw [getD_set_ne false (Ne.symm hri)]; exact hr
    have hself : (listed.setIfInBounds i true).getD i false = true := by simp [hll]
    have hdown : Down ops (listed.setIfInBounds i true) := by
      intro j oj hj hlj e he hb
      by_cases hji : j = i
      · subst hji
        have : oj = o := Option.some.inj (hj.symm.trans ho)
        subst this
        exact hmore _ (hdep e he hb)
      · rw [getD_set_ne false (Ne.symm hji)] at hlj
        exact hmore _ (inv.down j oj hj hlj e he hb)
    have hin0 : i < n := by
      rcases Nat.lt_or_ge i n with h | h
      · exact h
      · exfalso
        have h1 := List.all_eq_true.1 (List.all_eq_true.1 htl i (List.mem_range.2 hlt)) i0 (List.mem_range.2 hi0)
        simp only [Bool.or_eq_true, decide_eq_true_eq] at h1
        rcases h1 with h1 | h1
        · omega
        · have h2 := ancs_listed hdown ops.size [i] (by simpa using hself) i0 (by simpa using h1)
          have hne : i ≠ i0 := by omega
          rw [getD_set_ne false hne, hg0] at h2
          cases h2
    have hmemT : o ∈ ops.toList.take n := by
      rw [List.mem_take_iff_getElem]
      obtain ⟨h, e⟩ := Array.getElem?_eq_some_iff.1 ho
      exact ⟨i, by simp; omega, by simpa using e⟩
    have ht' : ∀ t, n ≤ t → (listed.setIfInBounds i true).getD t false = false := fun t h => by
      rw [getD_set_ne false (by omega)]; exact ht t h
    have hholds : ∀ ts : List Nat, (∀ t ∈ ts, t ∈ o.looksAt ops) → Holds G a w ts := by
      intro ts
      induction ts with
      | nil => intro _; trivial
      | cons t ts iht =>
        intro hts'
        refine ⟨?_, iht fun x hx => hts' x (by simp [hx])⟩
        have hto := hts' t (by simp)
        by_cases hw : ∃ (j : Nat) (oj : Oper), ops[j]? = some oj ∧ oj.dst = some t
        · obtain ⟨j, oj, hj, hdj⟩ := hw
          have hjl : j < ops.size := (Array.getElem?_eq_some_iff.1 hj).1
          have h1 := List.all_eq_true.1 (List.all_eq_true.1 (List.all_eq_true.1 hrd o hmem) t hto) j (List.mem_range.2 hjl)
          simp only [hj, hdj, bne_self_eq_false, Bool.false_or, List.any_eq_true, beq_iff_eq] at h1
          obtain ⟨e, he, hej⟩ := h1
          rw [List.mem_filter] at he
          have hlj := hdep e (by simpa using he.1) he.2
          rw [hej] at hlj
          rcases inv.facts j oj t hj hdj hlj with ⟨_, hx⟩ | hx
          · have := hx i o ho hto
            rw [hnot] at this; cases this
          · exact hx
        · have hno : ∀ (j : Nat) (oj : Oper), ops[j]? = some oj → oj.dst ≠ some t := fun j oj hj hd => hw ⟨j, oj, hj, hd⟩
          have h1 := List.all_eq_true.1 (List.all_eq_true.1 hro o hmem) t hto
          rw [Bool.or_eq_true] at h1
          rcases h1 with h1 | h1
          · obtain ⟨v, hv, hg⟩ := holds_mem ro (hin w inv.world) t (by simpa using h1)
            exact ⟨v, (inv.known t hno).trans hv, hg⟩
          · rw [List.any_eq_true] at h1
            obtain ⟨oj, hoj, hdj⟩ := h1
            obtain ⟨j, hj⟩ := List.getElem?_of_mem hoj
            exact absurd (by simpa using hdj) (hno j oj (by simpa using hj))
    have next : ∀ v w', AtDst G v w' o.dst → S w' → E o.dst w w' → wpAny P .any ops Q fuel (listed.setIfInBounds i true) (a.put o.dst v) w' := by
      intro v w' hF hS hB
      refine ih _ _ _ ⟨by simp [inv.lsize], ?_, ?_, hS, ?_, hdown, ?_⟩ ht' hl'
      · cases hd : o.dst with
        | none => exact inv.tsize
        | some d => rw [put_tmps, Array.size_setIfInBounds]; exact inv.tsize
      · cases hd : o.dst with
        | none => exact inv.defers
        | some d => exact inv.defers
      · intro t ht
        have hne := ht i o ho
        cases hd : o.dst with
        | none => exact inv.known t ht
        | some d =>
          rw [put_tmps, Array.getElem?_setIfInBounds_ne (fun e => hne (by rw [hd, e]))]
          exact inv.known t ht
      · intro j oj d' hj hdj hlj
        by_cases hji : j = i
        · subst hji
          have : oj = o := Option.some.inj (hj.symm.trans ho)
          subst this
          refine .inr ⟨v, ?_, ?_⟩
          · rw [hdj, put_tmps]
            have := shape_lt hsh ho hdj
            rw [Array.getElem?_setIfInBounds_self_of_lt (by rw [inv.tsize]; exact this)]
          · rw [hdj] at hF; exact hF
        · have hlj' : listed.getD j false = true := by rw [getD_set_ne false (Ne.symm hji)] at hlj; exact hlj
          have hjl : j < ops.size := (Array.getElem?_eq_some_iff.1 hj).1
          rcases inv.facts j oj d' hj hdj hlj' with ⟨hx, hy⟩ | ⟨u, hu, hFu⟩
          · exact .inl ⟨hx, fun r x hr hrd => hmore r (hy r x hr hrd)⟩
          · have hp := List.all_eq_true.1 (List.all_eq_true.1 hok j (List.mem_range.2 hjl)) i (List.mem_range.2 hlt)
            simp only [hj, ho, hdj, Bool.or_eq_true] at hp
            cases hk : ok d' o.dst with
            | true =>
              refine .inr ⟨u, ?_, hstab d' o.dst u w w' hk inv.world hFu hB⟩
              cases hd : o.dst with
              | none => exact hu
              | some d =>
                have hne := shape_one hsh hj hdj ho (Ne.symm hji)
                rw [put_tmps, Array.getElem?_setIfInBounds_ne (fun e => hne (by rw [hd, e]))]
                exact hu
            | false =>
              rw [hk] at hp
              rcases hp with (hp | hp) | hp
              · cases hp
              · have := ancs_listed inv.down ops.size [j] (by simpa using hlj') i (by simpa using hp)
                rw [hnot] at this; cases this
              · refine .inl ⟨⟨_, hk⟩, fun r x hr hrx => ?_⟩
                have hrl : r < ops.size := (Array.getElem?_eq_some_iff.1 hr).1
                have h2 := List.all_eq_true.1 hp r (List.mem_range.2 hrl)
                simp only [hr, Bool.or_eq_true] at h2
                rcases h2 with h2 | h2
                · simp [hrx] at h2
                · exact ancs_listed hdown ops.size [i] (by simpa using hself) r (by simpa using h2)
    have hs := oweE_at (ops.toList.take n) howe o hmemT a w inv.world (hholds _ fun _ h => h) _ next
    unfold wpOp
    simp only [ho]
    split
    · rename_i hw; rw [if_pos hw] at hs; exact .inl hs
    · rename_i hw; rw [if_neg hw] at hs; exact hs

/-- A region that draws, whose operations from n on come last, in their order. -/
theorem wp_region_slotsT {id : Nat} {a0 : Act} {w : World} (n : Nat) (hn : n ≤ ops.size) (htl : regTail ops n = true) (hsq : Region.seqB .any ops (ops.size - n) n (headDone ops n) = true) (ok : Nat → Option Nat → Bool) (S : World → Prop) (G : Nat → Value → World → Prop) (E : Option Nat → World → World → Prop) (hm : P.follows .mixedOrders = true) (hsh : regShape ops a0.tmps.size = true)
    (hrd : regReads ops = true) (hok : regPairs ops ok = true)
    (hstab : ∀ t d v w w', ok t d = true → S w → G t v w → E d w w' → G t v w') (hS : S w.drew) (ro : List Nat) (hro : regRo ops ro = true) (hin : ∀ w, S w → Holds G a0 w ro)
    (howe : OweAllE P ops Q S G E (ops.toList.take n))
    (hend : ∀ (a : Act) (w : World), S w → a.tmps.size = a0.tmps.size → a.defers = a0.defers → (∀ t, (∀ (j : Nat) (oj : Oper), ops[j]? = some oj → oj.dst ≠ some t) → a.tmps[t]? = a0.tmps[t]?) →
      (∀ (i : Nat) (o : Oper) (d : Nat), i < n → ops[i]? = some o → o.dst = some d → (∀ d', ok d d' = true) → ∃ v, a.tmps[d]? = some v ∧ G d v w) → wpList P ops Q (ops.toList.drop n) a w) :
    (Code.region id ops true).wp P Q a0 w := by
  refine wp_region_any hm (wpAny_factsT n hn htl hsq hsh hrd hok hstab ro hro hin howe hend ops.size _ a0 _ ⟨by simp, rfl, rfl, hS, fun _ _ => rfl, ?_, ?_⟩ ?_ ?_)
  · intro i o ho hl
    have hlt : i < ops.size := (Array.getElem?_eq_some_iff.1 ho).1
    simp [hlt] at hl
  · intro i o d ho _ hl
    have hlt : i < ops.size := (Array.getElem?_eq_some_iff.1 ho).1
    simp [hlt] at hl
  · intro t _
    exact getD_replicate_false _ _
  · simp only [left, Array.toList_replicate]
    rw [List.countP_replicate]
    simp
end

end Go.Proofs.Ytahhiajliomcfaa

/- The law by slots and a tail once more, where what is known of memory may speak of the frame (two new blocks are apart); and the frame behind such a region, written out. Nothing of the program. -/
namespace Go.Proofs.Ytahhiajliomcfaa
open Go.RowKit

section
variable {P : Program} {ops : Array Oper} {Q : Exit → Act → World → Prop}

def OwesA (P : Program) (ops : Array Oper) (Q : Exit → Act → World → Prop) (S : Act → World → Prop) (G : Nat → Value → World → Prop) (E : Option Nat → World → World → Prop) (o : Oper) : Prop :=
  ∀ (a : Act) (w : World), S a w → Holds G a w (o.looksAt ops) →
    ∀ K : Act → World → Prop, (∀ v w', AtDst G v w' o.dst → S (a.put o.dst v) w' → E o.dst w w' → K (a.put o.dst v) w') →
      if Region.wanted o (yielded ops a.tmps) = true then o.wp P a w K Q else K (a.put o.dst undef) w
def OweAllA (P : Program) (ops : Array Oper) (Q : Exit → Act → World → Prop) (S : Act → World → Prop) (G : Nat → Value → World → Prop) (E : Option Nat → World → World → Prop) : List Oper → Prop
  | [] => True
  | o :: os => OwesA P ops Q S G E o ∧ OweAllA P ops Q S G E os
theorem oweA_at {S : Act → World → Prop} {G : Nat → Value → World → Prop} {E : Option Nat → World → World → Prop} : ∀ (l : List Oper), OweAllA P ops Q S G E l → ∀ o ∈ l, OwesA P ops Q S G E o
  | [], _, o, h => by cases h
  | x :: r, h, o, ho => by
    rcases List.mem_cons.1 ho with rfl | ho
    · exact h.1
    · exact oweA_at r h.2 o ho

structure RegInvA (ops : Array Oper) (ok : Nat → Option Nat → Bool) (a0 : Act) (S : Act → World → Prop) (G : Nat → Value → World → Prop) (listed : Array Bool) (a : Act) (w : World) : Prop where
  lsize : listed.size = ops.size
  tsize : a.tmps.size = a0.tmps.size
  defers : a.defers = a0.defers
  world : S a w
  known : ∀ t, (∀ (i : Nat) (o : Oper), ops[i]? = some o → o.dst ≠ some t) → a.tmps[t]? = a0.tmps[t]?
  down : Down ops listed
  facts : ∀ (i : Nat) (o : Oper) (d : Nat), ops[i]? = some o → o.dst = some d → listed.getD i false = true →
    ((∃ d', ok d d' = false) ∧ ∀ (r : Nat) (x : Oper), ops[r]? = some x → d ∈ x.looksAt ops → listed.getD r false = true) ∨ ∃ v, a.tmps[d]? = some v ∧ G d v w

theorem wpAny_factsA (n : Nat) (hn : n ≤ ops.size) (htl : regTail ops n = true) (hsq : Region.seqB .any ops (ops.size - n) n (headDone ops n) = true) {ok : Nat → Option Nat → Bool} {G : Nat → Value → World → Prop} {E : Option Nat → World → World → Prop} {a0 : Act} {S : Act → World → Prop} (hsh : regShape ops a0.tmps.size = true)
    (hrd : regReads ops = true) (hok : regPairs ops ok = true)
    (hstab : ∀ t d v w w', ok t d = true → G t v w → E d w w' → G t v w') (ro : List Nat) (hro : regRo ops ro = true) (hin : ∀ a w, S a w → Holds G a0 w ro)
    (howe : OweAllA P ops Q S G E (ops.toList.take n))
    (hend : ∀ (a : Act) (w : World), S a w → a.tmps.size = a0.tmps.size → a.defers = a0.defers → (∀ t, (∀ (j : Nat) (oj : Oper), ops[j]? = some oj → oj.dst ≠ some t) → a.tmps[t]? = a0.tmps[t]?) →
      (∀ (i : Nat) (o : Oper) (d : Nat), i < n → ops[i]? = some o → o.dst = some d → (∀ d', ok d d' = true) → ∃ v, a.tmps[d]? = some v ∧ G d v w) → wpList P ops Q (ops.toList.drop n) a w) :
    ∀ (fuel : Nat) (listed : Array Bool) (a : Act) (w : World), RegInvA ops ok a0 S G listed a w → (∀ t, n ≤ t → listed.getD t false = false) → left listed.toList = fuel → wpAny P .any ops Q fuel listed a w := by
  have hall : ∀ (listed : Array Bool), listed.size = ops.size → Region.ready .any ops listed = [] → ∀ i, i < ops.size → listed.getD i false = true := by
    intro listed hls hr i
    induction i using Nat.strongRecOn with
    | ind i ih =>
      intro hi
      cases hg : listed.getD i false with
      | true => rfl
      | false =>
        exfalso
        have ho : ops[i]? = some ops[i] := Array.getElem?_eq_getElem hi
        have hm : i ∈ Region.ready .any ops listed := by
          rw [mem_ready]
          refine ⟨?_, ops[i], ho, fun e he _ => ?_⟩
          · simp [hls, hi] at hg ⊢; exact hg
          · have := shape_back hsh ho he
            exact ih e.on this (by omega)
        rw [hr] at hm
        cases hm
  have fin : ∀ (fuel : Nat) (listed : Array Bool) (a : Act) (w : World), RegInvA ops ok a0 S G listed a w → (∀ t, n ≤ t → listed.getD t false = false) → left listed.toList = fuel → (∀ i, i < n → listed.getD i false = true) → wpAny P .any ops Q fuel listed a w := by
    intro fuel listed a w inv ht hf hh
    have hL : listed = headDone ops n := by
      apply Array.ext_getElem?
      intro i
      rcases Nat.lt_or_ge i ops.size with hi | hi
      · have hil : i < listed.size := by rw [inv.lsize]; exact hi
        rw [headDone_at hi]
        rcases Nat.lt_or_ge i n with hin | hin
        · have := hh i hin
          rw [Array.getElem?_eq_getElem hil, decide_eq_true hin]
          simpa [hil] using this
        · have := ht i hin
          rw [Array.getElem?_eq_getElem hil, decide_eq_false (by omega)]
          simpa [hil] using this
      · rw [Array.getElem?_eq_none (by rw [inv.lsize]; exact hi), Array.getElem?_eq_none (by rw [headDone_size]; exact hi)]
    have hlen : (ops.toList.drop n).length = ops.size - n := by simp
    have hfuel : fuel = (ops.toList.drop n).length := by
      rw [← hf, hL, hlen]
      exact headDone_left hn
    have hw := hend a w inv.world inv.tsize inv.defers inv.known fun i o d hin ho hd hdd => by
      rcases inv.facts i o d ho hd (hh i hin) with ⟨⟨d', h⟩, _⟩ | h
      · rw [hdd d'] at h; cases h
      · exact h
    rw [hfuel, hL]
    exact wpAny_of_seq (ops.toList.drop n) n (headDone ops n) a w (fun j => by simp [List.getElem?_drop]) (by rw [hlen]; exact hsq) hw
  intro fuel
  induction fuel with
  | zero =>
    intro listed a w inv ht hl
    refine fin 0 listed a w inv ht hl fun i hi => ?_
    cases hg : listed.getD i false with
    | true => rfl
    | false =>
      have hil : i < listed.size := by rw [inv.lsize]; omega
      have h1 : listed.toList[i]? = some false := by simp [hil] at hg ⊢; exact hg
      have := left_set _ _ h1
      omega
  | succ fuel ih =>
    intro listed a w inv ht hl
    by_cases hh : ∀ i, i < n → listed.getD i false = true
    · exact fin (fuel + 1) listed a w inv ht hl hh
    have hex : ∃ i0, i0 < n ∧ listed.getD i0 false = false := by
      apply Classical.byContradiction
      intro hno
      apply hh
      intro i hi
      cases hg : listed.getD i false with
      | true => rfl
      | false => exact absurd ⟨i, hi, hg⟩ hno
    obtain ⟨i0, hi0, hg0⟩ := hex
    refine ⟨fun hr => ?_, fun i hi => ?_⟩
    · have := hall listed inv.lsize hr i0 (by omega)
      rw [hg0] at this; cases this
    rw [mem_ready] at hi
    obtain ⟨h0, o, ho, hdep⟩ := hi
    have hlt : i < ops.size := (Array.getElem?_eq_some_iff.1 ho).1
    have hll : i < listed.size := by rw [inv.lsize]; exact hlt
    have h1 : listed.toList[i]? = some false := by simp [hll] at h0 ⊢; exact h0
    have hnot : listed.getD i false = false := by simp [hll] at h0 ⊢; exact h0
    have hcnt := left_set _ _ h1
    have hl' : left (listed.setIfInBounds i true).toList = fuel := by rw [Array.toList_setIfInBounds]; omega
    have hmem : o ∈ ops.toList := by
      obtain ⟨h, e⟩ := Array.getElem?_eq_some_iff.1 ho
      rw [← e]; simp
    have hmore : ∀ r, listed.getD r false = true → (listed.setIfInBounds i true).getD r false = true := by
      intro r hr
      by_cases hri : r = i
      · subst hri; rw [hnot] at hr; cases hr
      · rw [getD_set_ne false (Ne.symm hri)]; exact hr
    have hself : (listed.setIfInBounds i true).getD i false = true := by simp [hll]
    have hdown : Down ops (listed.setIfInBounds i true) := by
      intro j oj hj hlj e he hb
      by_cases hji : j = i
      · subst hji
        have : oj = o := Option.some.inj (hj.symm.trans ho)
        subst this
        exact hmore _ (hdep e he hb)
      · rw [getD_set_ne false (Ne.symm hji)] at hlj
        exact hmore _ (inv.down j oj hj hlj e he hb)
    have hin0 : i < n := by
      rcases Nat.lt_or_ge i n with h | h
      · exact h
      · exfalso
        have h1 := List.all_eq_true.1 (List.all_eq_true.1 htl i (List.mem_range.2 hlt)) i0 (List.mem_range.2 hi0)
        simp only [Bool.or_eq_true, decide_eq_true_eq] at h1
        rcases h1 with h1 | h1
        · omega
        · have h2 := ancs_listed hdown ops.size [i] (by simpa using hself) i0 (by simpa using h1)
          have hne : i ≠ i0 := by omega
          rw [getD_set_ne false hne, hg0] at h2
          cases h2
    have hmemT : o ∈ ops.toList.take n := by
      rw [List.mem_take_iff_getElem]
      obtain ⟨h, e⟩ := Array.getElem?_eq_some_iff.1 ho
      exact ⟨i, by simp; omega, by simpa using e⟩
    have ht' : ∀ t, n ≤ t → (listed.setIfInBounds i true).getD t false = false := fun t h => by
      rw [getD_set_ne false (by omega)]; exact ht t h
    have hholds : ∀ ts : List Nat, (∀ t ∈ ts, t ∈ o.looksAt ops) → Holds G a w ts := by
      intro ts
      induction ts with
      | nil => intro _; trivial
      | cons t ts iht =>
        intro hts'
        refine ⟨?_, iht fun x hx => hts' x (by simp [hx])⟩
        have hto := hts' t (by simp)
        by_cases hw : ∃ (j : Nat) (oj : Oper), ops[j]? = some oj ∧ oj.dst = some t
        · obtain ⟨j, oj, hj, hdj⟩ := hw
          have hjl : j < ops.size := (Array.getElem?_eq_some_iff.1 hj).1
          have h1 := List.all_eq_true.1 (List.all_eq_true.1 (List.all_eq_true.1 hrd o hmem) t hto) j (List.mem_range.2 hjl)
          simp only [hj, hdj, bne_self_eq_false, Bool.false_or, List.any_eq_true, beq_iff_eq] at h1
          obtain ⟨e, he, hej⟩ := h1
          rw [List.mem_filter] at he
          have hlj := hdep e (by simpa using he.1) he.2
          rw [hej] at hlj
          rcases inv.facts j oj t hj hdj hlj with ⟨_, hx⟩ | hx
          · have := hx i o ho hto
            rw [hnot] at this; cases this
          · exact hx
        · have hno : ∀ (j : Nat) (oj : Oper), ops[j]? = some oj → oj.dst ≠ some t := fun j oj hj hd => hw ⟨j, oj, hj, hd⟩
          have h1 := List.all_eq_true.1 (List.all_eq_true.1 hro o hmem) t hto
          rw [Bool.or_eq_true] at h1
          rcases h1 with h1 | h1
          · obtain ⟨v, hv, hg⟩ := holds_mem ro (hin a w inv.world) t (by simpa using h1)
            exact ⟨v, (inv.known t hno).trans hv, hg⟩
          · rw [List.any_eq_true] at h1
            obtain ⟨oj, hoj, hdj⟩ := h1
            obtain ⟨j, hj⟩ := List.getElem?_of_mem hoj
            exact absurd (by simpa using hdj) (hno j oj (by simpa using hj))
    have next : ∀ v w', AtDst G v w' o.dst → S (a.put o.dst v) w' → E o.dst w w' → wpAny P .any ops Q fuel (listed.setIfInBounds i true) (a.put o.dst v) w' := by
      intro v w' hF hS hB
      refine ih _ _ _ ⟨by simp [inv.lsize], ?_, ?_, hS, ?_, hdown, ?_⟩ ht' hl'
      · cases hd : o.dst with
        | none => exact inv.tsize
        | some d => rw [put_tmps, Array.size_setIfInBounds]; exact inv.tsize
      · cases hd : o.dst with
        | none => exact inv.defers
        | some d => exact inv.defers
      · intro t ht
        have hne := ht i o ho
        cases hd : o.dst with
        | none => exact inv.known t ht
        | some d =>
          rw [put_tmps, Array.getElem?_setIfInBounds_ne (fun e => hne (by rw [hd, e]))]
          exact inv.known t ht
      · intro j oj d' hj hdj hlj
        by_cases hji : j = i
        · subst hji
          have : oj = o := Option.some.inj (hj.symm.trans ho)
          subst this
          refine .inr ⟨v, ?_, ?_⟩
          · rw [hdj, put_tmps]
            have := shape_lt hsh ho hdj
            rw [Array.getElem?_setIfInBounds_self_of_lt (by rw [inv.tsize]; exact this)]
          · rw [hdj] at hF; exact hF
        · have hlj' : listed.getD j false = true := by rw [getD_set_ne false (Ne.symm hji)] at hlj; exact hlj
          have hjl : j < ops.size := (Array.getElem?_eq_some_iff.1 hj).1
          rcases inv.facts j oj d' hj hdj hlj' with ⟨hx, hy⟩ | ⟨u, hu, hFu⟩
          · exact .inl ⟨hx, fun r x hr hrd => hmore r (hy r x hr hrd)⟩
          · have hp := List.all_eq_true.1 (List.all_eq_true.1 hok j (List.mem_range.2 hjl)) i (List.mem_range.2 hlt)
            simp only [hj, ho, hdj, Bool.or_eq_true] at hp
            cases hk : ok d' o.dst with
            | true =>
              refine .inr ⟨u, ?_, hstab d' o.dst u w w' hk hFu hB⟩
              cases hd : o.dst with
              | none => exact hu
              | some d =>
                have hne := shape_one hsh hj hdj ho (Ne.symm hji)
                rw [put_tmps, Array.getElem?_setIfInBounds_ne (fun e => hne (by rw [hd, e]))]
                exact hu
            | false =>
              rw [hk] at hp
              rcases hp with (hp | hp) | hp
              · cases hp
              · have := ancs_listed inv.down ops.size [j] (by simpa using hlj') i (by simpa using hp)
                rw [hnot] at this; cases this
              · refine .inl ⟨⟨_, hk⟩, fun r x hr hrx => ?_⟩
                have hrl : r < ops.size := (Array.getElem?_eq_some_iff.1 hr).1
                have h2 := List.all_eq_true.1 hp r (List.mem_range.2 hrl)
                simp only [hr, Bool.or_eq_true] at h2
                rcases h2 with h2 | h2
                · simp [hrx] at h2
                · exact ancs_listed hdown ops.size [i] (by simpa using hself) r (by simpa using h2)
    have hs := oweA_at (ops.toList.take n) howe o hmemT a w inv.world (hholds _ fun _ h => h) _ next
    unfold wpOp
    simp only [ho]
    split
    · rename_i hw; rw [if_pos hw] at hs; exact .inl hs
    · rename_i hw; rw [if_neg hw] at hs; exact hs

/-- A region that draws, whose operations from n on come last, in their order. -/
theorem wp_region_slotsA {id : Nat} {a0 : Act} {w : World} (n : Nat) (hn : n ≤ ops.size) (htl : regTail ops n = true) (hsq : Region.seqB .any ops (ops.size - n) n (headDone ops n) = true) (ok : Nat → Option Nat → Bool) (S : Act → World → Prop) (G : Nat → Value → World → Prop) (E : Option Nat → World → World → Prop) (hm : P.follows .mixedOrders = true) (hsh : regShape ops a0.tmps.size = true)
    (hrd : regReads ops = true) (hok : regPairs ops ok = true)
    (hstab : ∀ t d v w w', ok t d = true → G t v w → E d w w' → G t v w') (hS : S a0 w.drew) (ro : List Nat) (hro : regRo ops ro = true) (hin : ∀ a w, S a w → Holds G a0 w ro)
    (howe : OweAllA P ops Q S G E (ops.toList.take n))
    (hend : ∀ (a : Act) (w : World), S a w → a.tmps.size = a0.tmps.size → a.defers = a0.defers → (∀ t, (∀ (j : Nat) (oj : Oper), ops[j]? = some oj → oj.dst ≠ some t) → a.tmps[t]? = a0.tmps[t]?) →
      (∀ (i : Nat) (o : Oper) (d : Nat), i < n → ops[i]? = some o → o.dst = some d → (∀ d', ok d d' = true) → ∃ v, a.tmps[d]? = some v ∧ G d v w) → wpList P ops Q (ops.toList.drop n) a w) :
    (Code.region id ops true).wp P Q a0 w := by
  refine wp_region_any hm (wpAny_factsA n hn htl hsq hsh hrd hok hstab ro hro hin howe hend ops.size _ a0 _ ⟨by simp, rfl, rfl, hS, fun _ _ => rfl, ?_, ?_⟩ ?_ ?_)
  · intro i o ho hl
    have hlt : i < ops.size := (Array.getElem?_eq_some_iff.1 ho).1
    simp [hlt] at hl
  · intro i o d ho _ hl
    have hlt : i < ops.size := (Array.getElem?_eq_some_iff.1 ho).1
    simp [hlt] at hl
  · intro t _
    exact getD_replicate_false _ _
  · simp only [left, Array.toList_replicate]
    rw [List.countP_replicate]
    simp
end

/-- The slots that were written, one by one: what is left of the frame is as it was. -/
theorem tmps_sets (T' : Array Value) : ∀ (L : List (Nat × Value)) (T : Array Value), T.size = T'.size → (∀ p ∈ L, T'[p.1]? = some p.2) → (∀ t, (∀ p ∈ L, p.1 ≠ t) → T[t]? = T'[t]?) → L.foldl (fun x p => x.setIfInBounds p.1 p.2) T = T'
  | [], T, _, _, h => Array.ext_getElem? fun t => h t (by simp)
  | p :: L, T, hs, hv, h => by
    rw [List.foldl_cons]
    refine tmps_sets T' L _ (by simp [hs]) (fun q hq => hv q (by simp [hq])) fun t ht => ?_
    by_cases e : p.1 = t
    · subst e
      have h1 := hv p (by simp)
      have hlt : p.1 < T'.size := (Array.getElem?_eq_some_iff.1 h1).1
      rw [Array.getElem?_setIfInBounds_self_of_lt (by omega), h1]
    · rw [Array.getElem?_setIfInBounds_ne e]
      refine h t fun q hq => ?_
      rcases List.mem_cons.1 hq with rfl | hq
      · exact e
      · exact ht q hq
def dstIn (ops : Array Oper) (ds : List Nat) : Bool := ops.toList.all fun o => match o.dst with | none => true | some d => ds.contains d
theorem act_puts {ops : Array Oper} {a a0 : Act} (L : List (Nat × Value)) (hts : a.tmps.size = a0.tmps.size) (hd : a.defers = a0.defers)
    (hkn : ∀ t, (∀ (j : Nat) (oj : Oper), ops[j]? = some oj → oj.dst ≠ some t) → a.tmps[t]? = a0.tmps[t]?) (hall : dstIn ops (L.map (·.1)) = true) (hv : ∀ p ∈ L, a.tmps[p.1]? = some p.2) :
    a = { a0 with tmps := L.foldl (fun x p => x.setIfInBounds p.1 p.2) a0.tmps } := by
  have h := tmps_sets a.tmps L a0.tmps hts.symm hv fun t ht => by
    refine (hkn t fun j oj hj hd => ?_).symm
    have h1 := List.all_eq_true.1 hall oj (by
      obtain ⟨h, e⟩ := Array.getElem?_eq_some_iff.1 hj
      rw [← e]; simp)
    rw [hd] at h1
    simp only [List.contains_eq_mem, List.mem_map, decide_eq_true_eq] at h1
    obtain ⟨p, hp, e⟩ := h1
    exact ht p hp e
  rw [h]
  cases a; cases a0; cases hd; rfl
end Go.Proofs.Ytahhiajliomcfaa

/- An append to a slice that the call made: the slice itself reads as it did, and where the new one lies. -/
namespace Go.Proofs.Ytahhiajliomcfaa
open Go.RowKit

section
variable {P : Program} (w : World)
theorem append_both (base : Nat) (t ty e : TypeId) (i : TypeInfo) (z : Value) (size bytes : Nat) (ht : P.underlying t = some (.slice e)) (hi : P.info? e = some i) (hz : i.zero = some z)
    (hsize : i.size = size) (hby : i.bytes = bytes) (hzs : z.cells.size = size) (hsz : 0 < size)
    (v : Value) (n : Nat) (xs : List Value) (hown : w.ownsRow base e size v n xs)
    (a : Addr) (m c : Nat) (news : List Value) (hl : news.length = m * size) (hnews : ∀ j u, news[j]? = some u → w.cell? (a.add j) = some u) (h1 : ∀ u ∈ news, u.oneCell' = true)
    (h63 : n + m ≤ maxLen) (hbytes : (n + m) * bytes ≤ 140737488355328) (hbase : base ≤ w.heap.size) :
    ∃ v' w', (Builtin.append_ #[t, t] ty #[v, .slice (some a) m c]).run P w = .ok v' w' ∧ w'.ownsRow base e size v' (n + m) (xs ++ news) ∧ w'.ownsRow base e size v n xs ∧ w.grownBy w' v.ownBlock ∧ (v'.ownBlock = v.ownBlock ∨ v'.ownBlock = some w.heap.size) := by
  obtain ⟨v', w', hr, h2, h3, _, hat⟩ := run_append_own_at (P := P) w base t ty e i z size bytes ht hi hz hsize hby hzs hsz v n xs hown a m c news hl hnews h1 h63 hbytes hbase
  refine ⟨v', w', hr, h2, ?_, h3, hat⟩
  subst hsize
  subst hby
  rcases hown.2 with ⟨rfl, rfl⟩ | ⟨g, cap, cur, rfl, hbg, hg, hnc, hcm, hcs, htake⟩
  · exact ⟨hown.1, .inl ⟨rfl, rfl⟩⟩
  · by_cases hroom : n + m ≤ cap
    · have hfit : n * i.size + news.length ≤ cur.size := by rw [hl, hcs, ← Nat.add_mul]; exact Nat.mul_le_mul_right _ hroom
      have hr2 := run_append_room (P := P) w t ty e i ht hi g n cap cur hg a m c news hl hnews h1 hroom hfit
      rw [hr] at hr2
      injection hr2 with _ e2
      subst e2
      refine ⟨hown.1, .inr ⟨g, cap, _, rfl, hbg, setRow_heap w g cur _ e _ hg, hnc, hcm, ?_, ?_⟩⟩
      · simp only [List.size_toArray, List.length_append, List.length_take, List.length_drop, Array.length_toList]
        omega
      · rw [htake]
        simp only [List.append_assoc]
        rw [← hown.1]
        exact List.take_left
    · have holds : ∀ j u, xs[j]? = some u → w.cell? ((⟨g, 0, none⟩ : Addr).add j) = some u := hown.cells (g := g) rfl
      have hr2 := run_append_grow (P := P) w t ty e i z ht hi hz ⟨g, 0, none⟩ n cap xs hown.1 holds a m c news hl hnews (by omega) (by simp only [maxLen] at h63; omega) (growslice_fits (by omega) hbytes)
      rw [hr] at hr2
      injection hr2 with _ e2
      subst e2
      exact World.ownsRow.alloc (w := w.drew) hown _

theorem wp_append_both {o : Oper} {a : Act} {K : Act → World → Prop} {Q : Exit → Act → World → Prop} (s x : Operand) (t : TypeId)
    (ho : o.op = .call { callee := .builtin .append, args := #[s, x], argTypes := #[t, t] })
    (base : Nat) (e : TypeId) (i : TypeInfo) (z : Value) (size bytes : Nat) (ht : P.underlying t = some (.slice e)) (hi : P.info? e = some i) (hz : i.zero = some z)
    (hsize : i.size = size) (hby : i.bytes = bytes) (hzs : z.cells.size = size) (hsz : 0 < size)
    (v : Value) (n : Nat) (xs : List Value) (hs : a.eval s = v) (hown : w.ownsRow base e size v n xs)
    (ad : Addr) (m c : Nat) (news : List Value) (hx : a.eval x = .slice (some ad) m c) (hl : news.length = m * size) (hnews : ∀ j u, news[j]? = some u → w.cell? (ad.add j) = some u) (h1 : ∀ u ∈ news, u.oneCell' = true)
    (h63 : n + m ≤ maxLen) (hbytes : (n + m) * bytes ≤ 140737488355328) (hbase : base ≤ w.heap.size)
    (h : ∀ v' w', w'.ownsRow base e size v' (n + m) (xs ++ news) → w'.ownsRow base e size v n xs → w.grownBy w' v.ownBlock → (v'.ownBlock = v.ownBlock ∨ v'.ownBlock = some w.heap.size) → K (a.put o.dst v') w') : o.wp P a w K Q := by
  obtain ⟨v', w', hr, h2, h3, h4, h5⟩ := append_both (P := P) w base t o.type e i z size bytes ht hi hz hsize hby hzs hsz v n xs hown ad m c news hl hnews h1 h63 hbytes hbase
  unfold Oper.wp execOp
  simp only [ho, resolve, invoke, builtin, Sem.run_bind, Sem.run_pure, Result.andThen_ok, List.map_toArray, List.map_cons, List.map_nil, hs, hx, hr]
  exact h v' w' h2 h3 h4 h5

end

end Go.Proofs.Ytahhiajliomcfaa

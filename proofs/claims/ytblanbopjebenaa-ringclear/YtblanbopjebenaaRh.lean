/- The same law by slots: what each slot holds once it is written, and what an operation owes out of the slots that it reads. Nothing of the program. -/
import Derived.Test.YtblanbopjebenaaRg
namespace Go.Proofs.Ytblanbopjebenaa
open Go.RowKit

section
variable {P : Program} {ops : Array Oper} {Q : Exit → Act → World → Prop}

/-- The slots ts hold what G says. -/
def Holds (G : Nat → Value → World → Prop) (a : Act) (w : World) : List Nat → Prop
  | [] => True
  | t :: ts => (∃ v, a.tmps[t]? = some v ∧ G t v w) ∧ Holds G a w ts
def AtDst (G : Nat → Value → World → Prop) (v : Value) (w : World) : Option Nat → Prop
  | none => True
  | some d => G d v w

/-- What an operation owes. -/
def Owes (P : Program) (ops : Array Oper) (Q : Exit → Act → World → Prop) (S : World → Prop) (G : Nat → Value → World → Prop) (o : Oper) : Prop :=
  ∀ (a : Act) (w : World), S w → Holds G a w (o.looksAt ops) →
    ∀ K : Act → World → Prop, (∀ v w', AtDst G v w' o.dst → S w' → Below w.heap.size w w' → K (a.put o.dst v) w') →
      if Region.wanted o (yielded ops a.tmps) = true then o.wp P a w K Q else K (a.put o.dst undef) w
def OweAll (P : Program) (ops : Array Oper) (Q : Exit → Act → World → Prop) (S : World → Prop) (G : Nat → Value → World → Prop) : List Oper → Prop
  | [] => True
  | o :: os => Owes P ops Q S G o ∧ OweAll P ops Q S G os

/-- Each operation waits for those that write what it reads. -/
def regReads (ops : Array Oper) : Bool :=
  ops.toList.all fun o => (o.looksAt ops).all fun t => (List.range ops.size).all fun j =>
    match ops[j]? with
    | none => true
    | some oj => (oj.dst != some t) || (o.after.toList.filter fun e => Region.binds .any e).any fun e => e.on == j

/-- Whatever is read and not written here is among the slots ro. -/
def regRo (ops : Array Oper) (ro : List Nat) : Bool :=
  ops.toList.all fun o => (o.looksAt ops).all fun t => ro.contains t || ops.toList.any fun oj => oj.dst == some t
theorem holds_mem {G : Nat → Value → World → Prop} {a : Act} {w : World} : ∀ (l : List Nat), Holds G a w l → ∀ t ∈ l, ∃ v, a.tmps[t]? = some v ∧ G t v w
  | [], _, t, h => by cases h
  | x :: r, h, t, ht => by
    rcases List.mem_cons.1 ht with rfl | ht
    · exact h.1
    · exact holds_mem r h.2 t ht

theorem owe_at {S : World → Prop} {G : Nat → Value → World → Prop} : ∀ (l : List Oper), OweAll P ops Q S G l → ∀ o ∈ l, Owes P ops Q S G o
  | [], _, o, h => by cases h
  | x :: r, h, o, ho => by
    rcases List.mem_cons.1 ho with rfl | ho
    · exact h.1
    · exact owe_at r h.2 o ho

theorem deps_mem {F : Nat → Value → World → Prop} {a : Act} {w : World} : ∀ (l : List Edge), Deps ops F a w l → ∀ e ∈ l, ∀ (o : Oper) (d : Nat), ops[e.on]? = some o → o.dst = some d → ∃ v, a.tmps[d]? = some v ∧ F e.on v w
  | [], _, e, he => by cases he
  | x :: r, h, e, he => by
    rcases List.mem_cons.1 he with rfl | he
    · exact h.1
    · exact deps_mem r h.2 e he

theorem slots_any {a0 : Act} {w : World} (S : World → Prop) (G : Nat → Value → World → Prop) (hsh : regShape ops a0.tmps.size = true)
    (hrd : regReads ops = true)
    (hstab : ∀ t v w w', G t v w → Below w.heap.size w w' → G t v w') (hS : S w) (ro : List Nat) (hro : regRo ops ro = true) (hin : ∀ w, S w → Holds G a0 w ro)
    (howe : OweAll P ops Q S G ops.toList)
    (hend : ∀ (a : Act) (w : World), S w → a.tmps.size = a0.tmps.size → a.defers = a0.defers → (∀ t, (∀ (j : Nat) (oj : Oper), ops[j]? = some oj → oj.dst ≠ some t) → a.tmps[t]? = a0.tmps[t]?) →
      (∀ (i : Nat) (o : Oper) (d : Nat), ops[i]? = some o → o.dst = some d → ∃ v, a.tmps[d]? = some v ∧ G d v w) → Q .normal a w) :
    wpAny P .any ops Q ops.size (Array.replicate ops.size false) a0 w := by
  have hG : ∀ (i : Nat) (o : Oper) (d : Nat), ops[i]? = some o → o.dst = some d → ∀ v w, (∀ (o : Oper) (d : Nat), ops[i]? = some o → o.dst = some d → G d v w) ↔ G d v w := by
    intro i o d ho hd v w
    constructor
    · exact fun h => h o d ho hd
    · intro h o' d' ho' hd'
      have : o' = o := Option.some.inj (ho'.symm.trans ho)
      subst this
      have : d' = d := Option.some.inj (hd'.symm.trans hd)
      subst this
      exact h
  refine wpAny_start S (fun i v w => ∀ (o : Oper) (d : Nat), ops[i]? = some o → o.dst = some d → G d v w) hsh (fun i v w w' h hB o d ho hd => hstab d v w w' (h o d ho hd) hB) hS ?_ ?_
  · have key : ∀ (l : List Oper) (k : Nat), (∀ i o, l[i]? = some o → ops[k + i]? = some o) → RegSteps P ops Q a0 S (fun i v w => ∀ (o : Oper) (d : Nat), ops[i]? = some o → o.dst = some d → G d v w) k l := by
      intro l
      induction l with
      | nil => intro k _; trivial
      | cons o r ih =>
        intro k hk
        refine ⟨?_, ih (k + 1) fun i o' h => by rw [show k + 1 + i = k + (i + 1) from by omega]; exact hk (i + 1) o' (by simpa using h)⟩
        have ho : ops[k]? = some o := by have := hk 0 o rfl; simpa using this
        have hmem : o ∈ ops.toList := by
          obtain ⟨h, e⟩ := Array.getElem?_eq_some_iff.1 ho
          rw [← e]; simp
        intro a w hSw hts hdf hkn hdp K hK
        refine owe_at ops.toList howe o hmem a w hSw ?_ K (fun v w' hA hS' hB => hK v w' (fun o' d ho' hd => ?_) hS' hB)
        · have hl : ∀ ts : List Nat, (∀ t ∈ ts, t ∈ o.looksAt ops) → Holds G a w ts := by
            intro ts
            induction ts with
            | nil => intro _; trivial
            | cons t ts iht =>
              intro hts'
              refine ⟨?_, iht fun x hx => hts' x (by simp [hx])⟩
              have hto := hts' t (by simp)
              by_cases hw : ∃ (j : Nat) (oj : Oper), ops[j]? = some oj ∧ oj.dst = some t
              · obtain ⟨j, oj, hj, hdj⟩ := hw
                have hjl : j < ops.size := (Array.getElem?_eq_some_iff.1 hj).1
                have h1 := List.all_eq_true.1 (List.all_eq_true.1 (List.all_eq_true.1 hrd o hmem) t hto) j (List.mem_range.2 hjl)
                simp only [hj, hdj, bne_self_eq_false, Bool.false_or, List.any_eq_true, beq_iff_eq] at h1
                obtain ⟨e, he, hej⟩ := h1
                obtain ⟨v, hv, hF⟩ := deps_mem _ hdp e he oj t (by rw [hej]; exact hj) hdj
                exact ⟨v, hv, hF oj t (by rw [hej]; exact hj) hdj⟩
              · have hno : ∀ (j : Nat) (oj : Oper), ops[j]? = some oj → oj.dst ≠ some t := fun j oj hj hd => hw ⟨j, oj, hj, hd⟩
                have h1 := List.all_eq_true.1 (List.all_eq_true.1 hro o hmem) t hto
                rw [Bool.or_eq_true] at h1
                rcases h1 with h1 | h1
                · obtain ⟨v, hv, hg⟩ := holds_mem ro (hin w hSw) t (by simpa using h1)
                  exact ⟨v, (hkn t hno).trans hv, hg⟩
                · rw [List.any_eq_true] at h1
                  obtain ⟨oj, hoj, hdj⟩ := h1
                  obtain ⟨j, hj⟩ := List.getElem?_of_mem hoj
                  exact absurd (by simpa using hdj) (hno j oj (by simpa using hj))
          exact hl _ fun _ h => h
        · have : o' = o := Option.some.inj (ho'.symm.trans ho)
          subst this
          rw [hd] at hA
          exact hA
    refine key ops.toList 0 fun i o h => ?_
    rw [Nat.zero_add]
    simpa using h
  · intro a w hSw hts hdf hkn hf
    refine hend a w hSw hts hdf hkn fun i o d ho hd => ?_
    obtain ⟨v, hv, hF⟩ := hf i o d ho hd
    exact ⟨v, hv, hF o d ho hd⟩

/-- A region that draws. -/
theorem wp_region_slots {id : Nat} {a0 : Act} {w : World} (S : World → Prop) (G : Nat → Value → World → Prop) (hm : P.follows .mixedOrders = true) (hsh : regShape ops a0.tmps.size = true)
    (hrd : regReads ops = true)
    (hstab : ∀ t v w w', G t v w → Below w.heap.size w w' → G t v w') (hS : S w.drew) (ro : List Nat) (hro : regRo ops ro = true) (hin : ∀ w, S w → Holds G a0 w ro)
    (howe : OweAll P ops Q S G ops.toList)
    (hend : ∀ (a : Act) (w : World), S w → a.tmps.size = a0.tmps.size → a.defers = a0.defers → (∀ t, (∀ (j : Nat) (oj : Oper), ops[j]? = some oj → oj.dst ≠ some t) → a.tmps[t]? = a0.tmps[t]?) →
      (∀ (i : Nat) (o : Oper) (d : Nat), ops[i]? = some o → o.dst = some d → ∃ v, a.tmps[d]? = some v ∧ G d v w) → Q .normal a w) :
    (Code.region id ops true).wp P Q a0 w :=
  wp_region_any hm (slots_any S G hsh hrd hstab hS ro hro hin howe hend)
/-- A region that does not. -/
theorem wp_region_slots_text {id : Nat} {a0 : Act} {w : World} (S : World → Prop) (G : Nat → Value → World → Prop) (hsh : regShape ops a0.tmps.size = true)
    (hrd : regReads ops = true)
    (hstab : ∀ t v w w', G t v w → Below w.heap.size w w' → G t v w') (hS : S w) (ro : List Nat) (hro : regRo ops ro = true) (hin : ∀ w, S w → Holds G a0 w ro)
    (howe : OweAll P ops Q S G ops.toList)
    (hend : ∀ (a : Act) (w : World), S w → a.tmps.size = a0.tmps.size → a.defers = a0.defers → (∀ t, (∀ (j : Nat) (oj : Oper), ops[j]? = some oj → oj.dst ≠ some t) → a.tmps[t]? = a0.tmps[t]?) →
      (∀ (i : Nat) (o : Oper) (d : Nat), ops[i]? = some o → o.dst = some d → ∃ v, a.tmps[d]? = some v ∧ G d v w) → Q .normal a w) :
    (Code.region id ops false).wp P Q a0 w :=
  wp_region (by
    rw [List.range_eq_range']
    exact any_text hsh ops.size 0 _ a0 w (by simp) (by omega) (fun i hi => by simp [hi]) (slots_any S G hsh hrd hstab hS ro hro hin howe hend))

theorem spec_ok {R R' : Value → World → Prop} {v : Value} {w : World} (h : some R = some R') (t : R v w) : R' v w := by cases h; exact t
theorem no_some {α : Type} {x : α} {C : Prop} (h : (none : Option α) = some x) : C := by cases h
theorem ret_slot {fn : Func} {R : Ending → World → Prop} {a : Act} {w : World} {t : Nat} {v : Value} (hr : fn.results = #[.tmp t]) (hv : a.tmps[t]? = some v) (hd : a.defers = []) (hR : R (.returned v) w) : bodyPost P fn R .ret a w := by
  refine bodyPost_ret (v := v) ?_ hd hR
  simp [results, hr, hv]
theorem want_none {o : Oper} {y : Nat → Option Bool} (h : o.guard = none) : Region.wanted o y = true := by simp [Region.wanted, h]
theorem want_some {o oj : Oper} {a : Act} {j d : Nat} {b : Bool} (h : o.guard = some (j, b)) (hj : ops[j]? = some oj) (hd : oj.dst = some d) (hv : a.tmps[d]? = some (.bool b)) : Region.wanted o (yielded ops a.tmps) = true := by
  simp [Region.wanted, h, yielded, hj, hd, hv]
theorem unwant {o oj : Oper} {a : Act} {j d : Nat} {b b' : Bool} (h : o.guard = some (j, b)) (hj : ops[j]? = some oj) (hd : oj.dst = some d) (hv : a.tmps[d]? = some (.bool b')) (hne : b' ≠ b) : ¬ Region.wanted o (yielded ops a.tmps) = true := by
  simp [Region.wanted, h, yielded, hj, hd, hv, hne]
def noDst (ops : Array Oper) (t : Nat) : Bool := ops.toList.all fun o => o.dst != some t
theorem no_dst {t : Nat} (h : noDst ops t = true) (j : Nat) (oj : Oper) (hj : ops[j]? = some oj) : oj.dst ≠ some t := by
  have := List.all_eq_true.1 h oj (List.mem_of_getElem? (by simpa using hj))
  simpa using this
theorem eval_at {a : Act} {t : Nat} {v : Value} (h : a.tmps[t]? = some v) : a.eval (.tmp t) = v := by
  simp [Act.eval, h]
end

end Go.Proofs.Ytblanbopjebenaa

/- The law by slots once more, where some steps write: each operation says how it changes memory, some facts do not outlive some steps, and the order that the operations keep says that nobody reads them then. Nothing of the program. -/
import Derived.Test.YtblanbopjebenaaRh
namespace Go.Proofs.Ytblanbopjebenaa
open Go.RowKit

section
variable {P : Program} {ops : Array Oper} {Q : Exit → Act → World → Prop}

def OwesE (P : Program) (ops : Array Oper) (Q : Exit → Act → World → Prop) (S : World → Prop) (G : Nat → Value → World → Prop) (E : Option Nat → World → World → Prop) (o : Oper) : Prop :=
  ∀ (a : Act) (w : World), S w → Holds G a w (o.looksAt ops) →
    ∀ K : Act → World → Prop, (∀ v w', AtDst G v w' o.dst → S w' → E o.dst w w' → K (a.put o.dst v) w') →
      if Region.wanted o (yielded ops a.tmps) = true then o.wp P a w K Q else K (a.put o.dst undef) w
def OweAllE (P : Program) (ops : Array Oper) (Q : Exit → Act → World → Prop) (S : World → Prop) (G : Nat → Value → World → Prop) (E : Option Nat → World → World → Prop) : List Oper → Prop
  | [] => True
  | o :: os => OwesE P ops Q S G E o ∧ OweAllE P ops Q S G E os
theorem oweE_at {S : World → Prop} {G : Nat → Value → World → Prop} {E : Option Nat → World → World → Prop} : ∀ (l : List Oper), OweAllE P ops Q S G E l → ∀ o ∈ l, OwesE P ops Q S G E o
  | [], _, o, h => by cases h
  | x :: r, h, o, ho => by
    rcases List.mem_cons.1 ho with rfl | ho
    · exact h.1
    · exact oweE_at r h.2 o ho

/-- What those of s wait for, however far. -/
def ancs (ops : Array Oper) : Nat → List Nat → List Nat
  | 0, s => s
  | n + 1, s => ancs ops n (if s.contains n then (match ops[n]? with | none => [] | some o => (o.after.toList.filter fun e => Region.binds .any e).map (·.on)) ++ s else s)

def Down (ops : Array Oper) (listed : Array Bool) : Prop := ∀ (i : Nat) (o : Oper), ops[i]? = some o → listed.getD i false = true → ∀ e ∈ o.after, Region.binds .any e = true → listed.getD e.on false = true
theorem ancs_listed {listed : Array Bool} (hd : Down ops listed) : ∀ (n : Nat) (s : List Nat), (∀ x ∈ s, listed.getD x false = true) → ∀ x ∈ ancs ops n s, listed.getD x false = true := by
  intro n
  induction n with
  | zero => exact fun s h => h
  | succ n ih =>
    intro s h x hx
    refine ih _ ?_ x hx
    intro y hy
    split at hy
    · rename_i hc
      rw [List.mem_append] at hy
      rcases hy with hy | hy
      · cases ho : ops[n]? with
        | none => rw [ho] at hy; cases hy
        | some o =>
          rw [ho] at hy
          simp only [List.mem_map, List.mem_filter] at hy
          obtain ⟨e, ⟨he, hb⟩, rfl⟩ := hy
          exact hd n o ho (h n (by simpa using hc)) e (by simpa using he) hb
      · exact h y hy
    · exact h y hy

/-- A fact that a step may end: the step comes earlier, or whoever reads the fact does. -/
def regPairs (ops : Array Oper) (ok : Nat → Option Nat → Bool) : Bool :=
  (List.range ops.size).all fun j => (List.range ops.size).all fun i =>
    match ops[j]?, ops[i]? with
    | some oj, some oi =>
      (match oj.dst with
       | none => true
       | some d => ok d oi.dst || (ancs ops ops.size [j]).contains i || (List.range ops.size).all fun r =>
          match ops[r]? with
          | none => true
          | some x => !(x.looksAt ops).contains d || (ancs ops ops.size [i]).contains r)
    | _, _ => true

structure RegInvE (ops : Array Oper) (ok : Nat → Option Nat → Bool) (a0 : Act) (S : World → Prop) (G : Nat → Value → World → Prop) (listed : Array Bool) (a : Act) (w : World) : Prop where
  lsize : listed.size = ops.size
  tsize : a.tmps.size = a0.tmps.size
  defers : a.defers = a0.defers
  world : S w
  known : ∀ t, (∀ (i : Nat) (o : Oper), ops[i]? = some o → o.dst ≠ some t) → a.tmps[t]? = a0.tmps[t]?
  down : Down ops listed
  facts : ∀ (i : Nat) (o : Oper) (d : Nat), ops[i]? = some o → o.dst = some d → listed.getD i false = true →
    ((∃ d', ok d d' = false) ∧ ∀ (r : Nat) (x : Oper), ops[r]? = some x → d ∈ x.looksAt ops → listed.getD r false = true) ∨ ∃ v, a.tmps[d]? = some v ∧ G d v w

theorem wpAny_factsE {ok : Nat → Option Nat → Bool} {G : Nat → Value → World → Prop} {E : Option Nat → World → World → Prop} {a0 : Act} {S : World → Prop} (hsh : regShape ops a0.tmps.size = true)
    (hrd : regReads ops = true) (hok : regPairs ops ok = true)
    (hstab : ∀ t d v w w', ok t d = true → S w → G t v w → E d w w' → G t v w') (ro : List Nat) (hro : regRo ops ro = true) (hin : ∀ w, S w → Holds G a0 w ro)
    (howe : OweAllE P ops Q S G E ops.toList)
    (hend : ∀ (a : Act) (w : World), S w → a.tmps.size = a0.tmps.size → a.defers = a0.defers → (∀ t, (∀ (j : Nat) (oj : Oper), ops[j]? = some oj → oj.dst ≠ some t) → a.tmps[t]? = a0.tmps[t]?) →
      (∀ (i : Nat) (o : Oper) (d : Nat), ops[i]? = some o → o.dst = some d → (∀ d', ok d d' = true) → ∃ v, a.tmps[d]? = some v ∧ G d v w) → Q .normal a w) :
    ∀ (fuel : Nat) (listed : Array Bool) (a : Act) (w : World), RegInvE ops ok a0 S G listed a w → left listed.toList ≤ fuel → wpAny P .any ops Q fuel listed a w := by
  have hall : ∀ (listed : Array Bool), listed.size = ops.size → Region.ready .any ops listed = [] → ∀ i, i < ops.size → listed.getD i false = true := by
    intro listed hls hr i
    induction i using Nat.strongRecOn with
    | ind i ih =>
      intro hi
      cases hg : listed.getD i false with
      | true => rfl
      | false =>
        exfalso
        have ho : ops[i]? = some ops[i] := Array.getElem?_eq_getElem hi
        have hm : i ∈ Region.ready .any ops listed := by
          rw [mem_ready]
          refine ⟨?_, ops[i], ho, fun e he _ => ?_⟩
          · simp [hls, hi] at hg ⊢; exact hg
          · have := shape_back hsh ho he
            exact ih e.on this (by omega)
        rw [hr] at hm
        cases hm
  have fin : ∀ (listed : Array Bool) (a : Act) (w : World), RegInvE ops ok a0 S G listed a w → Region.ready .any ops listed = [] → Q .normal a w := by
    intro listed a w inv hr
    refine hend a w inv.world inv.tsize inv.defers inv.known fun i o d ho hd hdd => ?_
    rcases inv.facts i o d ho hd (hall listed inv.lsize hr i (Array.getElem?_eq_some_iff.1 ho).1) with ⟨⟨d', h⟩, _⟩ | h
    · rw [hdd d'] at h; cases h
    · exact h
  intro fuel
  induction fuel with
  | zero =>
    intro listed a w inv hl
    have hr : Region.ready .any ops listed = [] := by
      rw [List.eq_nil_iff_forall_not_mem]
      intro i hi
      rw [mem_ready] at hi
      obtain ⟨h0, o, ho, _⟩ := hi
      have hlt : i < ops.size := (Array.getElem?_eq_some_iff.1 ho).1
      have h1 : listed.toList[i]? = some false := by
        have : i < listed.size := by rw [inv.lsize]; exact hlt
        simp [this] at h0 ⊢; exact h0
      have := left_set _ _ h1
      omega
    exact ⟨hr, fin listed a w inv hr⟩
  | succ fuel ih =>
    intro listed a w inv hl
    refine ⟨fin listed a w inv, fun i hi => ?_⟩
    rw [mem_ready] at hi
    obtain ⟨h0, o, ho, hdep⟩ := hi
    have hlt : i < ops.size := (Array.getElem?_eq_some_iff.1 ho).1
    have hll : i < listed.size := by rw [inv.lsize]; exact hlt
    have h1 : listed.toList[i]? = some false := by simp [hll] at h0 ⊢; exact h0
    have hnot : listed.getD i false = false := by simp [hll] at h0 ⊢; exact h0
    have hcnt := left_set _ _ h1
    have hl' : left (listed.setIfInBounds i true).toList ≤ fuel := by rw [Array.toList_setIfInBounds]; omega
    have hmem : o ∈ ops.toList := by
      obtain ⟨h, e⟩ := Array.getElem?_eq_some_iff.1 ho
      rw [← e]; simp
    have hmore : ∀ r, listed.getD r false = true → (listed.setIfInBounds i true).getD r false = true := by
      intro r hr
      by_cases hri : r = i
      · subst hri; rw [hnot] at hr; cases hr
      · rw [getD_set_ne false (Ne.symm hri)]; exact hr
    have hself : (listed.setIfInBounds i true).getD i false = true := by simp [hll]
    have hdown : Down ops (listed.setIfInBounds i true) := by
      intro j oj hj hlj e he hb
      by_cases hji : j = i
      · subst hji
        have : oj = o := Option.some.inj (hj.symm.trans ho)
        subst this
        exact hmore _ (hdep e he hb)
      · rw [getD_set_ne false (Ne.symm hji)] at hlj
        exact hmore _ (inv.down j oj hj hlj e he hb)
    have hholds : ∀ ts : List Nat, (∀ t ∈ ts, t ∈ o.looksAt ops) → Holds G a w ts := by
      intro ts
      induction ts with
      | nil => intro _; trivial
      | cons t ts iht =>
        intro hts'
        refine ⟨?_, iht fun x hx => hts' x (by simp [hx])⟩
        have hto := hts' t (by simp)
        by_cases hw : ∃ (j : Nat) (oj : Oper), ops[j]? = some oj ∧ oj.dst = some t
        · obtain ⟨j, oj, hj, hdj⟩ := hw
          have hjl : j < ops.size := (Array.getElem?_eq_some_iff.1 hj).1
          have h1 := List.all_eq_true.1 (List.all_eq_true.1 (List.all_eq_true.1 hrd o hmem) t hto) j (List.mem_range.2 hjl)
          simp only [hj, hdj, bne_self_eq_false, Bool.false_or, List.any_eq_true, beq_iff_eq] at h1
          obtain ⟨e, he, hej⟩ := h1
          rw [List.mem_filter] at he
          have hlj := hdep e (by simpa using he.1) he.2
          rw [hej] at hlj
          rcases inv.facts j oj t hj hdj hlj with ⟨_, hx⟩ | hx
          · have := hx i o ho hto
            rw [hnot] at this; cases this
          · exact hx
        · have hno : ∀ (j : Nat) (oj : Oper), ops[j]? = some oj → oj.dst ≠ some t := fun j oj hj hd => hw ⟨j, oj, hj, hd⟩
          have h1 := List.all_eq_true.1 (List.all_eq_true.1 hro o hmem) t hto
          rw [Bool.or_eq_true] at h1
          rcases h1 with h1 | h1
          · obtain ⟨v, hv, hg⟩ := holds_mem ro (hin w inv.world) t (by simpa using h1)
            exact ⟨v, (inv.known t hno).trans hv, hg⟩
          · rw [List.any_eq_true] at h1
            obtain ⟨oj, hoj, hdj⟩ := h1
            obtain ⟨j, hj⟩ := List.getElem?_of_mem hoj
            exact absurd (by simpa using hdj) (hno j oj (by simpa using hj))
    have next : ∀ v w', AtDst G v w' o.dst → S w' → E o.dst w w' → wpAny P .any ops Q fuel (listed.setIfInBounds i true) (a.put o.dst v) w' := by
      intro v w' hF hS hB
      refine ih _ _ _ ⟨by simp [inv.lsize], ?_, ?_, hS, ?_, hdown, ?_⟩ hl'
      · cases hd : o.dst with
        | none => exact inv.tsize
        | some d => rw [put_tmps, Array.size_setIfInBounds]; exact inv.tsize
      · cases hd : o.dst with
        | none => exact inv.defers
        | some d => exact inv.defers
      · intro t ht
        have hne := ht i o ho
        cases hd : o.dst with
        | none => exact inv.known t ht
        | some d =>
          rw [put_tmps, Array.getElem?_setIfInBounds_ne (fun e => hne (by rw [hd, e]))]
          exact inv.known t ht
      · intro j oj d' hj hdj hlj
        by_cases hji : j = i
        · subst hji
          have : oj = o := Option.some.inj (hj.symm.trans ho)
          subst this
          refine .inr ⟨v, ?_, ?_⟩
          · rw [hdj, put_tmps]
            have := shape_lt hsh ho hdj
            rw [Array.getElem?_setIfInBounds_self_of_lt (by rw [inv.tsize]; exact this)]
          · rw [hdj] at hF; exact hF
        · have hlj' : listed.getD j false = true := by rw [getD_set_ne false (Ne.symm hji)] at hlj; exact hlj
          have hjl : j < ops.size := (Array.getElem?_eq_some_iff.1 hj).1
          rcases inv.facts j oj d' hj hdj hlj' with ⟨hx, hy⟩ | ⟨u, hu, hFu⟩
          · exact .inl ⟨hx, fun r x hr hrd => hmore r (hy r x hr hrd)⟩
          · have hp := List.all_eq_true.1 (List.all_eq_true.1 hok j (List.mem_range.2 hjl)) i (List.mem_range.2 hlt)
            simp only [hj, ho, hdj, Bool.or_eq_true] at hp
            cases hk : ok d' o.dst with
            | true =>
              refine .inr ⟨u, ?_, hstab d' o.dst u w w' hk inv.world hFu hB⟩
              cases hd : o.dst with
              | none => exact hu
              | some d =>
                have hne := shape_one hsh hj hdj ho (Ne.symm hji)
                rw [put_tmps, Array.getElem?_setIfInBounds_ne (fun e => hne (by rw [hd, e]))]
                exact hu
            | false =>
              rw [hk] at hp
              rcases hp with (hp | hp) | hp
              · cases hp
              · have := ancs_listed inv.down ops.size [j] (by simpa using hlj') i (by simpa using hp)
                rw [hnot] at this; cases this
              · refine .inl ⟨⟨_, hk⟩, fun r x hr hrx => ?_⟩
                have hrl : r < ops.size := (Array.getElem?_eq_some_iff.1 hr).1
                have h2 := List.all_eq_true.1 hp r (List.mem_range.2 hrl)
                simp only [hr, Bool.or_eq_true] at h2
                rcases h2 with h2 | h2
                · simp [hrx] at h2
                · exact ancs_listed hdown ops.size [i] (by simpa using hself) r (by simpa using h2)
    have hs := oweE_at ops.toList howe o hmem a w inv.world (hholds _ fun _ h => h) _ next
    unfold wpOp
    simp only [ho]
    split
    · rename_i hw; rw [if_pos hw] at hs; exact .inl hs
    · rename_i hw; rw [if_neg hw] at hs; exact hs

/-- A region that draws. -/
theorem wp_region_slotsE {id : Nat} {a0 : Act} {w : World} (ok : Nat → Option Nat → Bool) (S : World → Prop) (G : Nat → Value → World → Prop) (E : Option Nat → World → World → Prop) (hm : P.follows .mixedOrders = true) (hsh : regShape ops a0.tmps.size = true)
    (hrd : regReads ops = true) (hok : regPairs ops ok = true)
    (hstab : ∀ t d v w w', ok t d = true → S w → G t v w → E d w w' → G t v w') (hS : S w.drew) (ro : List Nat) (hro : regRo ops ro = true) (hin : ∀ w, S w → Holds G a0 w ro)
    (howe : OweAllE P ops Q S G E ops.toList)
    (hend : ∀ (a : Act) (w : World), S w → a.tmps.size = a0.tmps.size → a.defers = a0.defers → (∀ t, (∀ (j : Nat) (oj : Oper), ops[j]? = some oj → oj.dst ≠ some t) → a.tmps[t]? = a0.tmps[t]?) →
      (∀ (i : Nat) (o : Oper) (d : Nat), ops[i]? = some o → o.dst = some d → (∀ d', ok d d' = true) → ∃ v, a.tmps[d]? = some v ∧ G d v w) → Q .normal a w) :
    (Code.region id ops true).wp P Q a0 w := by
  refine wp_region_any hm (wpAny_factsE hsh hrd hok hstab ro hro hin howe hend ops.size _ a0 _ ⟨by simp, rfl, rfl, hS, fun _ _ => rfl, ?_, ?_⟩ ?_)
  · intro i o ho hl
    have hlt : i < ops.size := (Array.getElem?_eq_some_iff.1 ho).1
    simp [hlt] at hl
  · intro i o d ho _ hl
    have hlt : i < ops.size := (Array.getElem?_eq_some_iff.1 ho).1
    simp [hlt] at hl
  · simp only [left, Array.toList_replicate]
    exact Nat.le_trans List.countP_le_length (by simp)
end

end Go.Proofs.Ytblanbopjebenaa

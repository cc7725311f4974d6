/- The law by slots with a tail and facts on memory that speak of the frame, once more: only the edges that bind in any order must go back ('a, b := f(), x': the load of x may come late); and it is known whether the operation m was done (it was not, while one that it waits for is still to come). Nothing of the program. -/
import Derived.Test.YtahhiajliomcfaaPRr
namespace Go.Proofs.Ytahhiajliomcfaa
open Go.RowKit

section
variable {P : Program} {ops : Array Oper} {Q : Exit → Act → World → Prop}

/-- The region's own shape: no two operations write one slot, each slot is there, each waits for earlier ones. -/
def regShapeB (ops : Array Oper) (n : Nat) : Bool :=
  (List.range ops.size).all fun i =>
    match ops[i]? with
    | none => true
    | some o =>
      (match o.dst with
       | none => true
       | some d => decide (d < n) && (List.range ops.size).all fun j => decide (j = i) || (match ops[j]? with | none => true | some oj => oj.dst != some d)) &&
      o.after.toList.all fun e => (!Region.binds .any e) || decide (e.on < i)

theorem shape_ltB {n : Nat} (h : regShapeB ops n = true) {i : Nat} {o : Oper} {d : Nat} (ho : ops[i]? = some o) (hd : o.dst = some d) : d < n := by
  have hi : i < ops.size := (Array.getElem?_eq_some_iff.1 ho).1
  have := List.all_eq_true.1 h i (List.mem_range.2 hi)
  simp only [ho, hd, Bool.and_eq_true, decide_eq_true_eq] at this
  exact this.1.1
theorem shape_oneB {n : Nat} (h : regShapeB ops n = true) {i j : Nat} {o oj : Oper} {d : Nat} (ho : ops[i]? = some o) (hd : o.dst = some d) (hj : ops[j]? = some oj) (hne : j ≠ i) : oj.dst ≠ some d := by
  have hi : i < ops.size := (Array.getElem?_eq_some_iff.1 ho).1
  have hjl : j < ops.size := (Array.getElem?_eq_some_iff.1 hj).1
  have := List.all_eq_true.1 h i (List.mem_range.2 hi)
  simp only [ho, hd, Bool.and_eq_true, decide_eq_true_eq] at this
  have h2 := List.all_eq_true.1 this.1.2 j (List.mem_range.2 hjl)
  simp only [hj, Bool.or_eq_true, decide_eq_true_eq, bne_iff_ne] at h2
  rcases h2 with h2 | h2
  · exact absurd h2 hne
  · exact h2
theorem shape_backB {n : Nat} (h : regShapeB ops n = true) {i : Nat} {o : Oper} (ho : ops[i]? = some o) {e : Edge} (he : e ∈ o.after) (hb : Region.binds .any e = true) : e.on < i := by
  have hi : i < ops.size := (Array.getElem?_eq_some_iff.1 ho).1
  have := List.all_eq_true.1 h i (List.mem_range.2 hi)
  simp only [ho, Bool.and_eq_true] at this
  have h2 := List.all_eq_true.1 this.2 e (by simpa using he)
  simpa [hb] using h2

def OwesC (P : Program) (ops : Array Oper) (Q : Exit → Act → World → Prop) (m : Nat) (S : Bool → Act → World → Prop) (G : Nat → Value → World → Prop) (E : Option Nat → World → World → Prop) (k : Nat) (o : Oper) : Prop :=
  ∀ (fl : Bool), ((ancs ops ops.size [m]).contains k = true → fl = false) → ∀ (a : Act) (w : World), S fl a w → Holds G a w (o.looksAt ops) →
    ∀ K : Act → World → Prop, (∀ v w', AtDst G v w' o.dst → S (decide (k = m) || fl) (a.put o.dst v) w' → E o.dst w w' → K (a.put o.dst v) w') →
      if Region.wanted o (yielded ops a.tmps) = true then o.wp P a w K Q else K (a.put o.dst undef) w
def OweAllC (P : Program) (ops : Array Oper) (Q : Exit → Act → World → Prop) (m : Nat) (S : Bool → Act → World → Prop) (G : Nat → Value → World → Prop) (E : Option Nat → World → World → Prop) : Nat → List Oper → Prop
  | _, [] => True
  | k, o :: os => OwesC P ops Q m S G E k o ∧ OweAllC P ops Q m S G E (k + 1) os
theorem oweC_at {m : Nat} {S : Bool → Act → World → Prop} {G : Nat → Value → World → Prop} {E : Option Nat → World → World → Prop} : ∀ (l : List Oper) (k : Nat), OweAllC P ops Q m S G E k l → ∀ (i : Nat) (o : Oper), l[i]? = some o → OwesC P ops Q m S G E (k + i) o
  | [], _, _, i, o, ho => by simp at ho
  | x :: r, k, h, i, o, ho => by
    cases i with
    | zero =>
      simp at ho
      subst ho
      exact h.1
    | succ i =>
      have := oweC_at r (k + 1) h.2 i o (by simpa using ho)
      rw [show k + (i + 1) = k + 1 + i from by omega]
      exact this

structure RegInvC (ops : Array Oper) (ok : Nat → Option Nat → Bool) (m : Nat) (a0 : Act) (S : Bool → Act → World → Prop) (G : Nat → Value → World → Prop) (listed : Array Bool) (a : Act) (w : World) : Prop where
  lsize : listed.size = ops.size
  tsize : a.tmps.size = a0.tmps.size
  defers : a.defers = a0.defers
  world : S (listed.getD m false) a w
  known : ∀ t, (∀ (i : Nat) (o : Oper), ops[i]? = some o → o.dst ≠ some t) → a.tmps[t]? = a0.tmps[t]?
  down : Down ops listed
  facts : ∀ (i : Nat) (o : Oper) (d : Nat), ops[i]? = some o → o.dst = some d → listed.getD i false = true →
    ((∃ d', ok d d' = false) ∧ ∀ (r : Nat) (x : Oper), ops[r]? = some x → d ∈ x.looksAt ops → listed.getD r false = true) ∨ ∃ v, a.tmps[d]? = some v ∧ G d v w

theorem wpAny_factsB (n : Nat) (hn : n ≤ ops.size) (htl : regTail ops n = true) (hsq : Region.seqB .any ops (ops.size - n) n (headDone ops n) = true) {ok : Nat → Option Nat → Bool} {G : Nat → Value → World → Prop} {E : Option Nat → World → World → Prop} {a0 : Act} {m : Nat} (hmn : m < n) {S : Bool → Act → World → Prop} (hsh : regShapeB ops a0.tmps.size = true)
    (hrd : regReads ops = true) (hok : regPairs ops ok = true)
    (hstab : ∀ t d v w w', ok t d = true → G t v w → E d w w' → G t v w') (ro : List Nat) (hro : regRo ops ro = true) (hin : ∀ fl a w, S fl a w → Holds G a0 w ro)
    (howe : OweAllC P ops Q m S G E 0 (ops.toList.take n))
    (hend : ∀ (a : Act) (w : World), S true a w → a.tmps.size = a0.tmps.size → a.defers = a0.defers → (∀ t, (∀ (j : Nat) (oj : Oper), ops[j]? = some oj → oj.dst ≠ some t) → a.tmps[t]? = a0.tmps[t]?) →
      (∀ (i : Nat) (o : Oper) (d : Nat), i < n → ops[i]? = some o → o.dst = some d → (∀ d', ok d d' = true) → ∃ v, a.tmps[d]? = some v ∧ G d v w) → wpList P ops Q (ops.toList.drop n) a w) :
    ∀ (fuel : Nat) (listed : Array Bool) (a : Act) (w : World), RegInvC ops ok m a0 S G listed a w → (∀ t, n ≤ t → listed.getD t false = false) → left listed.toList = fuel → wpAny P .any ops Q fuel listed a w := by
  have hall : ∀ (listed : Array Bool), listed.size = ops.size → Region.ready .any ops listed = [] → ∀ i, i < ops.size → listed.getD i false = true := by
    intro listed hls hr i
    induction i using Nat.strongRecOn with
    | ind i ih =>
      intro hi
      cases hg : listed.getD i false with
      | true => rfl
      | false =>
        exfalso
        have ho : ops[i]? = some ops[i] := Array.getElem?_eq_getElem hi
        have hm : i ∈ Region.ready .any ops listed := by
          rw [mem_ready]
          refine ⟨?_, ops[i], ho, fun e he hb => ?_⟩
          · simp [hls, hi] at hg ⊢; exact hg
          · have := shape_backB hsh ho he hb
            exact ih e.on this (by omega)
        rw [hr] at hm
        cases hm
  have fin : ∀ (fuel : Nat) (listed : Array Bool) (a : Act) (w : World), RegInvC ops ok m a0 S G listed a w → (∀ t, n ≤ t → listed.getD t false = false) → left listed.toList = fuel → (∀ i, i < n → listed.getD i false = true) → wpAny P .any ops Q fuel listed a w := by
    intro fuel listed a w inv ht hf hh
    have hL : listed = headDone ops n := by
      apply Array.ext_getElem?
      intro i
      rcases Nat.lt_or_ge i ops.size with hi | hi
      · have hil : i < listed.size := by rw [inv.lsize]; exact hi
        rw [headDone_at hi]
        rcases Nat.lt_or_ge i n with hin | hin
        · have := hh i hin
          rw [Array.getElem?_eq_getElem hil, decide_eq_true hin]
          simpa [hil] using this
        · have := ht i hin
          rw [Array.getElem?_eq_getElem hil, decide_eq_false (by omega)]
          simpa [hil] using this
      · rw [Array.getElem?_eq_none (by rw [inv.lsize]; exact hi), Array.getElem?_eq_none (by rw [headDone_size]; exact hi)]
    have hlen : (ops.toList.drop n).length = ops.size - n := by simp
    have hfuel : fuel = (ops.toList.drop n).length := by
      rw [← hf, hL, hlen]
      exact headDone_left hn
    have hw := hend a w (by have := inv.world; rw [hh m hmn] at this; exact this) inv.tsize inv.defers inv.known fun i o d hin ho hd hdd => by
      rcases inv.facts i o d ho hd (hh i hin) with ⟨⟨d', h⟩, _⟩ | h
      · rw [hdd d'] at h; cases h
      · exact h
    rw [hfuel, hL]
    exact wpAny_of_seq (ops.toList.drop n) n (headDone ops n) a w (fun j => by simp [List.getElem?_drop]) (by rw [hlen]; exact hsq) hw
  intro fuel
  induction fuel with
  | zero =>
    intro listed a w inv ht hl
    refine fin 0 listed a w inv ht hl fun i hi => ?_
    cases hg : listed.getD i false with
    | true => rfl
    | false =>
      have hil : i < listed.size := by rw [inv.lsize]; omega
      have h1 : listed.toList[i]? = some false := by simp [hil] at hg ⊢; exact hg
      have := left_set _ _ h1
      omega
  | succ fuel ih =>
    intro listed a w inv ht hl
    by_cases hh : ∀ i, i < n → listed.getD i false = true
    · exact fin (fuel + 1) listed a w inv ht hl hh
    have hex : ∃ i0, i0 < n ∧ listed.getD i0 false = false := by
      apply Classical.byContradiction
      intro hno
      apply hh
      intro i hi
      cases hg : listed.getD i false with
      | true => rfl
      | false => exact absurd ⟨i, hi, hg⟩ hno
    obtain ⟨i0, hi0, hg0⟩ := hex
    refine ⟨fun hr => ?_, fun i hi => ?_⟩
    · have := hall listed inv.lsize hr i0 (by omega)
      rw [hg0] at this; cases this
    rw [mem_ready] at hi
    obtain ⟨h0, o, ho, hdep⟩ := hi
    have hlt : i < ops.size := (Array.getElem?_eq_some_iff.1 ho).1
    have hll : i < listed.size := by rw [inv.lsize]; exact hlt
    have h1 : listed.toList[i]? = some false := by simp [hll] at h0 ⊢; exact h0
    have hnot : listed.getD i false = false := by simp [hll] at h0 ⊢; exact h0
    have hcnt := left_set _ _ h1
    have hl' : left (listed.setIfInBounds i true).toList = fuel := by rw [Array.toList_setIfInBounds]; omega
    have hmem : o ∈ ops.toList := by
      obtain ⟨h, e⟩ := Array.getElem?_eq_some_iff.1 ho
      rw [← e]; simp
    have hmore : ∀ r, listed.getD r false = true → (listed.setIfInBounds i true).getD r false = true := by
      intro r hr
      by_cases hri : r = i
      · subst hri; rw [hnot] at hr; cases hr
      · rw [getD_set_ne false (Ne.symm hri)]; exact hr
    have hself : (listed.setIfInBounds i true).getD i false = true := by simp [hll]
    have hdown : Down ops (listed.setIfInBounds i true) := by
      intro j oj hj hlj e he hb
      by_cases hji : j = i
      · subst hji
        have : oj = o := Option.some.inj (hj.symm.trans ho)
        subst this
        exact hmore _ (hdep e he hb)
      · rw [getD_set_ne false (Ne.symm hji)] at hlj
        exact hmore _ (inv.down j oj hj hlj e he hb)
    have hin0 : i < n := by
      rcases Nat.lt_or_ge i n with h | h
      · exact h
      · exfalso
        have h1 := List.all_eq_true.1 (List.all_eq_true.1 htl i (List.mem_range.2 hlt)) i0 (List.mem_range.2 hi0)
        simp only [Bool.or_eq_true, decide_eq_true_eq] at h1
        rcases h1 with h1 | h1
        · omega
        · have h2 := ancs_listed hdown ops.size [i] (by simpa using hself) i0 (by simpa using h1)
          have hne : i ≠ i0 := by omega
          rw [getD_set_ne false hne, hg0] at h2
          cases h2
    have hmemT : (ops.toList.take n)[i]? = some o := by
      rw [List.getElem?_take_of_lt hin0]
      simpa using ho
    have ht' : ∀ t, n ≤ t → (listed.setIfInBounds i true).getD t false = false := fun t h => by
      rw [getD_set_ne false (by omega)]; exact ht t h
    have hholds : ∀ ts : List Nat, (∀ t ∈ ts, t ∈ o.looksAt ops) → Holds G a w ts := by
      intro ts
      induction ts with
      | nil => intro _; trivial
      | cons t ts iht =>
        intro hts'
        refine ⟨?_, iht fun x hx => hts' x (by simp [hx])⟩
        have hto := hts' t (by simp)
        by_cases hw : ∃ (j : Nat) (oj : Oper), ops[j]? = some oj ∧ oj.dst = some t
        · obtain ⟨j, oj, hj, hdj⟩ := hw
          have hjl : j < ops.size := (Array.getElem?_eq_some_iff.1 hj).1
          have h1 := List.all_eq_true.1 (List.all_eq_true.1 (List.all_eq_true.1 hrd o hmem) t hto) j (List.mem_range.2 hjl)
          simp only [hj, hdj, bne_self_eq_false, Bool.false_or, List.any_eq_true, beq_iff_eq] at h1
          obtain ⟨e, he, hej⟩ := h1
          rw [List.mem_filter] at he
          have hlj := hdep e (by simpa using he.1) he.2
          rw [hej] at hlj
          rcases inv.facts j oj t hj hdj hlj with ⟨_, hx⟩ | hx
          · have := hx i o ho hto
            rw [hnot] at this; cases this
          · exact hx
        · have hno : ∀ (j : Nat) (oj : Oper), ops[j]? = some oj → oj.dst ≠ some t := fun j oj hj hd => hw ⟨j, oj, hj, hd⟩
          have h1 := List.all_eq_true.1 (List.all_eq_true.1 hro o hmem) t hto
          rw [Bool.or_eq_true] at h1
          rcases h1 with h1 | h1
          · obtain ⟨v, hv, hg⟩ := holds_mem ro (hin _ a w inv.world) t (by simpa using h1)
            exact ⟨v, (inv.known t hno).trans hv, hg⟩
          · rw [List.any_eq_true] at h1
            obtain ⟨oj, hoj, hdj⟩ := h1
            obtain ⟨j, hj⟩ := List.getElem?_of_mem hoj
            exact absurd (by simpa using hdj) (hno j oj (by simpa using hj))
    have next : ∀ v w', AtDst G v w' o.dst → S (decide (i = m) || listed.getD m false) (a.put o.dst v) w' → E o.dst w w' → wpAny P .any ops Q fuel (listed.setIfInBounds i true) (a.put o.dst v) w' := by
      intro v w' hF hS hB
      have hS' : S ((listed.setIfInBounds i true).getD m false) (a.put o.dst v) w' := by
        by_cases him : i = m
        · subst him
          rw [hself]
          simpa using hS
        · rw [getD_set_ne false him]
          simpa [him] using hS
      refine ih _ _ _ ⟨by simp [inv.lsize], ?_, ?_, hS', ?_, hdown, ?_⟩ ht' hl'
      · cases hd : o.dst with
        | none => exact inv.tsize
        | some d => rw [put_tmps, Array.size_setIfInBounds]; exact inv.tsize
      · cases hd : o.dst with
        | none => exact inv.defers
        | some d => exact inv.defers
      · intro t ht
        have hne := ht i o ho
        cases hd : o.dst with
        | none => exact inv.known t ht
        | some d =>
          rw [put_tmps, Array.getElem?_setIfInBounds_ne (fun e => hne (by rw [hd, e]))]
          exact inv.known t ht
      · intro j oj d' hj hdj hlj
        by_cases hji : j = i
        · subst hji
          have : oj = o := Option.some.inj (hj.symm.trans ho)
          subst this
          refine .inr ⟨v, ?_, ?_⟩
          · rw [hdj, put_tmps]
            have := shape_ltB hsh ho hdj
            rw [Array.getElem?_setIfInBounds_self_of_lt (by rw [inv.tsize]; exact this)]
          · rw [hdj] at hF; exact hF
        · have hlj' : listed.getD j false = true := by rw [getD_set_ne false (Ne.symm hji)] at hlj; exact hlj
          have hjl : j < ops.size := (Array.getElem?_eq_some_iff.1 hj).1
          rcases inv.facts j oj d' hj hdj hlj' with ⟨hx, hy⟩ | ⟨u, hu, hFu⟩
          · exact .inl ⟨hx, fun r x hr hrd => hmore r (hy r x hr hrd)⟩
          · have hp := List.all_eq_true.1 (List.all_eq_true.1 hok j (List.mem_range.2 hjl)) i (List.mem_range.2 hlt)
            simp only [hj, ho, hdj, Bool.or_eq_true] at hp
            cases hk : ok d' o.dst with
            | true =>
              refine .inr ⟨u, ?_, hstab d' o.dst u w w' hk hFu hB⟩
              cases hd : o.dst with
              | none => exact hu
              | some d =>
                have hne := shape_oneB hsh hj hdj ho (Ne.symm hji)
                rw [put_tmps, Array.getElem?_setIfInBounds_ne (fun e => hne (by rw [hd, e]))]
                exact hu
            | false =>
              rw [hk] at hp
              rcases hp with (hp | hp) | hp
              · cases hp
              · have := ancs_listed inv.down ops.size [j] (by simpa using hlj') i (by simpa using hp)
                rw [hnot] at this; cases this
              · refine .inl ⟨⟨_, hk⟩, fun r x hr hrx => ?_⟩
                have hrl : r < ops.size := (Array.getElem?_eq_some_iff.1 hr).1
                have h2 := List.all_eq_true.1 hp r (List.mem_range.2 hrl)
                simp only [hr, Bool.or_eq_true] at h2
                rcases h2 with h2 | h2
                · simp [hrx] at h2
                · exact ancs_listed hdown ops.size [i] (by simpa using hself) r (by simpa using h2)
    have hs := oweC_at (ops.toList.take n) 0 howe i o hmemT (listed.getD m false) (fun hc => by
      cases hlm : listed.getD m false with
      | false => rfl
      | true =>
        rw [Nat.zero_add] at hc
        have := ancs_listed inv.down ops.size [m] (by simpa using hlm) i (by simpa using hc)
        rw [hnot] at this
        cases this) a w inv.world (hholds _ fun _ h => h) _ (by rw [Nat.zero_add]; exact next)
    unfold wpOp
    simp only [ho]
    split
    · rename_i hw; rw [if_pos hw] at hs; exact .inl hs
    · rename_i hw; rw [if_neg hw] at hs; exact hs

/-- A region that draws, whose operations from n on come last, in their order. -/
theorem wp_region_slotsB {id : Nat} {a0 : Act} {w : World} (n : Nat) (hn : n ≤ ops.size) (htl : regTail ops n = true) (hsq : Region.seqB .any ops (ops.size - n) n (headDone ops n) = true) (ok : Nat → Option Nat → Bool) (m : Nat) (hmn : m < n) (S : Bool → Act → World → Prop) (G : Nat → Value → World → Prop) (E : Option Nat → World → World → Prop) (hm : P.follows .mixedOrders = true) (hsh : regShapeB ops a0.tmps.size = true)
    (hrd : regReads ops = true) (hok : regPairs ops ok = true)
    (hstab : ∀ t d v w w', ok t d = true → G t v w → E d w w' → G t v w') (hS : S false a0 w.drew) (ro : List Nat) (hro : regRo ops ro = true) (hin : ∀ fl a w, S fl a w → Holds G a0 w ro)
    (howe : OweAllC P ops Q m S G E 0 (ops.toList.take n))
    (hend : ∀ (a : Act) (w : World), S true a w → a.tmps.size = a0.tmps.size → a.defers = a0.defers → (∀ t, (∀ (j : Nat) (oj : Oper), ops[j]? = some oj → oj.dst ≠ some t) → a.tmps[t]? = a0.tmps[t]?) →
      (∀ (i : Nat) (o : Oper) (d : Nat), i < n → ops[i]? = some o → o.dst = some d → (∀ d', ok d d' = true) → ∃ v, a.tmps[d]? = some v ∧ G d v w) → wpList P ops Q (ops.toList.drop n) a w) :
    (Code.region id ops true).wp P Q a0 w := by
  refine wp_region_any hm (wpAny_factsB n hn htl hsq hmn hsh hrd hok hstab ro hro hin howe hend ops.size _ a0 _ ⟨by simp, rfl, rfl, (by rw [getD_replicate_false]; exact hS), fun _ _ => rfl, ?_, ?_⟩ ?_ ?_)
  · intro i o ho hl
    have hlt : i < ops.size := (Array.getElem?_eq_some_iff.1 ho).1
    simp [hlt] at hl
  · intro i o d ho _ hl
    have hlt : i < ops.size := (Array.getElem?_eq_some_iff.1 ho).1
    simp [hlt] at hl
  · intro t _
    exact getD_replicate_false _ _
  · simp only [left, Array.toList_replicate]
    rw [List.countP_replicate]
    simp
end
end Go.Proofs.Ytahhiajliomcfaa

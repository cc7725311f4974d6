/- The law by slots and a tail once more: an operation ahead of the tail may read a slot that the tail writes. Nothing of the program. -/
import Derived.Test.YtahhiajliomcfaaPRr
import Derived.Test.YtahhiajliomcfaaPAg
import Derived.Deep.AppendLies
import Derived.Deep.LoopGhost
import Derived.Test.YtahhiajliomcfaaPSe
namespace Go.Proofs.Ytahhiajliomcfaa
open Go.RowKit

section
variable {P : Program} {ops : Array Oper} {Q : Exit → Act → World → Prop}

/-- Of the first n each waits for those of them that write what it reads. -/
def regReadsH (ops : Array Oper) (n : Nat) : Bool :=
  (ops.toList.take n).all fun o => (o.looksAt ops).all fun t => (List.range n).all fun j =>
    match ops[j]? with
    | none => true
    | some oj => (oj.dst != some t) || (o.after.toList.filter fun e => Region.binds .any e).any fun e => e.on == j
def regRoH (ops : Array Oper) (n : Nat) (ro : List Nat) : Bool :=
  (ops.toList.take n).all fun o => (o.looksAt ops).all fun t => ro.contains t || (ops.toList.take n).any fun oj => oj.dst == some t
theorem wpAny_factsH (n : Nat) (hn : n ≤ ops.size) (htl : regTail ops n = true) (hsq : Region.seqB .any ops (ops.size - n) n (headDone ops n) = true) {ok : Nat → Option Nat → Bool} {G : Nat → Value → World → Prop} {E : Option Nat → World → World → Prop} {a0 : Act} {S : World → Prop} (hsh : regShape ops a0.tmps.size = true)
    (hrd : regReadsH ops n = true) (hok : regPairs ops ok = true)
    (hstab : ∀ t d v w w', ok t d = true → S w → G t v w → E d w w' → G t v w') (ro : List Nat) (hro : regRoH ops n ro = true) (hin : ∀ w, S w → Holds G a0 w ro)
    (howe : OweAllE P ops Q S G E (ops.toList.take n))
    (hend : ∀ (a : Act) (w : World), S w → a.tmps.size = a0.tmps.size → a.defers = a0.defers → (∀ t, (∀ (j : Nat) (oj : Oper), j < n → ops[j]? = some oj → oj.dst ≠ some t) → a.tmps[t]? = a0.tmps[t]?) →
      (∀ (i : Nat) (o : Oper) (d : Nat), i < n → ops[i]? = some o → o.dst = some d → (∀ d', ok d d' = true) → ∃ v, a.tmps[d]? = some v ∧ G d v w) → wpList P ops Q (ops.toList.drop n) a w) :
    ∀ (fuel : Nat) (listed : Array Bool) (a : Act) (w : World), RegInvE ops ok a0 S G listed a w → (∀ t, (∀ (j : Nat) (oj : Oper), j < n → ops[j]? = some oj → oj.dst ≠ some t) → a.tmps[t]? = a0.tmps[t]?) → (∀ t, n ≤ t → listed.getD t false = false) → left listed.toList = fuel → wpAny P .any ops Q fuel listed a w := by
  have hall : ∀ (listed : Array Bool), listed.size = ops.size → Region.ready .any ops listed = [] → ∀ i, i < ops.size → listed.getD i false = true := by
    intro listed hls hr i
    induction i using Nat.strongRecOn with
    | ind i ih =>
      intro hi
      cases hg : listed.getD i false with
      | true => rfl
      | false =>
        exfalso
        have ho : ops[i]? = some ops[i] := Array.getElem?_eq_getElem hi
        have hm : i ∈ Region.ready .any ops listed := by
          rw [mem_ready]
          refine ⟨?_, ops[i], ho, fun e he _ => ?_⟩
          · simp [hls, hi] at hg ⊢; exact hg
          · have := shape_back hsh ho he
            exact ih e.on this (by omega)
        rw [hr] at hm
        cases hm
  have fin : ∀ (fuel : Nat) (listed : Array Bool) (a : Act) (w : World), RegInvE ops ok a0 S G listed a w → (∀ t, (∀ (j : Nat) (oj : Oper), j < n → ops[j]? = some oj → oj.dst ≠ some t) → a.tmps[t]? = a0.tmps[t]?) → (∀ t, n ≤ t → listed.getD t false = false) → left listed.toList = fuel → (∀ i, i < n → listed.getD i false = true) → wpAny P .any ops Q fuel listed a w := by
    intro fuel listed a w inv hkn ht hf hh
    have hL : listed = headDone ops n := by
      apply Array.ext_getElem?
      intro i
      rcases Nat.lt_or_ge i ops.size with hi | hi
      · have hil : i < listed.size := by rw [inv.lsize]; exact hi
        rw [headDone_at hi]
        rcases Nat.lt_or_ge i n with hin | hin
        · have := hh i hin
          rw [Array.getElem?_eq_getElem hil, decide_eq_true hin]
          simpa [hil] using this
        · have := ht i hin
          rw [Array.getElem?_eq_getElem hil, decide_eq_false (by omega)]
          simpa [hil] using this
      · rw [Array.getElem?_eq_none (by rw [inv.lsize]; exact hi), Array.getElem?_eq_none (by rw [headDone_size]; exact hi)]
    have hlen : (ops.toList.drop n).length = ops.size - n := by simp
    have hfuel : fuel = (ops.toList.drop n).length := by
      rw [← hf, hL, hlen]
      exact headDone_left hn
    have hw := hend a w inv.world inv.tsize inv.defers hkn fun i o d hin ho hd hdd => by
      rcases inv.facts i o d ho hd (hh i hin) with ⟨⟨d', h⟩, _⟩ | h
      · rw [hdd d'] at h; cases h
      · exact h
    rw [hfuel, hL]
    exact wpAny_of_seq (ops.toList.drop n) n (headDone ops n) a w (fun j => by simp [List.getElem?_drop]) (by rw [hlen]; exact hsq) hw
  intro fuel
  induction fuel with
  | zero =>
    intro listed a w inv hkn ht hl
    refine fin 0 listed a w inv hkn ht hl fun i hi => ?_
    cases hg : listed.getD i false with
    | true => rfl
    | false =>
      have hil : i < listed.size := by rw [inv.lsize]; omega
      have h1 : listed.toList[i]? = some false := by simp [hil] at hg ⊢; exact hg
      have := left_set _ _ h1
      omega
  | succ fuel ih =>
    intro listed a w inv hkn ht hl
    by_cases hh : ∀ i, i < n → listed.getD i false = true
    · exact fin (fuel + 1) listed a w inv hkn ht hl hh
    have hex : ∃ i0, i0 < n ∧ listed.getD i0 false = false := by
      apply Classical.byContradiction
      intro hno
      apply hh
      intro i hi
      cases hg : listed.getD i false with
      | true => rfl
      | false => exact absurd ⟨i, hi, hg⟩ hno
    obtain ⟨i0, hi0, hg0⟩ := hex
    refine ⟨fun hr => ?_, fun i hi => ?_⟩
    · have := hall listed inv.lsize hr i0 (by omega)
      rw [hg0] at this; cases this
    rw [mem_ready] at hi
    obtain ⟨h0, o, ho, hdep⟩ := hi
    have hlt : i < ops.size := (Array.getElem?_eq_some_iff.1 ho).1
    have hll : i < listed.size := by rw [inv.lsize]; exact hlt
    have h1 : listed.toList[i]? = some false := by simp [hll] at h0 ⊢; exact h0
    have hnot : listed.getD i false = false := by simp [hll] at h0 ⊢; exact h0
    have hcnt := left_set _ _ h1
    have hl' : left (listed.setIfInBounds i true).toList = fuel := by rw [Array.toList_setIfInBounds]; omega
    have hmem : o ∈ ops.toList := by
      obtain ⟨h, e⟩ := Array.getElem?_eq_some_iff.1 ho
      rw [← e]; simp
    have hmore : ∀ r, listed.getD r false = true → (listed.setIfInBounds i true).getD r false = true := by
      intro r hr
      by_cases hri : r = i
      · subst hri; rw [hnot] at hr; cases hr
      · rw [getD_set_ne false (Ne.symm hri)]; exact hr
    have hself : (listed.setIfInBounds i true).getD i false = true := by simp [hll]
    have hdown : Down ops (listed.setIfInBounds i true) := by
      intro j oj hj hlj e he hb
      by_cases hji : j = i
      · subst hji
        have : oj = o := Option.some.inj (hj.symm.trans ho)
        subst this
        exact hmore _ (hdep e he hb)
      · rw [getD_set_ne false (Ne.symm hji)] at hlj
        exact hmore _ (inv.down j oj hj hlj e he hb)
    have hin0 : i < n := by
      rcases Nat.lt_or_ge i n with h | h
      · exact h
      · exfalso
        have h1 := List.all_eq_true.1 (List.all_eq_true.1 htl i (List.mem_range.2 hlt)) i0 (List.mem_range.2 hi0)
        simp only [Bool.or_eq_true, decide_eq_true_eq] at h1
        rcases h1 with h1 | h1
        · omega
        · have h2 := ancs_listed hdown ops.size [i] (by simpa using hself) i0 (by simpa using h1)
          have hne : i ≠ i0 := by omega
          rw [getD_set_ne false hne, hg0] at h2
          cases h2
    have hmemT : o ∈ ops.toList.take n := by
      rw [List.mem_take_iff_getElem]
      obtain ⟨h, e⟩ := Array.getElem?_eq_some_iff.1 ho
      exact ⟨i, by simp; omega, by simpa using e⟩
    have ht' : ∀ t, n ≤ t → (listed.setIfInBounds i true).getD t false = false := fun t h => by
      rw [getD_set_ne false (by omega)]; exact ht t h
    have hholds : ∀ ts : List Nat, (∀ t ∈ ts, t ∈ o.looksAt ops) → Holds G a w ts := by
      intro ts
      induction ts with
      | nil => intro _; trivial
      | cons t ts iht =>
        intro hts'
        refine ⟨?_, iht fun x hx => hts' x (by simp [hx])⟩
        have hto := hts' t (by simp)
        by_cases hw : ∃ (j : Nat) (oj : Oper), j < n ∧ ops[j]? = some oj ∧ oj.dst = some t
        · obtain ⟨j, oj, hjn, hj, hdj⟩ := hw
          have h1 := List.all_eq_true.1 (List.all_eq_true.1 (List.all_eq_true.1 hrd o hmemT) t hto) j (List.mem_range.2 hjn)
          simp only [hj, hdj, bne_self_eq_false, Bool.false_or, List.any_eq_true, beq_iff_eq] at h1
          obtain ⟨e, he, hej⟩ := h1
          rw [List.mem_filter] at he
          have hlj := hdep e (by simpa using he.1) he.2
          rw [hej] at hlj
          rcases inv.facts j oj t hj hdj hlj with ⟨_, hx⟩ | hx
          · have := hx i o ho hto
            rw [hnot] at this; cases this
          · exact hx
        · have hno : ∀ (j : Nat) (oj : Oper), j < n → ops[j]? = some oj → oj.dst ≠ some t := fun j oj hl hj hd => hw ⟨j, oj, hl, hj, hd⟩
          have h1 := List.all_eq_true.1 (List.all_eq_true.1 hro o hmemT) t hto
          rw [Bool.or_eq_true] at h1
          rcases h1 with h1 | h1
          · obtain ⟨v, hv, hg⟩ := holds_mem ro (hin w inv.world) t (by simpa using h1)
            exact ⟨v, (hkn t hno).trans hv, hg⟩
          · rw [List.any_eq_true] at h1
            obtain ⟨oj, hoj, hdj⟩ := h1
            rw [List.mem_take_iff_getElem] at hoj
            obtain ⟨j, hj, he⟩ := hoj
            have hjs : j < ops.size := by simp at hj; omega
            exact absurd (by simpa using hdj) (hno j oj (by simp at hj; omega) (by rw [Array.getElem?_eq_getElem hjs]; exact congrArg some (by simpa using he)))
    have next : ∀ v w', AtDst G v w' o.dst → S w' → E o.dst w w' → wpAny P .any ops Q fuel (listed.setIfInBounds i true) (a.put o.dst v) w' := by
      intro v w' hF hS hB
      refine ih _ _ _ ⟨by simp [inv.lsize], ?_, ?_, hS, ?_, hdown, ?_⟩ ?_ ht' hl'
      · cases hd : o.dst with
        | none => exact inv.tsize
        | some d => rw [put_tmps, Array.size_setIfInBounds]; exact inv.tsize
      · cases hd : o.dst with
        | none => exact inv.defers
        | some d => exact inv.defers
      · intro t ht
        have hne := ht i o ho
        cases hd : o.dst with
        | none => exact inv.known t ht
        | some d =>
          rw [put_tmps, Array.getElem?_setIfInBounds_ne (fun e => hne (by rw [hd, e]))]
          exact inv.known t ht
      · intro j oj d' hj hdj hlj
        by_cases hji : j = i
        · subst hji
          have : oj = o := Option.some.inj (hj.symm.trans ho)
          subst this
          refine .inr ⟨v, ?_, ?_⟩
          · rw [hdj, put_tmps]
            have := shape_lt hsh ho hdj
            rw [Array.getElem?_setIfInBounds_self_of_lt (by rw [inv.tsize]; exact this)]
          · rw [hdj] at hF; exact hF
        · have hlj' : listed.getD j false = true := by rw [getD_set_ne false (Ne.symm hji)] at hlj; exact hlj
          have hjl : j < ops.size := (Array.getElem?_eq_some_iff.1 hj).1
          rcases inv.facts j oj d' hj hdj hlj' with ⟨hx, hy⟩ | ⟨u, hu, hFu⟩
          · exact .inl ⟨hx, fun r x hr hrd => hmore r (hy r x hr hrd)⟩
          · have hp := List.all_eq_true.1 (List.all_eq_true.1 hok j (List.mem_range.2 hjl)) i (List.mem_range.2 hlt)
            simp only [hj, ho, hdj, Bool.or_eq_true] at hp
            cases hk : ok d' o.dst with
            | true =>
              refine .inr ⟨u, ?_, hstab d' o.dst u w w' hk inv.world hFu hB⟩
              cases hd : o.dst with
              | none => exact hu
              | some d =>
                have hne := shape_one hsh hj hdj ho (Ne.symm hji)
                rw [put_tmps, Array.getElem?_setIfInBounds_ne (fun e => hne (by rw [hd, e]))]
                exact hu
            | false =>
              rw [hk] at hp
              rcases hp with (hp | hp) | hp
              · cases hp
              · have := ancs_listed inv.down ops.size [j] (by simpa using hlj') i (by simpa using hp)
                rw [hnot] at this; cases this
              · refine .inl ⟨⟨_, hk⟩, fun r x hr hrx => ?_⟩
                have hrl : r < ops.size := (Array.getElem?_eq_some_iff.1 hr).1
                have h2 := List.all_eq_true.1 hp r (List.mem_range.2 hrl)
                simp only [hr, Bool.or_eq_true] at h2
                rcases h2 with h2 | h2
                · simp [hrx] at h2
                · exact ancs_listed hdown ops.size [i] (by simpa using hself) r (by simpa using h2)
      · intro t ht
        have hne := ht i o hin0 ho
        cases hd : o.dst with
        | none => exact hkn t ht
        | some d =>
          rw [put_tmps, Array.getElem?_setIfInBounds_ne (fun e => hne (by rw [hd, e]))]
          exact hkn t ht
    have hs := oweE_at (ops.toList.take n) howe o hmemT a w inv.world (hholds _ fun _ h => h) _ next
    unfold wpOp
    simp only [ho]
    split
    · rename_i hw; rw [if_pos hw] at hs; exact .inl hs
    · rename_i hw; rw [if_neg hw] at hs; exact hs

/-- A region that draws, whose operations from n on come last, in their order. -/
theorem wp_region_slotsH {id : Nat} {a0 : Act} {w : World} (n : Nat) (hn : n ≤ ops.size) (htl : regTail ops n = true) (hsq : Region.seqB .any ops (ops.size - n) n (headDone ops n) = true) (ok : Nat → Option Nat → Bool) (S : World → Prop) (G : Nat → Value → World → Prop) (E : Option Nat → World → World → Prop) (hm : P.follows .mixedOrders = true) (hsh : regShape ops a0.tmps.size = true)
    (hrd : regReadsH ops n = true) (hok : regPairs ops ok = true)
    (hstab : ∀ t d v w w', ok t d = true → S w → G t v w → E d w w' → G t v w') (hS : S w.drew) (ro : List Nat) (hro : regRoH ops n ro = true) (hin : ∀ w, S w → Holds G a0 w ro)
    (howe : OweAllE P ops Q S G E (ops.toList.take n))
    (hend : ∀ (a : Act) (w : World), S w → a.tmps.size = a0.tmps.size → a.defers = a0.defers → (∀ t, (∀ (j : Nat) (oj : Oper), j < n → ops[j]? = some oj → oj.dst ≠ some t) → a.tmps[t]? = a0.tmps[t]?) →
      (∀ (i : Nat) (o : Oper) (d : Nat), i < n → ops[i]? = some o → o.dst = some d → (∀ d', ok d d' = true) → ∃ v, a.tmps[d]? = some v ∧ G d v w) → wpList P ops Q (ops.toList.drop n) a w) :
    (Code.region id ops true).wp P Q a0 w := by
  refine wp_region_any hm (wpAny_factsH n hn htl hsq hsh hrd hok hstab ro hro hin howe hend ops.size _ a0 _ ⟨by simp, rfl, rfl, hS, fun _ _ => rfl, ?_, ?_⟩ (fun _ _ => rfl) ?_ ?_)
  · intro i o ho hl
    have hlt : i < ops.size := (Array.getElem?_eq_some_iff.1 ho).1
    simp [hlt] at hl
  · intro i o d ho _ hl
    have hlt : i < ops.size := (Array.getElem?_eq_some_iff.1 ho).1
    simp [hlt] at hl
  · intro t _
    exact getD_replicate_false _ _
  · simp only [left, Array.toList_replicate]
    rw [List.countP_replicate]
    simp
end

/-- The frame behind such a region: only what the first n write is new. -/
def dstInH (ops : Array Oper) (n : Nat) (ds : List Nat) : Bool := (ops.toList.take n).all fun o => match o.dst with | none => true | some d => ds.contains d
theorem act_putsH {ops : Array Oper} {n : Nat} {a a0 : Act} (L : List (Nat × Value)) (hts : a.tmps.size = a0.tmps.size) (hd : a.defers = a0.defers)
    (hkn : ∀ t, (∀ (j : Nat) (oj : Oper), j < n → ops[j]? = some oj → oj.dst ≠ some t) → a.tmps[t]? = a0.tmps[t]?) (hall : dstInH ops n (L.map (·.1)) = true) (hv : ∀ p ∈ L, a.tmps[p.1]? = some p.2) :
    a = { a0 with tmps := L.foldl (fun x p => x.setIfInBounds p.1 p.2) a0.tmps } := by
  have h := tmps_sets a.tmps L a0.tmps hts.symm hv fun t ht => by
    refine (hkn t fun j oj hl hj hd => ?_).symm
    have h1 := List.all_eq_true.1 hall oj (by
      rw [List.mem_take_iff_getElem]
      obtain ⟨h, e⟩ := Array.getElem?_eq_some_iff.1 hj
      exact ⟨j, by simp; omega, by simpa using e⟩)
    rw [hd] at h1
    simp only [List.contains_eq_mem, List.mem_map, decide_eq_true_eq] at h1
    obtain ⟨p, hp, e⟩ := h1
    exact ht p hp e
  rw [h]
  cases a; cases a0; cases hd; rfl
end Go.Proofs.Ytahhiajliomcfaa

namespace Go.Proofs.Ytahhiajliomcfaa.Sy.Ap
open Go.RowKit
set_option maxRecDepth 100000
set_option linter.unusedVariables false

namespace Lv
def Eb (_ : Option Nat) (u u' : World) : Prop := Below u.heap.size u u'
theorem eby {d : Option Nat} {u u' : World} (_ : true = true) (h : Below u.heap.size u u') : Eb d u u' := h
end Lv

section
variable {B : Nat} {w : World} {b bt bo nt no : Nat} {f g : ByteArray → Option Value} {wv nv rv : Value} {wl : List WkE} {l : List NR} {rt : List Nat}
end
end Go.Proofs.Ytahhiajliomcfaa.Sy.Ap

namespace Go.Proofs.Ytahhiajliomcfaa.Sy.Ap
open Go.RowKit
set_option maxRecDepth 100000
set_option linter.unusedVariables false

/-! ### Plain lists -/
/-- Walks within each other, the innermost first. -/
def res (all : List Nat → Bool) : List (List Nd × List Df) → X → Except Nat X
  | [], x => .ok x
  | (r, D) :: st, x => match exF all D r x with | .error e => .error e | .ok x' => res all st x'
section
variable {all : List Nat → Bool} {D : List Df} {n : Nd} {r t : List Nd} {st : List (List Nd × List Df)} {x : X}
end

/-! ### In memory -/
/-- A walk: as memory has it, what is yet to come, what the names that are not being walked stand for. -/
abbrev FR := WkE × List Nd × List Df
def Small (gs : List Gd) : Prop := ∀ g ∈ gs, g.nm.size ≤ maxLen ∧ g.l.length ≤ maxLen
structure Frm (w : World) (B : Nat) (e : WkE) (ns : List Nd) : Prop where
  nds : Nds w B e.A e.rest
  gn : GN e.rest ns
  cap : e.rest.length ≤ e.c
  shp : Shp ns
  sml : Small e.rest
theorem Frm.below {w w' : World} {B : Nat} {e : WkE} {ns : List Nd} (h : Frm w B e ns) (hb : Below B w w') : Frm w' B e ns := ⟨h.nds.below hb, h.gn, h.cap, h.shp, h.sml⟩
/-- Walks within each other, the innermost first; g: the names that are being walked. -/
inductive Stk (w : World) (B : Nat) (D0 : List Df) : (ByteArray → Option Value) → List FR → Prop
  | nil : Stk w B D0 (fun _ => none) []
  | base {e : WkE} {ns : List Nd} : e.nm.size = 0 → Frm w B e ns → Stk w B D0 (fun _ => none) [(e, ns, D0)]
  | step {g : ByteArray → Option Value} {e e' : WkE} {ns ns' t : List Nd} {D' : List Df} {fs : List FR} : Stk w B D0 g ((e', ns', D') :: fs) → findD D' (bs e.nm) = some t → g e.nm = none → e.nm.size ≤ maxLen → Frm w B e ns → Stk w B D0 (fun k => if k = e.nm then some (.agg #[]) else g k) ((e, ns, remD D' (bs e.nm)) :: (e', ns', D') :: fs)
section
variable {w w' : World} {B : Nat} {D0 : List Df} {g : ByteArray → Option Value} {fs : List FR}
theorem Stk.keep (h : Stk w B D0 g fs) (hb : Below B w w') : Stk w' B D0 g fs := by
  induction h with
  | nil => exact .nil
  | base h1 h2 => exact .base h1 (h2.below hb)
  | step h1 h2 h3 h4 h5 ih => exact .step ih h2 h3 h4 (h5.below hb)
theorem Stk.len (h : Stk w B D0 g fs) : ∀ e ns D r, fs = (e, ns, D) :: r → D.length + fs.length ≤ D0.length + 1 := by
  induction h with
  | nil => intro e ns D r q; cases q
  | base h1 h2 => intro e ns D r q; cases q; exact Nat.le_refl _
  | @step g e e' ns ns' t D' fs h1 h2 h3 h4 h5 ih =>
    intro e2 ns2 D2 r2 q
    cases q
    have := ih _ _ _ _ rfl
    have := remD_lt h2
    simp only [List.length_cons] at *
    omega
/-- The innermost walk goes on. -/
theorem Stk.turn {e e2 : WkE} {ns ns2 : List Nd} {D : List Df} {r : List FR} (h : Stk w B D0 g ((e, ns, D) :: r)) (hn : e2.nm = e.nm) (hf : Frm w B e2 ns2) : Stk w B D0 g ((e2, ns2, D) :: r) := by
  obtain ⟨nm2, A2, c2, rest2⟩ := e2
  obtain ⟨nm, A, c, rest⟩ := e
  simp only at hn
  subst hn
  cases h with
  | base h1 h2 => exact .base h1 hf
  | step h1 h2 h3 h4 h5 => exact .step (e := ⟨nm2, A2, c2, rest2⟩) h1 h2 h3 h4 hf
end
/-- A cell of the last walk is written. -/
theorem own_put {w : World} {base : Nat} {e : TypeId} {sz n gw cw j : Nat} {xs : List Value} (h : w.ownsRow base e sz (.slice (some ⟨gw, 0, none⟩) n cw) n xs) (hj : j < xs.length) (v : Value) : (w.setCell ⟨gw, j, none⟩ v).ownsRow base e sz (.slice (some ⟨gw, 0, none⟩) n cw) n (xs.set j v) := by
  obtain ⟨h1, h2⟩ := h
  refine ⟨by rw [List.length_set]; exact h1, ?_⟩
  rcases h2 with ⟨h2, h3⟩ | ⟨g, cap, cur, hv, hg, hh, h3, h4, h5, h6⟩
  · cases h2
  · cases hv
    refine .inr ⟨gw, cw, cur.setIfInBounds j v, rfl, hg, ?_, h3, h4, by rw [Array.size_setIfInBounds]; exact h5, ?_⟩
    · simp [World.setCell, Array.getElem?_modify, hh]
    · rw [Array.toList_setIfInBounds, List.take_set, h6]
end Go.Proofs.Ytahhiajliomcfaa.Sy.Ap

namespace Go.Proofs.Ytahhiajliomcfaa.Sy.Ap
open Go.RowKit
set_option maxRecDepth 100000
set_option linter.unusedVariables false

/-- The map of what names stand for, by plain lists. -/
structure TrM (w : World) (B : Nat) (D0 : List Df) (f : ByteArray → Option Value) : Prop where
  none : ∀ s, f s = none → findD D0 (bs s) = none
  some : ∀ s v, f s = some v → ∃ A c gs t, v = .slice A gs.length c ∧ Nds w B A gs ∧ gs.length ≤ c ∧ GN gs t ∧ findD D0 (bs s) = some t ∧ TreeN t ∧ Small gs
theorem TrM.keep {w w' : World} {B : Nat} {D0 : List Df} {f : ByteArray → Option Value} (h : TrM w B D0 f) (hb : Below B w w') : TrM w' B D0 f :=
  ⟨h.none, fun s v hv => by
    obtain ⟨A, c, gs, t, h1, h2, h3⟩ := h.some s v hv
    exact ⟨A, c, gs, t, h1, h2.below hb, h3⟩⟩
section
variable {B : Nat} {w wr w' : World} {b bt bo nt no : Nat} {f g : ByteArray → Option Value} {D0 : List Df} {RES : Except Nat X} {k : Nat} {fs : List FR} {x : X} {wv nv rv : Value} {wl : List WkE} {l : List NR}
end
end Go.Proofs.Ytahhiajliomcfaa.Sy.Ap

namespace Go.Proofs.Ytahhiajliomcfaa.Sy.Ap
open Go.RowKit
set_option maxRecDepth 100000
set_option linter.unusedVariables false

def df0 : Df := ([], [])
/-- Defs as plain lists. -/
structure GD (ds : List DG) (D : List Df) : Prop where
  len : ds.length = D.length
  at_ : ∀ i, i < ds.length → bs (ds.getD i dg0).1 = (D.getD i df0).1 ∧ GN (ds.getD i dg0).2 (D.getD i df0).2
  trs : TreesD D
theorem tree_rg {gs : List Gd} {ns : List Nd} (h : GN gs ns) (ht : TreeN ns) : RightG gs := ⟨ns, h, ht.shp, ht.pos, ht.few, ht.frs⟩
theorem GD.apart {ds : List DG} {D : List Df} (h : GD ds D) (hr : RightDs ds) : D.Pairwise fun a b => a.1 ≠ b.1 := by
  rw [List.pairwise_iff_getElem]
  intro i j hi hj hij q
  have hi2 : i < ds.length := by rw [h.len]; exact hi
  have hj2 : j < ds.length := by rw [h.len]; exact hj
  have h1 := (h.at_ i hi2).1
  have h2 := (h.at_ j hj2).1
  have e1 : ds.getD i dg0 = ds[i] := by rw [List.getD_eq_getElem?_getD, List.getElem?_eq_getElem hi2]; rfl
  have e2 : D.getD i df0 = D[i] := by rw [List.getD_eq_getElem?_getD, List.getElem?_eq_getElem hi]; rfl
  have e3 : ds.getD j dg0 = ds[j] := by rw [List.getD_eq_getElem?_getD, List.getElem?_eq_getElem hj2]; rfl
  have e4 : D.getD j df0 = D[j] := by rw [List.getD_eq_getElem?_getD, List.getElem?_eq_getElem hj]; rfl
  rw [e1, e2] at h1
  rw [e3, e4] at h2
  exact (List.pairwise_iff_getElem.1 hr.2) i j hi2 hj2 hij (bs_inj (h1.trans (q.trans h2.symm)))
end Go.Proofs.Ytahhiajliomcfaa.Sy.Ap

/- What a plan's repetitions are; the plan of a plan. Plain lists. -/
import Derived.Test.YtaagkfiaccmepaaPJb
namespace Go.Proofs.Ytaagkfiaccmepaa.Sy.Pl
open Go.RowKit Go.Proofs.Ytaagkfiaccmepaa.Sy.Lg
set_option maxRecDepth 100000
set_option linter.unusedVariables false

/-- A repetition is a star, or counted, with a bound above most. -/
def CtN (o : List Nd) (most : Nat) (n : Nd) : Prop := n.op = 5 → n.s = noS ∧ n.name = [] ∧ ((n.lo = 0 ∧ n.hi = -1) ∨ ((o.getD (n.l.getD 0 0) nd00).op = 2 ∧ 1 ≤ n.lo ∧ n.lo ≤ n.hi ∧ (most : Int) < n.hi))
def Ct (most : Nat) (o : List Nd) : Prop := ∀ n ∈ o, CtN o most n
theorem ct_more {o : List Nd} {most : Nat} (h : Ct most o) (hl : Low o) {n : Nd} (hn : CtN (o ++ [n]) most n) : Ct most (o ++ [n]) := by
  intro m hm
  rcases List.mem_append.1 hm with q | q
  · intro h5
    obtain ⟨rs, rn, r⟩ := h m q h5
    refine ⟨rs, rn, ?_⟩
    rcases r with r | r
    · exact .inl r
    · refine .inr ?_
      obtain ⟨i, hi, rfl⟩ := List.getElem_of_mem q
      have hlow := hl i _ (List.getElem?_eq_getElem hi)
      have hne := hlow.1 h5
      have hk : (o[i].l.getD 0 0) < i := by
        cases hl2 : o[i].l with
        | nil => exact absurd hl2 hne
        | cons z y => exact hlow.2 z (by rw [hl2]; simp)
      have e : (o ++ [n]).getD (o[i].l.getD 0 0) nd00 = o.getD (o[i].l.getD 0 0) nd00 := by
        rw [List.getD_eq_getElem?_getD, List.getElem?_append_left (by omega), ← List.getD_eq_getElem?_getD]
      rw [e]
      exact r
  · rw [List.mem_singleton] at q
    subst q
    exact hn
theorem low_snoc {o : List Nd} {n : Nd} (hl : Low o) (h5 : n.op = 5 → n.l ≠ []) (hk : ∀ c ∈ n.l, c < o.length) : Low (o ++ [n]) := by
  intro i m hm
  rcases Nat.lt_or_ge i o.length with r | r
  · rw [List.getElem?_append_left r] at hm
    exact hl i m hm
  · rw [List.getElem?_append_right r] at hm
    have hi : i = o.length := by
      have := (List.getElem?_eq_some_iff.1 hm).1
      simp at this
      omega
    subst hi
    simp at hm
    subst hm
    exact ⟨h5, hk⟩
def CL (most : Nat) (o o' : List Nd) : Prop := Ct most o' ∧ Low o' ∧ o.length ≤ o'.length ∧ ∃ x, o' = o ++ x
theorem CL.refl {most : Nat} {o : List Nd} (h : Ct most o ∧ Low o) : CL most o o := ⟨h.1, h.2, Nat.le_refl _, [], by simp⟩
theorem CL.trans {most : Nat} {o o1 o2 : List Nd} (h : CL most o o1) (h2 : CL most o1 o2) : CL most o o2 := by
  obtain ⟨x, hx⟩ := h.2.2.2
  obtain ⟨y, hy⟩ := h2.2.2.2
  exact ⟨h2.1, h2.2.1, Nat.le_trans h.2.2.1 h2.2.2.1, x ++ y, by rw [hy, hx, List.append_assoc]⟩
theorem cl_put {most : Nat} {o o2 : List Nd} {n : Nd} (h : Ct most o ∧ Low o) (hp : putF n o = some o2) (h5 : n.op = 5 → n.l ≠ []) (hk : ∀ c ∈ n.l, c < o.length) (hn : CtN (o ++ [n]) most n) : CL most o o2 ∧ o.length < o2.length := by
  obtain rfl := put_some hp
  exact ⟨⟨ct_more h.1 h.2 hn, low_snoc h.2 h5 hk, by simp, [n], rfl⟩, by simp⟩
theorem cl_plain {most : Nat} {o o2 : List Nd} {n : Nd} (h : Ct most o ∧ Low o) (hp : putF n o = some o2) (h5 : n.op ≠ 5) (hk : ∀ c ∈ n.l, c < o.length) : CL most o o2 ∧ o.length < o2.length :=
  cl_put h hp (fun q => absurd q h5) hk (fun q => absurd q h5)
theorem kp_empty {most : Nat} {o o' : List Nd} (h : Ct most o ∧ Low o) (hp : putF ndEmpty o = some o') : CL most o o' ∧ o.length < o'.length :=
  cl_plain h hp (by decide) (fun c hc => by cases hc)
theorem kp_two {most : Nat} {op : Nat} (h5 : op ≠ 5) {o1 o2 o3 : List Nd} {a b : Nat} (h : Ct most o2 ∧ Low o2) (ha : a < o2.length) (hb : b < o2.length) (hp : putF ⟨op, noS, [a, b], 0, 0, []⟩ o2 = some o3) : CL most o2 o3 ∧ o2.length < o3.length :=
  cl_plain h hp h5 (fun c hc => by
    have hc : c ∈ [a, b] := hc
    simp at hc
    omega)
/-- A kid's plan. -/
structure KP (most : Nat) (P : PF) (single : Bool) : Prop where
  cl : ∀ o o', (Ct most o ∧ Low o) → P o = some o' → CL most o o' ∧ o.length < o'.length
  one : ∀ o o', single = true → P o = some o' → ∃ n, n.op = 2 ∧ o' = o ++ [n]
section
variable {most : Nat} {P : PF} {single : Bool} (hP : KP most P single)
include hP
theorem kp_star {o o' : List Nd} (h : Ct most o ∧ Low o) (hp : repeatF P 0 (-1) o = some o') : CL most o o' ∧ o.length < o'.length := by
  unfold repeatF at hp
  obtain ⟨o1, h1, h2⟩ := Option.bind_eq_some_iff.1 hp
  obtain ⟨c1, l1⟩ := hP.cl o o1 h h1
  obtain ⟨c2, l2⟩ := cl_put ⟨c1.1, c1.2.1⟩ h2 (fun _ => by show [_] ≠ []; simp) (fun c hc => by rw [show (ndRep (o1.length - 1) 0 (-1)).l = [o1.length - 1] from rfl, List.mem_singleton] at hc; omega) (fun _ => ⟨rfl, rfl, .inl ⟨rfl, rfl⟩⟩)
  exact ⟨c1.trans c2, by omega⟩
theorem kp_count (hs : single = true) {lo hi : Int} (q0 : 1 ≤ lo) (q1 : lo ≤ hi) (q2 : (most : Int) < hi) {o o' : List Nd} (h : Ct most o ∧ Low o) (hp : repeatF P lo hi o = some o') : CL most o o' ∧ o.length < o'.length := by
  unfold repeatF at hp
  obtain ⟨o1, h1, h2⟩ := Option.bind_eq_some_iff.1 hp
  obtain ⟨c1, l1⟩ := hP.cl o o1 h h1
  obtain ⟨n, hn, e⟩ := hP.one o o1 hs h1
  obtain ⟨c2, l2⟩ := cl_put ⟨c1.1, c1.2.1⟩ h2 (fun _ => by show [_] ≠ []; simp) (fun c hc => by rw [show (ndRep (o1.length - 1) lo hi).l = [o1.length - 1] from rfl, List.mem_singleton] at hc; omega) (fun _ => ⟨rfl, rfl, .inr ⟨by
    show ((o1 ++ [_]).getD (o1.length - 1) nd00).op = 2
    rw [e]
    simp [hn], q0, q1, q2⟩⟩)
  exact ⟨c1.trans c2, by omega⟩
theorem kp_rest : ∀ (n : Nat) (o o' : List Nd), Ct most o ∧ Low o → restF P n o = some o' → CL most o o' ∧ o.length < o'.length
  | 0, o, o', h, hp => by
    unfold restF at hp
    obtain ⟨o1, h1, hp⟩ := Option.bind_eq_some_iff.1 hp
    obtain ⟨o2, h2, hp⟩ := Option.bind_eq_some_iff.1 hp
    obtain ⟨c1, l1⟩ := kp_empty h h1
    obtain ⟨c2, l2⟩ := hP.cl o1 o2 ⟨c1.1, c1.2.1⟩ h2
    obtain ⟨c3, l3⟩ := kp_two (op := 4) (by decide) (o1 := o1) ⟨c2.1, c2.2.1⟩ (a := o1.length - 1) (b := o2.length - 1) (by omega) (by omega) hp
    exact ⟨(c1.trans c2).trans c3, by omega⟩
  | n + 1, o, o', h, hp => by
    unfold restF at hp
    obtain ⟨o1, h1, hp⟩ := Option.bind_eq_some_iff.1 hp
    obtain ⟨o2, h2, hp⟩ := Option.bind_eq_some_iff.1 hp
    obtain ⟨o3, h3, hp⟩ := Option.bind_eq_some_iff.1 hp
    obtain ⟨o4, h4, hp⟩ := Option.bind_eq_some_iff.1 hp
    obtain ⟨c1, l1⟩ := kp_empty h h1
    obtain ⟨c2, l2⟩ := hP.cl o1 o2 ⟨c1.1, c1.2.1⟩ h2
    obtain ⟨c3, l3⟩ := kp_rest n o2 o3 ⟨c2.1, c2.2.1⟩ h3
    obtain ⟨c4, l4⟩ := kp_two (op := 3) (by decide) (o1 := o1) ⟨c3.1, c3.2.1⟩ (a := o2.length - 1) (b := o3.length - 1) (by omega) (by omega) h4
    obtain ⟨c5, l5⟩ := kp_two (op := 4) (by decide) (o1 := o1) ⟨c4.1, c4.2.1⟩ (a := o1.length - 1) (b := o4.length - 1) (by omega) (by omega) hp
    exact ⟨(((c1.trans c2).trans c3).trans c4).trans c5, by omega⟩
theorem kp_times : ∀ (n : Nat) (o o' : List Nd) (rs rs' : List Nat), Ct most o ∧ Low o → (∀ c ∈ rs, c < o.length) → timesF P n o rs = some (o', rs') → CL most o o' ∧ (∀ c ∈ rs', c < o'.length) ∧ rs'.length = rs.length + n ∧ (0 < n → o.length < o'.length)
  | 0, o, o', rs, rs', h, hr, hp => by
    unfold timesF at hp
    obtain ⟨rfl, rfl⟩ := Prod.mk.injEq .. ▸ (Option.some.inj hp)
    exact ⟨CL.refl h, hr, rfl, fun q => absurd q (by omega)⟩
  | n + 1, o, o', rs, rs', h, hr, hp => by
    unfold timesF at hp
    cases hq : P o with
    | none => rw [hq] at hp; cases hp
    | some o1 =>
      rw [hq] at hp
      obtain ⟨c1, l1⟩ := hP.cl o o1 h hq
      obtain ⟨c2, r2, n2, _⟩ := kp_times n o1 o' (rs ++ [o1.length - 1]) rs' ⟨c1.1, c1.2.1⟩ (fun c hc => by
        rcases List.mem_append.1 hc with q | q
        · have := hr c q; omega
        · rw [List.mem_singleton] at q; omega) hp
      have := c2.2.2.1
      exact ⟨c1.trans c2, r2, by rw [n2]; simp; omega, fun _ => by omega⟩
theorem kp_row {lo hi : Int} (q0 : 0 ≤ lo) (q2 : hi = -1 ∨ (1 ≤ hi ∧ hi ≤ 4096 ∧ lo ≤ hi)) {o o' : List Nd} (h : Ct most o ∧ Low o) (hp : rowF P lo hi o = some o') : CL most o o' ∧ o.length < o'.length := by
  unfold rowF at hp
  obtain ⟨⟨o1, rs⟩, h1, hp⟩ := Option.bind_eq_some_iff.1 hp
  obtain ⟨⟨o2, rs2⟩, h2, hp⟩ := Option.bind_eq_some_iff.1 hp
  obtain ⟨c1, r1, n1, l1⟩ := kp_times hP lo.toNat o o1 [] rs h (fun c hc => by cases hc) h1
  have hcat : ∀ (c2 : CL most o1 o2) (hl : o.length < o2.length) (hr2 : ∀ c ∈ rs2, c < o2.length), CL most o o' ∧ o.length < o'.length := fun c2 hl hr2 => by
    have hp : catF rs2 o2 = some o' := hp
    unfold catF at hp
    split at hp
    · obtain rfl := Option.some.inj hp
      exact ⟨c1.trans c2, hl⟩
    · obtain ⟨c3, l3⟩ := cl_plain ⟨c2.1, c2.2.1⟩ hp (by show (3 : Nat) ≠ 5; omega) hr2
      exact ⟨(c1.trans c2).trans c3, by omega⟩
  have c1l := c1.2.2.1
  unfold tailF at h2
  have hsn : ∀ (o3 : List Nd), o1.length < o3.length → ∀ c ∈ rs ++ [o3.length - 1], c < o3.length := fun o3 hl c hc => by
    rcases List.mem_append.1 hc with q | q
    · have := r1 c q; omega
    · rw [List.mem_singleton] at q; omega
  split at h2
  · obtain ⟨o3, h3, e⟩ := Option.map_eq_some_iff.1 h2
    obtain ⟨rfl, rfl⟩ := Prod.mk.injEq .. ▸ e
    obtain ⟨c3, l3⟩ := kp_star hP ⟨c1.1, c1.2.1⟩ h3
    exact hcat c3 (by omega) (hsn _ l3)
  · split at h2
    · obtain ⟨o3, h3, e⟩ := Option.map_eq_some_iff.1 h2
      obtain ⟨rfl, rfl⟩ := Prod.mk.injEq .. ▸ e
      obtain ⟨c3, l3⟩ := kp_rest hP _ o1 o3 ⟨c1.1, c1.2.1⟩ h3
      exact hcat c3 (by omega) (hsn _ l3)
    · obtain ⟨rfl, rfl⟩ := Prod.mk.injEq .. ▸ (Option.some.inj h2)
      exact hcat (CL.refl ⟨c1.1, c1.2.1⟩) (l1 (by omega)) r1
theorem kp_rep {lo hi : Int} (q0 : 0 ≤ lo) (q2 : hi = -1 ∨ (1 ≤ hi ∧ hi ≤ 4096 ∧ lo ≤ hi)) {o o' : List Nd} (h : Ct most o ∧ Low o) (hp : repF P single most lo hi o = some o') : CL most o o' ∧ o.length < o'.length := by
  unfold repF at hp
  split at hp
  · rename_i hc
    split at hp
    · obtain ⟨o1, h1, hp⟩ := Option.bind_eq_some_iff.1 hp
      obtain ⟨o2, h2, hp⟩ := Option.bind_eq_some_iff.1 hp
      obtain ⟨c1, l1⟩ := kp_empty h h1
      obtain ⟨c2, l2⟩ := kp_count hP hc.1 (by omega) (by omega) hc.2 ⟨c1.1, c1.2.1⟩ h2
      obtain ⟨c3, l3⟩ := kp_two (op := 4) (by decide) (o1 := o1) ⟨c2.1, c2.2.1⟩ (a := o1.length - 1) (b := o2.length - 1) (by omega) (by omega) hp
      exact ⟨(c1.trans c2).trans c3, by omega⟩
    · exact kp_count hP hc.1 (by omega) (by omega) hc.2 h hp
  · split at hp
    · rename_i hc
      obtain ⟨o1, h1, hp⟩ := Option.bind_eq_some_iff.1 hp
      obtain ⟨o2, h2, hp⟩ := Option.bind_eq_some_iff.1 hp
      obtain ⟨c1, l1⟩ := kp_count hP hc.1 (by omega) (Int.le_refl _) hc.2.2 h h1
      obtain ⟨c2, l2⟩ := kp_star hP ⟨c1.1, c1.2.1⟩ h2
      obtain ⟨c3, l3⟩ := kp_two (op := 3) (by decide) (o1 := o1) ⟨c2.1, c2.2.1⟩ (a := o1.length - 1) (b := o2.length - 1) (by omega) (by omega) hp
      exact ⟨(c1.trans c2).trans c3, by omega⟩
    · exact kp_row hP q0 q2 h hp
end
theorem kp_kids {most : Nat} {P : Nat → PF} : ∀ (ks : List Nat), (∀ k ∈ ks, KP most (P k) false) → ∀ (o o' : List Nd) (rs rs' : List Nat), Ct most o ∧ Low o → (∀ c ∈ rs, c < o.length) → kidsF P ks o rs = some (o', rs') → CL most o o' ∧ (∀ c ∈ rs', c < o'.length) ∧ rs'.length = rs.length + ks.length
  | [], _, o, o', rs, rs', h, hr, hp => by
    unfold kidsF at hp
    obtain ⟨rfl, rfl⟩ := Prod.mk.injEq .. ▸ (Option.some.inj hp)
    exact ⟨CL.refl h, hr, rfl⟩
  | k :: ks, hk, o, o', rs, rs', h, hr, hp => by
    unfold kidsF at hp
    cases hq : P k o with
    | none => rw [hq] at hp; cases hp
    | some o1 =>
      rw [hq] at hp
      obtain ⟨c1, l1⟩ := (hk k (by simp)).cl o o1 h hq
      obtain ⟨c2, r2, n2⟩ := kp_kids ks (fun x hx => hk x (by simp [hx])) o1 o' (rs ++ [o1.length - 1]) rs' ⟨c1.1, c1.2.1⟩ (fun c hc => by
        rcases List.mem_append.1 hc with q | q
        · have := hr c q; omega
        · rw [List.mem_singleton] at q; omega) hp
      exact ⟨c1.trans c2, r2, by rw [n2]; simp; omega⟩
theorem kp_weak {most : Nat} {P : PF} {b : Bool} (h : KP most P b) : KP most P false := ⟨h.cl, fun _ _ q => by cases q⟩
theorem kp_pl {ns : List Nd} (ht : TreeN ns) (hp : PlainN ns) (most : Nat) : ∀ (k : Nat), k < ns.length → KP most (pl ns most k) ((ns.getD k nd00).op == 2) := by
  intro k
  induction k using Nat.strongRecOn with
  | ind k ih =>
    intro hk
    have hl := ht.low
    have hn : ns[k]? = some ns[k] := List.getElem?_eq_getElem hk
    have hmem := List.mem_of_getElem? hn
    have hpl := pl_eq hl most k hn
    have hlow := hl k _ hn
    have hsh := ht.shp _ hmem
    have e0 : ns.getD k nd00 = ns[k] := by rw [List.getD_eq_getElem?_getD, hn]; rfl
    rw [e0]
    generalize ns[k] = n at *
    refine ⟨fun o o' h hq => ?_, fun o o' h1 hq => ?_⟩
    · rw [hpl] at hq
      unfold plan1 at hq
      split at hq
      · rename_i h5
        have hm : n.l.getD 0 0 ∈ n.l := by
          cases hl2 : n.l with
          | nil => exact absurd hl2 (hlow.1 h5)
          | cons z y => simp
        have hkk := hlow.2 _ hm
        obtain ⟨s1, s2, s3⟩ := rep_bounds hsh h5
        exact kp_rep (ih _ hkk (by omega)) s1 s3 h hq
      · rename_i h5
        obtain ⟨⟨o1, rs⟩, h1, h2⟩ := Option.bind_eq_some_iff.1 hq
        obtain ⟨c1, r1, n1⟩ := kp_kids n.l (fun c hc => kp_weak (ih c (hlow.2 c hc) (by have := hlow.2 c hc; omega))) o o1 [] rs h (fun c hc => by cases hc) h1
        obtain ⟨c2, l2⟩ := cl_plain ⟨c1.1, c1.2.1⟩ h2 h5 r1
        have := c1.2.2.1
        exact ⟨c1.trans c2, by omega⟩
    · rw [beq_iff_eq] at h1
      rw [hpl] at hq
      unfold plan1 at hq
      rw [if_neg (by omega)] at hq
      have hnil : n.l = [] := by
        have hs := hsh
        unfold shapeB at hs
        rw [if_neg (by omega), if_pos h1] at hs
        simp only [Bool.and_eq_true, beq_iff_eq] at hs
        exact hs.2
      rw [hnil] at hq
      obtain ⟨⟨o1, rs⟩, h3, h2⟩ := Option.bind_eq_some_iff.1 hq
      unfold kidsF at h3
      obtain ⟨rfl, rfl⟩ := Prod.mk.injEq .. ▸ (Option.some.inj h3)
      exact ⟨withL n [], h1, put_some h2⟩
/-- A plan's repetitions are stars, or counted above most. -/
theorem plan_ct {ns : List Nd} (ht : TreeN ns) (hp : PlainN ns) {most : Nat} {o : List Nd} (h : planN ns most = some o) : Ct most o := by
  have hpos := ht.pos
  have hlow0 : Low ([] : List Nd) := fun i n hn => by simp at hn
  exact ((kp_pl ht hp most (ns.length - 1) (by omega)).cl [] o ⟨(fun n hn => by cases hn), hlow0⟩ h).1.1
end Go.Proofs.Ytaagkfiaccmepaa.Sy.Pl

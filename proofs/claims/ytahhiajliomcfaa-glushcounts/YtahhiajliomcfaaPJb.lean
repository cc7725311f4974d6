/- A plan means what its tree does. Plain lists. -/
import Derived.Test.YtahhiajliomcfaaPJk
namespace Go.Proofs.Ytahhiajliomcfaa.Sy.Pl
open Go.RowKit Go.Proofs.Ytahhiajliomcfaa.Sy.Lg
set_option maxRecDepth 100000
set_option linter.unusedVariables false

theorem Grs.congr {R R' : TR} {o o' : List Nd} {rs : List Nat} (h : Grs [R] o o' rs) (e : ∀ t i j, R t i j ↔ R' t i j) : Grs [R'] o o' rs :=
  ⟨h.ext, h.frs, h.shp, h.pln, h.low, h.few, h.len, fun hl t q hq i j => by
    have hq0 : q = 0 := by have := h.len; simp at this; omega
    subst hq0
    rw [h.mt hl t 0 hq i j]
    exact e t i j⟩
/-- A kid's plan, wherever it is put, means so. -/
def Good (P : PF) (R : TR) : Prop := ∀ o o', P o = some o' → Grs [R] o o' [o'.length - 1]
theorem powR_succ (R : Rel) (n i j : Nat) : powR R (n + 1) i j ↔ ∃ m, R i m ∧ powR R n m j := by
  rw [Nat.add_comm n 1, powR_add]
  constructor
  · rintro ⟨m, ⟨z, rfl, h⟩, h2⟩; exact ⟨m, h, h2⟩
  · rintro ⟨m, h, h2⟩; exact ⟨m, ⟨i, rfl, h⟩, h2⟩
theorem up_succ (R : Rel) (n i j : Nat) : upR R (n + 1) i j ↔ i = j ∨ ∃ m, R i m ∧ upR R n m j := by
  constructor
  · rintro ⟨s, hs, h⟩
    cases s with
    | zero => exact .inl h
    | succ s =>
      obtain ⟨m, h1, h2⟩ := (powR_succ R s i j).1 h
      exact .inr ⟨m, h1, s, by omega, h2⟩
  · rintro (h | ⟨m, h1, s, hs, h2⟩)
    · exact ⟨0, by omega, h⟩
    · exact ⟨s + 1, by omega, (powR_succ R s i j).2 ⟨m, h1, h2⟩⟩
def upT (R : TR) (n : Nat) : TR := fun t => upR (R t) n
theorem up_zero (R : Rel) (i j : Nat) : upR R 0 i j ↔ i = j := by
  constructor
  · rintro ⟨s, hs, h⟩
    obtain rfl : s = 0 := by omega
    exact h
  · intro h; exact ⟨0, Nat.le_refl _, h⟩
section
variable {P : PF} {R : TR} (hP : Good P R)
include hP
theorem good_repeat {lo hi : Int} (q0 : 0 ≤ lo) (q1 : lo ≤ 4096) (q2 : hi = -1 ∨ (1 ≤ hi ∧ hi ≤ 4096 ∧ lo ≤ hi)) : Good (repeatF P lo hi) (timR R lo hi) := by
  intro o o' h
  unfold repeatF at h
  obtain ⟨o1, h1, h2⟩ := Option.bind_eq_some_iff.1 h
  exact grs_rep (hP o o1 h1) q0 q1 q2 h2
theorem good_rest : ∀ (n : Nat), Good (restF P n) (upT R (n + 1))
  | 0 => by
    intro o o' h
    unfold restF at h
    obtain ⟨o1, h1, h⟩ := Option.bind_eq_some_iff.1 h
    obtain ⟨o2, h2, h⟩ := Option.bind_eq_some_iff.1 h
    refine (grs_alt ((grs_empty h1).join (hP o1 o2 h2)) h).congr fun t i j => ?_
    show i = j ∨ R t i j ↔ upR (R t) 1 i j
    rw [up_succ]
    constructor
    · rintro (q | q)
      · exact .inl q
      · exact .inr ⟨j, q, (up_zero _ _ _).2 rfl⟩
    · rintro (q | ⟨m, q, r⟩)
      · exact .inl q
      · rw [(up_zero _ _ _).1 r] at q; exact .inr q
  | n + 1 => by
    intro o o' h
    unfold restF at h
    obtain ⟨o1, h1, h⟩ := Option.bind_eq_some_iff.1 h
    obtain ⟨o2, h2, h⟩ := Option.bind_eq_some_iff.1 h
    obtain ⟨o3, h3, h⟩ := Option.bind_eq_some_iff.1 h
    obtain ⟨o4, h4, h⟩ := Option.bind_eq_some_iff.1 h
    have g := grs_cat ((hP o1 o2 h2).join (good_rest n o2 o3 h3)) (by simp) h4
    refine (grs_alt ((grs_empty h1).join g) h).congr fun t i j => ?_
    show i = j ∨ (∃ m, R t i m ∧ ∃ m2, upR (R t) (n + 1) m m2 ∧ m2 = j) ↔ upR (R t) (n + 1 + 1) i j
    rw [up_succ (R t) (n + 1)]
    constructor
    · rintro (q | ⟨m, q, m2, r, rfl⟩)
      · exact .inl q
      · exact .inr ⟨m, q, r⟩
    · rintro (q | ⟨m, q, r⟩)
      · exact .inl q
      · exact .inr ⟨m, q, j, r, rfl⟩
theorem good_times : ∀ (n : Nat) (o o1 o' : List Nd) (Rs : List TR) (rs rs' : List Nat), Grs Rs o o1 rs → timesF P n o1 rs = some (o', rs') → Grs (Rs ++ List.replicate n R) o o' rs'
  | 0, o, o1, o', Rs, rs, rs', h, q => by
    unfold timesF at q
    obtain ⟨rfl, rfl⟩ := Prod.mk.injEq .. ▸ (Option.some.inj q)
    simpa using h
  | n + 1, o, o1, o', Rs, rs, rs', h, q => by
    unfold timesF at q
    cases hp : P o1 with
    | none => rw [hp] at q; cases q
    | some o2 =>
      rw [hp] at q
      have := good_times n o o2 o' (Rs ++ [R]) (rs ++ [o2.length - 1]) rs' (h.join (hP o1 o2 hp)) q
      rw [List.append_assoc] at this
      exact this
end
theorem all_app : ∀ (Rs Rs2 : List TR) (t : List Nat) (i j : Nat), allR (Rs ++ Rs2) t i j ↔ ∃ m, allR Rs t i m ∧ allR Rs2 t m j
  | [], Rs2, t, i, j => by
    constructor
    · intro h; exact ⟨i, rfl, h⟩
    · rintro ⟨m, rfl, h⟩; exact h
  | a :: Rs, Rs2, t, i, j => by
    show (∃ m, a t i m ∧ allR (Rs ++ Rs2) t m j) ↔ ∃ m, (∃ m2, a t i m2 ∧ allR Rs t m2 m) ∧ allR Rs2 t m j
    constructor
    · rintro ⟨m, h1, h2⟩
      obtain ⟨m3, h3, h4⟩ := (all_app Rs Rs2 t m j).1 h2
      exact ⟨m3, ⟨m, h1, h3⟩, h4⟩
    · rintro ⟨m, ⟨m2, h1, h2⟩, h3⟩
      exact ⟨m2, h1, (all_app Rs Rs2 t m2 j).2 ⟨m, h2, h3⟩⟩
theorem all_one (a : TR) (t : List Nat) (i j : Nat) : allR [a] t i j ↔ a t i j := by
  show (∃ m, a t i m ∧ m = j) ↔ _
  constructor
  · rintro ⟨m, h, rfl⟩; exact h
  · intro h; exact ⟨j, h, rfl⟩
theorem all_rep (R : TR) (t : List Nat) : ∀ (n i j : Nat), allR (List.replicate n R) t i j ↔ powR (R t) n i j
  | 0, i, j => Iff.rfl
  | n + 1, i, j => by
    rw [powR_succ]
    show (∃ m, R t i m ∧ allR (List.replicate n R) t m j) ↔ _
    constructor
    · rintro ⟨m, h1, h2⟩; exact ⟨m, h1, (all_rep R t n m j).1 h2⟩
    · rintro ⟨m, h1, h2⟩; exact ⟨m, h1, (all_rep R t n m j).2 h2⟩
/-- A row of one is it itself; of more a Cat of them. -/
theorem good_cat {Rs : List TR} {o o1 o2 : List Nd} {rs : List Nat} (h : Grs Rs o o1 rs) (h1 : 1 ≤ rs.length) (hp : catF rs o1 = some o2) : Grs [allR Rs] o o2 [o2.length - 1] := by
  unfold catF at hp
  split at hp
  · rename_i e
    obtain rfl := Option.some.inj hp
    have hlen := h.len
    match rs, Rs, e, hlen, h with
    | [k], [R], _, _, h =>
      have hk := h.frs.last
      have e2 : o1.length - 1 = k := by omega
      rw [e2]
      exact h.congr fun t i j => (all_one R t i j).symm
  · exact grs_cat h (by omega) hp
theorem rep_split (R : Rel) (lo hi i j : Nat) (h : lo ≤ hi) : repR R (lo : Int) (hi : Int) i j ↔ ∃ m, powR R lo i m ∧ upR R (hi - lo) m j := by
  constructor
  · rintro ⟨t, h1, h2, h3⟩
    rw [show t = lo + (t - lo) from by omega, powR_add] at h3
    obtain ⟨m, q1, q2⟩ := h3
    exact ⟨m, q1, t - lo, by omega, q2⟩
  · rintro ⟨m, q1, s, hs, q2⟩
    exact ⟨lo + s, by omega, .inr (by omega), (powR_add R s lo i j).2 ⟨m, q1, q2⟩⟩
theorem rep_star (R : Rel) (lo i j : Nat) : repR R (lo : Int) (-1) i j ↔ ∃ m, powR R lo i m ∧ repR R 0 (-1) m j := by
  constructor
  · rintro ⟨t, h1, h2, h3⟩
    rw [show t = lo + (t - lo) from by omega, powR_add] at h3
    obtain ⟨m, q1, q2⟩ := h3
    exact ⟨m, q1, t - lo, by omega, .inl (by omega), q2⟩
  · rintro ⟨m, q1, s, _, _, q2⟩
    exact ⟨lo + s, by omega, .inl (by omega), (powR_add R s lo i j).2 ⟨m, q1, q2⟩⟩
theorem rep_same (R : Rel) (lo i j : Nat) : repR R (lo : Int) (lo : Int) i j ↔ powR R lo i j := by
  rw [rep_split R lo lo i j (Nat.le_refl _)]
  constructor
  · rintro ⟨m, h1, h2⟩
    rw [Nat.sub_self] at h2
    rw [← (up_zero R m j).1 h2]; exact h1
  · intro h
    exact ⟨j, h, by rw [Nat.sub_self]; exact (up_zero R j j).2 rfl⟩
theorem good_row {P : PF} {R : TR} (hP : Good P R) {lo hi : Int} (q0 : 0 ≤ lo) (q1 : lo ≤ 4096) (q2 : hi = -1 ∨ (1 ≤ hi ∧ hi ≤ 4096 ∧ lo ≤ hi)) : Good (rowF P lo hi) (timR R lo hi) := by
  intro o o' h
  unfold rowF at h
  obtain ⟨⟨o1, rs⟩, h1, h⟩ := Option.bind_eq_some_iff.1 h
  obtain ⟨⟨o2, rs2⟩, h2, hq⟩ := Option.bind_eq_some_iff.1 h
  clear h
  have hq : catF rs2 o2 = some o' := hq
  obtain ⟨n, rfl⟩ : ∃ n : Nat, lo = (n : Int) := ⟨lo.toNat, by omega⟩
  have g1 := good_times hP n o o o1 [] [] rs (Grs.nil o) h1
  rw [List.nil_append] at g1
  have l1 := g1.len
  rw [List.length_replicate] at l1
  unfold tailF at h2
  split at h2
  · rename_i hi1
    subst hi1
    obtain ⟨o3, h3, e⟩ := Option.map_eq_some_iff.1 h2
    obtain ⟨rfl, rfl⟩ := Prod.mk.injEq .. ▸ e
    have g := good_cat (g1.join (good_repeat hP (by omega) (by omega) (.inl rfl) o1 o3 h3)) (by simp) hq
    refine g.congr fun t i j => ?_
    rw [all_app]
    show (∃ m, _) ↔ repR (R t) (n : Int) (-1) i j
    rw [rep_star]
    constructor
    · rintro ⟨m, a, b⟩; exact ⟨m, (all_rep R t n i m).1 a, (all_one _ t m j).1 b⟩
    · rintro ⟨m, a, b⟩; exact ⟨m, (all_rep R t n i m).2 a, (all_one _ t m j).2 b⟩
  · rename_i hi1
    obtain ⟨m, rfl⟩ : ∃ m : Nat, hi = (m : Int) := ⟨hi.toNat, by omega⟩
    split at h2
    · rename_i hlt
      obtain ⟨o3, h3, e⟩ := Option.map_eq_some_iff.1 h2
      obtain ⟨rfl, rfl⟩ := Prod.mk.injEq .. ▸ e
      have g := good_cat (g1.join (good_rest hP _ o1 o3 h3)) (by simp) hq
      refine g.congr fun t i j => ?_
      rw [all_app]
      show (∃ z, _) ↔ repR (R t) (n : Int) (m : Int) i j
      rw [rep_split _ n m i j (by omega)]
      have e : ((m : Int) - (n : Int) - 1).toNat + 1 = m - n := by omega
      constructor
      · rintro ⟨z, a, b⟩
        refine ⟨z, (all_rep R t n i z).1 a, ?_⟩
        have := (all_one _ t z j).1 b
        unfold upT at this
        rw [e] at this
        exact this
      · rintro ⟨z, a, b⟩
        refine ⟨z, (all_rep R t n i z).2 a, (all_one _ t z j).2 ?_⟩
        unfold upT
        rw [e]
        exact b
    · rename_i hge
      obtain ⟨rfl, rfl⟩ := Prod.mk.injEq .. ▸ (Option.some.inj h2)
      have hmn : m = n := by omega
      subst hmn
      refine (good_cat g1 (by omega) (o2 := o') hq).congr fun t i j => ?_
      rw [all_rep]
      exact (rep_same (R t) m i j).symm
theorem good_rep {P : PF} {R : TR} (hP : Good P R) (single : Bool) (most : Nat) {lo hi : Int} (q0 : 0 ≤ lo) (q1 : lo ≤ 4096) (q2 : hi = -1 ∨ (1 ≤ hi ∧ hi ≤ 4096 ∧ lo ≤ hi)) : Good (repF P single most lo hi) (timR R lo hi) := by
  intro o o' h
  unfold repF at h
  split at h
  · rename_i hc
    split at h
    · rename_i h0
      subst h0
      obtain ⟨o1, h1, h⟩ := Option.bind_eq_some_iff.1 h
      obtain ⟨o2, h2, h⟩ := Option.bind_eq_some_iff.1 h
      refine (grs_alt ((grs_empty h1).join (good_repeat hP (by omega) (by omega) (by omega) o1 o2 h2)) h).congr fun t i j => ?_
      show i = j ∨ repR (R t) 1 hi i j ↔ repR (R t) 0 hi i j
      constructor
      · rintro (q | ⟨s, a, b, c⟩)
        · exact ⟨0, by omega, by omega, q⟩
        · exact ⟨s, by omega, b, c⟩
      · rintro ⟨s, a, b, c⟩
        by_cases hs : s = 0
        · subst hs; exact .inl c
        · exact .inr ⟨s, by omega, b, c⟩
    · exact good_repeat hP q0 q1 q2 o o' h
  · split at h
    · rename_i hc
      obtain ⟨_, rfl, _⟩ := hc
      obtain ⟨o1, h1, h⟩ := Option.bind_eq_some_iff.1 h
      obtain ⟨o2, h2, h⟩ := Option.bind_eq_some_iff.1 h
      refine (grs_cat ((good_repeat hP (lo := lo) (hi := lo) (by omega) q1 (by omega) o o1 h1).join (good_repeat hP (by omega) (by omega) (.inl rfl) o1 o2 h2)) (by simp) h).congr fun t i j => ?_
      obtain ⟨n, rfl⟩ : ∃ n : Nat, lo = (n : Int) := ⟨lo.toNat, by omega⟩
      show (∃ m, repR (R t) (n : Int) (n : Int) i m ∧ ∃ m2, repR (R t) 0 (-1) m m2 ∧ m2 = j) ↔ repR (R t) (n : Int) (-1) i j
      rw [rep_star]
      constructor
      · rintro ⟨m, a, m2, b, rfl⟩; exact ⟨m, (rep_same _ n i m).1 a, b⟩
      · rintro ⟨m, a, b⟩; exact ⟨m, (rep_same _ n i m).2 a, j, b, rfl⟩
    · exact good_row hP q0 q1 q2 o o' h
theorem good_kids {ns : List Nd} {P : Nat → PF} {Q : Nat → TR} : ∀ (ks : List Nat), (∀ k ∈ ks, Good (P k) (Q k)) → ∀ (o o1 o' : List Nd) (Rs : List TR) (rs rs' : List Nat), Grs Rs o o1 rs → kidsF P ks o1 rs = some (o', rs') → Grs (Rs ++ ks.map Q) o o' rs'
  | [], _, o, o1, o', Rs, rs, rs', h, q => by
    unfold kidsF at q
    obtain ⟨rfl, rfl⟩ := Prod.mk.injEq .. ▸ (Option.some.inj q)
    simpa using h
  | k :: ks, hk, o, o1, o', Rs, rs, rs', h, q => by
    unfold kidsF at q
    cases hp : P k o1 with
    | none => rw [hp] at q; cases q
    | some o2 =>
      rw [hp] at q
      have := good_kids (ns := ns) ks (fun x hx => hk x (by simp [hx])) o o2 o' (Rs ++ [Q k]) (rs ++ [o2.length - 1]) rs' (h.join (hk k (by simp) o1 o2 hp)) q
      rw [List.append_assoc] at this
      exact this
theorem all_kids {ns : List Nd} {t : List Nat} : ∀ (ks : List Nat) (i j : Nat), allR (ks.map fun k t => Mt ns t k) t i j ↔ chainR (Mt ns t) ks i j
  | [], i, j => Iff.rfl
  | k :: ks, i, j => by
    show (∃ m, Mt ns t k i m ∧ allR (ks.map fun k t => Mt ns t k) t m j) ↔ ∃ m, Mt ns t k i m ∧ chainR (Mt ns t) ks m j
    constructor
    · rintro ⟨m, a, b⟩; exact ⟨m, a, (all_kids ks m j).1 b⟩
    · rintro ⟨m, a, b⟩; exact ⟨m, a, (all_kids ks m j).2 b⟩
theorem tree_ops {ns : List Nd} (ht : TreeN ns) (hp : PlainN ns) {n : Nd} (hn : n ∈ ns) : n.op = 1 ∨ n.op = 2 ∨ n.op = 3 ∨ n.op = 4 ∨ n.op = 5 := by
  have hs := ht.shp n hn
  have h6 := hp n hn
  unfold shapeB at hs
  by_cases h1 : n.op = 1
  · exact .inl h1
  · by_cases h2 : n.op = 2
    · exact .inr (.inl h2)
    · by_cases h3 : n.op = 3
      · exact .inr (.inr (.inl h3))
      · by_cases h4 : n.op = 4
        · exact .inr (.inr (.inr (.inl h4)))
        · by_cases h5 : n.op = 5
          · exact .inr (.inr (.inr (.inr h5)))
          · rw [if_neg h1, if_neg h2, if_neg (by omega), if_neg h5, if_neg h6] at hs
            cases hs
theorem rep_bounds {n : Nd} (hs : shapeB n = true) (h5 : n.op = 5) : 0 ≤ n.lo ∧ n.lo ≤ 4096 ∧ (n.hi = -1 ∨ (1 ≤ n.hi ∧ n.hi ≤ 4096 ∧ n.lo ≤ n.hi)) := by
  unfold shapeB at hs
  rw [if_neg (by omega), if_neg (by omega), if_neg (by omega), if_pos h5] at hs
  simp only [Bool.and_eq_true, Bool.or_eq_true, decide_eq_true_eq, beq_iff_eq] at hs
  refine ⟨hs.1.1.2, hs.1.2, ?_⟩
  rcases hs.2 with q | q
  · exact .inl q
  · exact .inr ⟨q.1.1, q.1.2, q.2⟩
/-- The plan of a node, wherever it is put, means what the node does. -/
theorem good_pl {ns : List Nd} (ht : TreeN ns) (hp : PlainN ns) (most : Nat) : ∀ (k : Nat), k < ns.length → Good (pl ns most k) (fun t => Mt ns t k) := by
  intro k
  induction k using Nat.strongRecOn with
  | ind k ih =>
    intro hk o o' h
    have hl := ht.low
    have hn : ns[k]? = some ns[k] := List.getElem?_eq_getElem hk
    have hmem := List.mem_of_getElem? hn
    rw [pl_eq hl most k hn] at h
    have hlow := hl k _ hn
    have hops := tree_ops ht hp hmem
    have hsh := ht.shp _ hmem
    have hMt : ∀ t i j, Mt ns t k i j ↔ node1 t ns[k] (Mt ns t) i j := fun t i j => Mt_eq hl t k hn i j
    generalize ns[k] = n at *
    unfold plan1 at h
    split at h
    · rename_i h5
      have hm : n.l.getD 0 0 ∈ n.l := by
        cases hl2 : n.l with
        | nil => exact absurd hl2 (hlow.1 h5)
        | cons z y => simp
      have hkk := hlow.2 _ hm
      obtain ⟨s1, s2, s3⟩ := rep_bounds hsh h5
      refine (good_rep (ih _ hkk (by omega)) _ most s1 s2 ?_ o o' h).congr fun t i j => ?_
      · exact s3
      · rw [hMt]
        unfold node1
        rw [if_neg (by omega), if_neg (by omega), if_neg (by omega), if_pos h5]
        exact Iff.rfl
    · rename_i h5
      obtain ⟨⟨o1, rs⟩, h1, h2⟩ := Option.bind_eq_some_iff.1 h
      have g := good_kids (ns := ns) n.l (Q := fun k t => Mt ns t k) (fun c hc => ih c (hlow.2 c hc) (by have := hlow.2 c hc; omega)) o o o1 [] [] rs (Grs.nil o) h1
      rw [List.nil_append] at g
      have hlen : rs.length = n.l.length := by rw [g.len, List.length_map]
      have h5' : (withL n rs).op = 5 → (withL n rs).l ≠ [] := fun q => absurd q h5
      refine g.put h2 rfl (by
        show shapeB (withL n rs) = true
        rw [shape_with hlen]; exact hsh) (by show n.op ≠ 6; omega) h5' fun hlo t i j => ?_
      have hl2 := low_put g h2 rfl h5' hlo
      have hk2 : ∀ q, q < rs.length → ∀ i j, Mt o' t (rs.getD q 0) i j ↔ ((n.l.map fun k t => Mt ns t k).getD q (fun _ _ _ => False)) t i j := fun q hq i j => g.mt2 h2 hlo hl2 t hq i j
      rw [hMt]
      unfold node1
      show (if n.op = 2 then i < t.length ∧ n.s (t.getD i 0) = true ∧ j = i + 1 else if n.op = 3 then chainR (Mt o' t) rs i j else if n.op = 4 then ∃ k ∈ rs, Mt o' t k i j else if n.op = 5 then _ else i = j) ↔ _
      split
      · exact Iff.rfl
      · split
        · rw [← all_kids n.l]
          exact chain_all (by rw [List.length_map]; exact hlen) hk2 i j
        · split
          · constructor
            · rintro ⟨k, hk, q⟩
              obtain ⟨x, hx, rfl⟩ := List.getElem_of_mem hk
              have := (hk2 x hx i j).1 (by rw [List.getD_eq_getElem?_getD, List.getElem?_eq_getElem hx]; exact q)
              rw [List.getD_eq_getElem?_getD, List.getElem?_map, List.getElem?_eq_getElem (by omega)] at this
              exact ⟨_, List.getElem_mem (by omega), this⟩
            · rintro ⟨k, hk, q⟩
              obtain ⟨x, hx, rfl⟩ := List.getElem_of_mem hk
              refine ⟨rs.getD x 0, ?_, (hk2 x (by omega) i j).2 ?_⟩
              · rw [List.getD_eq_getElem?_getD, List.getElem?_eq_getElem (by omega)]
                exact List.getElem_mem (by omega)
              · rw [List.getD_eq_getElem?_getD, List.getElem?_map, List.getElem?_eq_getElem hx]
                exact q
          · exact Iff.rfl
/-- The plan is a tree without names, and means what its tree does. -/
theorem plan_means {ns : List Nd} (ht : TreeN ns) (hp : PlainN ns) {most : Nat} {o : List Nd} (h : planN ns most = some o) : TreeN o ∧ PlainN o ∧ ∀ t i j, Mt o t (o.length - 1) i j ↔ Mt ns t (ns.length - 1) i j := by
  have hpos := ht.pos
  have g := good_pl ht hp most (ns.length - 1) (by omega) [] o h
  have hlow0 : Low ([] : List Nd) := fun i n hn => by simp at hn
  refine ⟨⟨g.shp (fun n hn => by cases hn), ?_, g.few (by simp), g.frs⟩, g.pln (fun n hn => by cases hn), fun t i j => ?_⟩
  · have := g.frs.last
    omega
  · exact g.mt hlow0 t 0 (by simp) i j
end Go.Proofs.Ytahhiajliomcfaa.Sy.Pl

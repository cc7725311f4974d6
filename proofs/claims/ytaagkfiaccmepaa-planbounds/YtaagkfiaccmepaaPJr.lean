/- Bounds above most that are others change nothing but these bounds. Plain lists. -/
import Derived.Test.YtaagkfiaccmepaaPJc
import Derived.Test.YtaagkfiaccmepaaPJq
import Derived.Test.YtaagkfiaccmepaaPJo
namespace Go.Proofs.Ytaagkfiaccmepaa.Sy.Pl
open Go.RowKit Go.Proofs.Ytaagkfiaccmepaa.Sy.Lg
set_option maxRecDepth 100000
set_option linter.unusedVariables false

/-- The same node, but for a bound above most. -/
structure SimN (most : Nat) (n m : Nd) : Prop where
  op : m.op = n.op
  s : m.s = n.s
  l : m.l = n.l
  lo : m.lo = n.lo
  name : m.name = n.name
  hi : m.hi = n.hi ∨ (n.op = 5 ∧ (most : Int) < n.hi ∧ n.hi ≤ m.hi)
theorem SimN.refl (most : Nat) (n : Nd) : SimN most n n := ⟨rfl, rfl, rfl, rfl, rfl, .inl rfl⟩
structure Sim (most : Nat) (o p : List Nd) : Prop where
  len : p.length = o.length
  at_ : ∀ (i : Nat) (n m : Nd), o[i]? = some n → p[i]? = some m → SimN most n m
theorem Sim.snoc {most : Nat} {o p : List Nd} (h : Sim most o p) {n m : Nd} (hn : SimN most n m) : Sim most (o ++ [n]) (p ++ [m]) := by
  refine ⟨by simp [h.len], fun i a b ha hb => ?_⟩
  rcases Nat.lt_or_ge i o.length with r | r
  · rw [List.getElem?_append_left r] at ha
    rw [List.getElem?_append_left (by rw [h.len]; exact r)] at hb
    exact h.at_ i a b ha hb
  · rw [List.getElem?_append_right r] at ha
    rw [List.getElem?_append_right (by rw [h.len]; exact r), h.len] at hb
    have hi : i = o.length := by
      have := (List.getElem?_eq_some_iff.1 ha).1
      simp at this
      omega
    subst hi
    simp at ha hb
    subst ha hb
    exact hn
/-- Both or neither. -/
inductive SimO (most : Nat) : Option (List Nd) → Option (List Nd) → Prop
  | no : SimO most none none
  | yes {o p : List Nd} : Sim most o p → SimO most (some o) (some p)
inductive SimQ (most : Nat) : Option (List Nd × List Nat) → Option (List Nd × List Nat) → Prop
  | no : SimQ most none none
  | yes {o p : List Nd} {rs : List Nat} : Sim most o p → SimQ most (some (o, rs)) (some (p, rs))
theorem SimO.bind {most : Nat} {a b : Option (List Nd)} (h : SimO most a b) {f g : List Nd → Option (List Nd)} (hf : ∀ o p, Sim most o p → SimO most (f o) (g p)) : SimO most (a.bind f) (b.bind g) := by
  cases h with
  | no => exact .no
  | yes q => exact hf _ _ q
theorem SimQ.bind {most : Nat} {a b : Option (List Nd × List Nat)} (h : SimQ most a b) {f g : List Nd × List Nat → Option (List Nd)} (hf : ∀ o p rs, Sim most o p → SimO most (f (o, rs)) (g (p, rs))) : SimO most (a.bind f) (b.bind g) := by
  cases h with
  | no => exact .no
  | yes q => exact hf _ _ _ q
theorem SimO.mapq {most : Nat} {a b : Option (List Nd)} (h : SimO most a b) (rs : List Nat) : SimQ most (a.map fun o' => (o', rs ++ [o'.length - 1])) (b.map fun o' => (o', rs ++ [o'.length - 1])) := by
  cases h with
  | no => exact .no
  | yes q =>
    rename_i o p
    show SimQ most (some (o, rs ++ [o.length - 1])) (some (p, rs ++ [p.length - 1]))
    rw [q.len]
    exact .yes q
theorem sim_put {most : Nat} {o p : List Nd} (h : Sim most o p) {n m : Nd} (hn : SimN most n m) : SimO most (putF n o) (putF m p) := by
  unfold putF
  rw [h.len]
  split
  · exact .yes (h.snoc hn)
  · exact .no
def SimP (most : Nat) (P Q : PF) : Prop := ∀ o p, Sim most o p → SimO most (P o) (Q p)
section
variable {most : Nat} {P Q : PF} (hP : SimP most P Q)
include hP
theorem sim_repeat (lo hi hi2 : Int) (hh : hi2 = hi ∨ ((most : Int) < hi ∧ hi ≤ hi2)) : SimP most (repeatF P lo hi) (repeatF Q lo hi2) := by
  intro o p h
  refine (hP o p h).bind fun o1 p1 h1 => ?_
  rw [h1.len]
  exact sim_put h1 ⟨rfl, rfl, rfl, rfl, rfl, by
    rcases hh with q | q
    · exact .inl q
    · exact .inr ⟨rfl, q.1, q.2⟩⟩
theorem sim_rest : ∀ (n : Nat), SimP most (restF P n) (restF Q n)
  | 0 => by
    intro o p h
    unfold restF
    refine (sim_put h (SimN.refl _ _)).bind fun o1 p1 h1 => (hP o1 p1 h1).bind fun o2 p2 h2 => ?_
    rw [h1.len, h2.len]
    exact sim_put h2 (SimN.refl _ _)
  | n + 1 => by
    intro o p h
    unfold restF
    refine (sim_put h (SimN.refl _ _)).bind fun o1 p1 h1 => (hP o1 p1 h1).bind fun o2 p2 h2 => (sim_rest n o2 p2 h2).bind fun o3 p3 h3 => ?_
    rw [h2.len, h3.len]
    refine (sim_put h3 (SimN.refl _ _)).bind fun o4 p4 h4 => ?_
    rw [h1.len, h4.len]
    exact sim_put h4 (SimN.refl _ _)
theorem sim_times : ∀ (n : Nat) (o p : List Nd) (rs : List Nat), Sim most o p → SimQ most (timesF P n o rs) (timesF Q n p rs)
  | 0, o, p, rs, h => .yes h
  | n + 1, o, p, rs, h => by
    unfold timesF
    have h1 := hP o p h
    generalize P o = a at *
    generalize Q p = b at *
    cases h1 with
    | no => exact .no
    | yes q =>
      simp only
      rw [q.len]
      exact sim_times n _ _ _ q
theorem sim_tail (lo hi : Int) (o p : List Nd) (rs : List Nat) (h : Sim most o p) : SimQ most (tailF P lo hi o rs) (tailF Q lo hi p rs) := by
  unfold tailF
  split
  · exact (sim_repeat hP 0 (-1) (-1) (.inl rfl) o p h).mapq rs
  · split
    · exact (sim_rest hP _ o p h).mapq rs
    · exact .yes h
theorem sim_row (lo hi : Int) : SimP most (rowF P lo hi) (rowF Q lo hi) := by
  intro o p h
  unfold rowF
  refine (sim_times hP lo.toNat o p [] h).bind fun o1 p1 rs h1 => ?_
  refine (sim_tail hP lo hi o1 p1 rs h1).bind fun o2 p2 rs2 h2 => ?_
  show SimO most (catF rs2 o2) (catF rs2 p2)
  unfold catF
  split
  · exact .yes h2
  · exact sim_put h2 (SimN.refl _ _)
theorem sim_rep (single : Bool) (lo hi hi2 : Int) (hh : hi2 = hi ∨ (single = true ∧ (most : Int) < hi ∧ hi ≤ hi2)) : SimP most (repF P single most lo hi) (repF Q single most lo hi2) := by
  intro o p h
  have hp : ∀ lo, SimP most (repeatF P lo hi) (repeatF Q lo hi2) := fun lo => sim_repeat hP lo hi hi2 (by
    rcases hh with q | q
    · exact .inl q
    · exact .inr q.2)
  unfold repF
  by_cases hc : single = true ∧ (most : Int) < hi
  · have hc2 : single = true ∧ (most : Int) < hi2 := ⟨hc.1, by rcases hh with q | q <;> omega⟩
    rw [if_pos hc, if_pos hc2]
    split
    · refine (sim_put h (SimN.refl _ _)).bind fun o1 p1 h1 => (hp 1 o1 p1 h1).bind fun o2 p2 h2 => ?_
      rw [h1.len, h2.len]
      exact sim_put h2 (SimN.refl _ _)
    · exact hp lo o p h
  · have e : hi2 = hi := by
      rcases hh with q | q
      · exact q
      · exact absurd ⟨q.1, q.2.1⟩ hc
    subst e
    rw [if_neg hc, if_neg hc]
    split
    · refine (sim_repeat hP lo lo lo (.inl rfl) o p h).bind fun o1 p1 h1 => (sim_repeat hP 0 (-1) (-1) (.inl rfl) o1 p1 h1).bind fun o2 p2 h2 => ?_
      rw [h1.len, h2.len]
      exact sim_put h2 (SimN.refl _ _)
    · exact sim_row hP lo hi2 o p h
end
theorem sim_kids {most : Nat} {P Q : Nat → PF} : ∀ (ks : List Nat), (∀ k ∈ ks, SimP most (P k) (Q k)) → ∀ (o p : List Nd) (rs : List Nat), Sim most o p → SimQ most (kidsF P ks o rs) (kidsF Q ks p rs)
  | [], _, o, p, rs, h => .yes h
  | k :: ks, hk, o, p, rs, h => by
    unfold kidsF
    have h1 := hk k (by simp) o p h
    generalize P k o = a at *
    generalize Q k p = b at *
    cases h1 with
    | no => exact .no
    | yes q =>
      simp only
      rw [q.len]
      exact sim_kids ks (fun x hx => hk x (by simp [hx])) _ _ _ q
/-- Two trees that differ in bounds above most of repetitions of Bytes. -/
structure SimT (most : Nat) (ns ms : List Nd) : Prop where
  sim : Sim most ns ms
  one : ∀ n m, n ∈ ns → n.op = 5 → ∀ i : Nat, ns[i]? = some n → ms[i]? = some m → m.hi ≠ n.hi → (ns.getD (n.l.getD 0 0) nd00).op = 2
theorem sim_pl {ns ms : List Nd} {most : Nat} (h : SimT most ns ms) (hl : Low ns) (hl2 : Low ms) : ∀ (k : Nat), k < ns.length → SimP most (pl ns most k) (pl ms most k) := by
  intro k
  induction k using Nat.strongRecOn with
  | ind k ih =>
    intro hk o p ho
    have hk2 : k < ms.length := by rw [h.sim.len]; exact hk
    have hn : ns[k]? = some ns[k] := List.getElem?_eq_getElem hk
    have hm : ms[k]? = some ms[k] := List.getElem?_eq_getElem hk2
    have hs := h.sim.at_ k _ _ hn hm
    have h1 := h.one _ ms[k] (List.getElem_mem hk)
    rw [pl_eq hl most k hn, pl_eq hl2 most k hm]
    have hlow := hl k _ hn
    have h1 := fun q => h1 q k hn hm
    generalize ns[k] = n at *
    generalize ms[k] = m at *
    unfold plan1
    rw [hs.op]
    split
    · rename_i h5
      have hmem : n.l.getD 0 0 ∈ n.l := by
        cases hl3 : n.l with
        | nil => exact absurd hl3 (hlow.1 h5)
        | cons z y => simp
      have hkk := hlow.2 _ hmem
      have hop : (ms.getD (n.l.getD 0 0) nd00).op = (ns.getD (n.l.getD 0 0) nd00).op := by
        have q1 : n.l.getD 0 0 < ns.length := by omega
        have q2 : n.l.getD 0 0 < ms.length := by rw [h.sim.len]; exact q1
        have e1 : ns.getD (n.l.getD 0 0) nd00 = ns[n.l.getD 0 0]'q1 := by rw [List.getD_eq_getElem?_getD, List.getElem?_eq_getElem q1]; rfl
        have e2 : ms.getD (n.l.getD 0 0) nd00 = ms[n.l.getD 0 0]'q2 := by rw [List.getD_eq_getElem?_getD, List.getElem?_eq_getElem q2]; rfl
        rw [e1, e2]
        exact (h.sim.at_ _ _ _ (List.getElem?_eq_getElem q1) (List.getElem?_eq_getElem q2)).op
      rw [hs.l, hs.lo, hop]
      refine sim_rep (ih _ hkk (by omega)) _ n.lo n.hi m.hi ?_ o p ho
      by_cases e : m.hi = n.hi
      · exact .inl e
      · rcases hs.hi with q | q
        · exact absurd q e
        · exact .inr ⟨by rw [beq_iff_eq]; exact h1 h5 e, q.2⟩
    · rename_i h5
      rw [hs.l]
      refine (sim_kids n.l (fun c hc => ih c (hlow.2 c hc) (by have := hlow.2 c hc; omega)) o p [] ho).bind fun o1 p1 rs h1 => ?_
      refine sim_put h1 ⟨hs.op, hs.s, rfl, hs.lo, hs.name, ?_⟩
      rcases hs.hi with q | q
      · exact .inl q
      · exact absurd q.1 h5
theorem sim_plan {ns ms : List Nd} {most : Nat} (h : SimT most ns ms) (hl : Low ns) (hl2 : Low ms) (hp : 1 ≤ ns.length) : SimO most (planN ns most) (planN ms most) := by
  unfold planN
  rw [h.sim.len]
  exact sim_pl h hl hl2 _ (by omega) [] [] ⟨rfl, fun i n m q => by simp at q⟩
end Go.Proofs.Ytaagkfiaccmepaa.Sy.Pl

namespace Go.Proofs.Ytaagkfiaccmepaa.Sy.Pl
open Go.RowKit Go.Proofs.Ytaagkfiaccmepaa.Sy.Ap Go.Proofs.Ytaagkfiaccmepaa.Sy.Lg
set_option maxRecDepth 100000
set_option linter.unusedVariables false

theorem few8_ (A : Option Addr) (c n : Nat) (w : World) (hc : n ≤ c) (hm : n ≤ maxLen) :
    Calls Try.prog 6 #[.slice A n c] w fun e w' => e = .returned (.slice A (min n 60) c) ∧ w' = w := by
  unfold maxLen at hm
  by_cases h : n ≤ 60
  · have e1 : min n 60 = n := by omega
    have e2 : min (n : Int) 60 = (n : Int) := by omega
    rw [e1]
    have hci : (n : Int) ≤ (c : Int) := by omega
    have hn0 : (0 : Int) ≤ (n : Int) := by omega
    clear h e1 hc
    go_enter Try.func6, Try.ntmps6
    go_wp2
    go_ret
    exact ⟨rfl, rfl⟩
  · have e1 : min n 60 = 60 := by omega
    have e2 : min (n : Int) 60 = 60 := by omega
    rw [e1]
    have hci : (60 : Int) ≤ (c : Int) := by omega
    have hcn : 60 ≤ c := by omega
    clear h e1 hc
    go_enter Try.func6, Try.ntmps6
    go_wp2
    go_ret
    exact ⟨rfl, rfl⟩
theorem few8_any (A : Option Addr) (c : Nat) (gs : List Gd) (w : World) (hc : gs.length ≤ c) (hm : gs.length ≤ maxLen) :
    Calls Try.prog 6 #[.slice A gs.length c] w fun e w' => e = .returned (.slice A (gs.take 60).length c) ∧ w' = w := by
  have := few8_ A c gs.length w hc hm
  rw [List.length_take, Nat.min_comm]
  exact this
theorem mod_most {x : Int} (h0 : 0 ≤ x) (n : Int) (hn : 1 ≤ n) : ∃ k : Nat, Int.tmod x n = (k : Int) ∧ (k : Int) < n := by
  have h1 := Int.tmod_nonneg n h0
  have h2 := Int.tmod_lt_of_pos x (b := n) (by omega)
  exact ⟨(Int.tmod x n).toNat, by omega, by omega⟩
end Go.Proofs.Ytaagkfiaccmepaa.Sy.Pl

namespace Go.Proofs.Ytaagkfiaccmepaa.Sy.Pl
open Go.RowKit Go.Proofs.Ytaagkfiaccmepaa.Sy.Ap Go.Proofs.Ytaagkfiaccmepaa.Sy.Lg
set_option maxRecDepth 100000
set_option linter.unusedVariables false

def starB (n : Nd) : Bool := n.op == 5 && n.lo == 0 && n.hi == -1
def ctB (ns : List Nd) (n : Nd) : Bool := n.op == 5 && (ns.getD (n.l.getD 0 0) nd00).op == 2 && decide (1 ≤ n.lo) && decide (2 ≤ n.hi)
/-- Is it a plan? -/
def Rp (ns : List Nd) : Prop := ∀ n ∈ ns, n.op = 5 → starB n = true ∨ ctB ns n = true
def RgtP (gs : List Gd) : Prop := ∃ ns, GN gs ns ∧ TreeN ns ∧ PlainN ns ∧ Rp ns
/-- The node k of a tree, as a call has it. -/
abbrev ndA (g : Gd) (kA : Option Addr) (mm kc : Nat) : Array Value := #[.int .u8 g.op, .int .u64 (W g.s 0), .int .u64 (W g.s 1), .int .u64 (W g.s 2), .int .u64 (W g.s 3), .slice kA mm kc, .int .i64 g.lo, .int .i64 g.hi, .string g.nm]
set_option maxHeartbeats 400000 in
theorem star_any (g : Gd) (kA : Option Addr) (mm kc : Nat) (w : World) : Calls Try.prog 22 #[.agg (ndA g kA mm kc)] w fun e w' => e = .returned (.bool (g.op == 5 && g.lo == 0 && g.hi == -1)) ∧ Below w.heap.size w w' := by
  have R := RowA.new w 39 (ndA g kA mm kc)
  have d0 : (w.alloc (.cells (ndA g kA mm kc) 39)).cell? ⟨w.heap.size, 0, none⟩ = some (.int .u8 g.op) := R.at_ rfl
  have d6 : (w.alloc (.cells (ndA g kA mm kc) 39)).cell? ⟨w.heap.size, 6, none⟩ = some (.int .i64 g.lo) := R.at_ rfl
  have d7 : (w.alloc (.cells (ndA g kA mm kc) 39)).cell? ⟨w.heap.size, 7, none⟩ = some (.int .i64 g.hi) := R.at_ rfl
  clear R
  by_cases h5 : g.op = 5
  · have h5b : (g.op == 5) = true := by simp [h5]
    by_cases h6 : g.lo = 0
    · have h6b : (g.lo == 0) = true := by simp [h6]
      go_enter Try.func22, Try.ntmps22
      go_wp2
      go_ret
      exact ⟨by simp [h5, h6], (Below.refl _ _).alloc (Nat.le_refl _) _⟩
    · have h6b : (g.lo == 0) = false := by simp [h6]
      go_enter Try.func22, Try.ntmps22
      go_wp2
      go_ret
      exact ⟨by simp [h6], (Below.refl _ _).alloc (Nat.le_refl _) _⟩
  · have h5b : (g.op == 5) = false := by simp [h5]
    go_enter Try.func22, Try.ntmps22
    go_wp2
    go_ret
    exact ⟨by simp [h5], (Below.refl _ _).alloc (Nat.le_refl _) _⟩
set_option maxHeartbeats 400000 in
/-- Of a node of a tree (that is no Rep, or whose kid is there). -/
theorem cnt_any (g : Gd) (kA : Option Addr) (mm kc : Nat) (b1 o1 n c : Nat) (x : Int) (w : World) (hk : g.op = 5 → ∃ gk ok k, kA = some ⟨gk, ok, none⟩ ∧ 0 < mm ∧ k < n ∧ gk < w.heap.size ∧ b1 < w.heap.size ∧ w.cell? ⟨gk, ok, none⟩ = some (.int .i64 ((k : Nat) : Int)) ∧ w.cell? ⟨b1, o1 + k * 9, none⟩ = some (.int .u8 x)) :
    Calls Try.prog 23 #[.agg (ndA g kA mm kc), .slice (some ⟨b1, o1, none⟩) n c] w fun e w' => e = .returned (.bool (g.op == 5 && x == 2 && decide (1 ≤ g.lo) && decide (2 ≤ g.hi))) ∧ Below w.heap.size w w' := by
  have R := RowA.new w 39 (ndA g kA mm kc)
  have hb : Below w.heap.size w (w.alloc (.cells (ndA g kA mm kc) 39)) := (Below.refl _ _).alloc (Nat.le_refl _) _
  have d0 : (w.alloc (.cells (ndA g kA mm kc) 39)).cell? ⟨w.heap.size, 0, none⟩ = some (.int .u8 g.op) := R.at_ rfl
  have d5 : (w.alloc (.cells (ndA g kA mm kc) 39)).cell? ⟨w.heap.size, 5, none⟩ = some (.slice kA mm kc) := R.at_ rfl
  have d6 : (w.alloc (.cells (ndA g kA mm kc) 39)).cell? ⟨w.heap.size, 6, none⟩ = some (.int .i64 g.lo) := R.at_ rfl
  have d7 : (w.alloc (.cells (ndA g kA mm kc) 39)).cell? ⟨w.heap.size, 7, none⟩ = some (.int .i64 g.hi) := R.at_ rfl
  clear R
  by_cases h5 : g.op = 5
  · have h5b : (g.op == 5) = true := by simp [h5]
    obtain ⟨gk, ok, k, rfl, hmm, hkn, hgk, hb1, q1, q2⟩ := hk h5
    have e1 := (hb.cell (p := ⟨gk, ok, none⟩) hgk).trans q1
    have e2 := (hb.cell (p := ⟨b1, o1 + k * 9, none⟩) hb1).trans q2
    have hki : (k : Int) < (n : Int) := by omega
    have hmi : (0 : Int) < (mm : Int) := by omega
    have HB := hidd hb
    clear hk q1 q2 hb
    by_cases h2 : x = 2
    · subst h2
      by_cases h6 : 1 ≤ g.lo
      · go_enter Try.func23, Try.ntmps23
        go_wp2
        go_ret
        exact ⟨by simp [h5, h6], HB.out⟩
      · go_enter Try.func23, Try.ntmps23
        go_wp2
        go_ret
        have h7 : decide (1 ≤ g.lo) = false := decide_eq_false (by omega)
        exact ⟨by rw [h7]; simp, HB.out⟩
    · have h2b : (x == 2) = false := by simp [h2]
      go_enter Try.func23, Try.ntmps23
      go_wp2
      go_ret
      exact ⟨by simp [h2], HB.out⟩
  · have h5b : (g.op == 5) = false := by simp [h5]
    go_enter Try.func23, Try.ntmps23
    go_wp2
    go_ret
    exact ⟨by simp [h5], hb⟩
/-- The nodes of a tree, as a call reads them: what isCounted owes of node k. -/
theorem cnt_nd {c : Nat} {gs : List Gd} {ns : List Nd} (hg : GN gs ns) (ht : TreeN ns) {k : Nat} (hk : k < gs.length) {b1 o1 : Nat} {w w' : World} (hx : Nds w w.heap.size (some ⟨b1, o1, none⟩) gs) (hb : Below w.heap.size w w') {kA : Option Addr} {kc : Nat} (hI : Its w w.heap.size kA (gs.getD k gd0).l) :
    Calls Try.prog 23 #[.agg (ndA (gs.getD k gd0) kA (gs.getD k gd0).l.length kc), .slice (some ⟨b1, o1, none⟩) gs.length c] w' fun e w'' => e = .returned (.bool (ctB ns (ns.getD k nd0))) ∧ Below w'.heap.size w' w'' := by
  have hkn : k < ns.length := by rw [← hg.1]; exact hk
  have h1 := hg.2 k hk
  have e0 : ns.getD k nd0 = ns[k] := by rw [List.getD_eq_getElem?_getD, List.getElem?_eq_getElem hkn]; rfl
  rw [e0] at h1 ⊢
  have hnk : ns[k]? = some ns[k] := List.getElem?_eq_getElem hkn
  have hlow := ht.low k _ hnk
  by_cases h5 : ns[k].op = 5
  · obtain ⟨hl1, -⟩ := rep_one (ht.shp _ (List.getElem_mem hkn)) h5
    obtain ⟨j, hj⟩ : ∃ j, ns[k].l = [j] := List.length_eq_one_iff.1 hl1
    have hjk : j < k := hlow.2 j (by rw [hj]; exact List.mem_singleton.2 rfl)
    have hjg : j < gs.length := by omega
    have hjop : (gs.getD j gd0).op = ((ns.getD j nd00).op : Int) := (hg.2 j hjg).op
    have hl : (gs.getD k gd0).l = [(j : Int)] := by rw [h1.l, hj]; rfl
    obtain ⟨gk, ok, rfl, hgk, hcell⟩ := hI (by rw [hl]; simp)
    have q1 := hcell 0 (by rw [hl]; simp)
    rw [hl] at q1
    have q1 : w.cell? ⟨gk, ok, none⟩ = some (.int .i64 (j : Int)) := q1
    obtain ⟨b2, o2, e2, hb2, A3, c3, -, r1⟩ := hx.at_ (k := j) hjg
    injection e2 with e2
    injection e2 with e3 e4
    subst e3 e4
    have q2 : w.cell? ⟨b1, o1 + j * 9, none⟩ = some (.int .u8 (gs.getD j gd0).op) := r1 0 _ rfl
    rw [hjop] at q2
    refine (cnt_any (gs.getD k gd0) (some ⟨gk, ok, none⟩) _ kc b1 o1 gs.length c ((ns.getD j nd00).op : Int) w' (fun _ => ⟨gk, ok, j, rfl, by rw [hl]; simp, hjg, Nat.lt_of_lt_of_le hgk hb.size, Nat.lt_of_lt_of_le hb2 hb.size, (hb.cell (by exact hgk)).trans q1, (hb.cell (by exact hb2)).trans q2⟩)).mono ?_
    rintro e w2 ⟨rfl, b2⟩
    refine ⟨?_, b2⟩
    have hh : ns[k].l.getD 0 0 = j := by rw [hj]; rfl
    unfold ctB
    have e : (((ns.getD j nd00).op : Int) == 2) = ((ns.getD j nd00).op == 2) := by
      rw [Bool.eq_iff_iff]
      simp only [beq_iff_eq]
      omega
    have e5 : ((gs.getD k gd0).op == 5) = true := by rw [h1.op, h5]; rfl
    have e6 : (ns[k].op == 5) = true := by rw [h5]; rfl
    rw [hh, e, e5, e6, h1.lo, h1.hi]
  · have h5' : (gs.getD k gd0).op ≠ 5 := by rw [h1.op]; omega
    refine (cnt_any (gs.getD k gd0) kA _ kc b1 o1 gs.length c 0 w' (fun q => absurd q h5')).mono ?_
    rintro e w2 ⟨rfl, b2⟩
    refine ⟨?_, b2⟩
    unfold ctB
    have e1 : ((gs.getD k gd0).op == 5) = false := beq_eq_false_iff_ne.2 h5'
    have e2 : (ns[k].op == 5) = false := by simp [h5]
    rw [e1, e2]
    rfl
end Go.Proofs.Ytaagkfiaccmepaa.Sy.Pl

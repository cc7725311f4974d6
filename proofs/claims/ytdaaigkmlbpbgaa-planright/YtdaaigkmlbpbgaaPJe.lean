/- Bounds above most that are others change nothing but these bounds. Plain lists. -/
import Derived.Test.YtdaaigkmlbpbgaaPJc
namespace Go.Proofs.Ytdaaigkmlbpbgaa.Sy.Pl
open Go.RowKit Go.Proofs.Ytdaaigkmlbpbgaa.Sy.Lg
set_option maxRecDepth 100000
set_option linter.unusedVariables false

/-- The same node, but for a bound above most. -/
structure SimN (most : Nat) (n m : Nd) : Prop where
  op : m.op = n.op
  s : m.s = n.s
  l : m.l = n.l
  lo : m.lo = n.lo
  name : m.name = n.name
  hi : m.hi = n.hi ∨ (n.op = 5 ∧ (most : Int) < n.hi ∧ n.hi ≤ m.hi)
theorem SimN.refl (most : Nat) (n : Nd) : SimN most n n := ⟨rfl, rfl, rfl, rfl, rfl, .inl rfl⟩
structure Sim (most : Nat) (o p : List Nd) : Prop where
  len : p.length = o.length
  at_ : ∀ (i : Nat) (n m : Nd), o[i]? = some n → p[i]? = some m → SimN most n m
theorem Sim.snoc {most : Nat} {o p : List Nd} (h : Sim most o p) {n m : Nd} (hn : SimN most n m) : Sim most (o ++ [n]) (p ++ [m]) := by
  refine ⟨by simp [h.len], fun i a b ha hb => ?_⟩
  rcases Nat.lt_or_ge i o.length with r | r
  · rw [List.getElem?_append_left r] at ha
    rw [List.getElem?_append_left (by rw [h.len]; exact r)] at hb
    exact h.at_ i a b ha hb
  · rw [List.getElem?_append_right r] at ha
    rw [List.getElem?_append_right (by rw [h.len]; exact r), h.len] at hb
    have hi : i = o.length := by
      have := (List.getElem?_eq_some_iff.1 ha).1
      simp at this
      omega
    subst hi
    simp at ha hb
    subst ha hb
    exact hn
/-- Both or neither. -/
inductive SimO (most : Nat) : Option (List Nd) → Option (List Nd) → Prop
  | no : SimO most none none
  | yes {o p : List Nd} : Sim most o p → SimO most (some o) (some p)
inductive SimQ (most : Nat) : Option (List Nd × List Nat) → Option (List Nd × List Nat) → Prop
  | no : SimQ most none none
  | yes {o p : List Nd} {rs : List Nat} : Sim most o p → SimQ most (some (o, rs)) (some (p, rs))
theorem SimO.bind {most : Nat} {a b : Option (List Nd)} (h : SimO most a b) {f g : List Nd → Option (List Nd)} (hf : ∀ o p, Sim most o p → SimO most (f o) (g p)) : SimO most (a.bind f) (b.bind g) := by
  cases h with
  | no => exact .no
  | yes q => exact hf _ _ q
theorem SimQ.bind {most : Nat} {a b : Option (List Nd × List Nat)} (h : SimQ most a b) {f g : List Nd × List Nat → Option (List Nd)} (hf : ∀ o p rs, Sim most o p → SimO most (f (o, rs)) (g (p, rs))) : SimO most (a.bind f) (b.bind g) := by
  cases h with
  | no => exact .no
  | yes q => exact hf _ _ _ q
def SimP (most : Nat) (P Q : PF) : Prop := ∀ o p, Sim most o p → SimO most (P o) (Q p)
section
variable {most : Nat} {P Q : PF} (hP : SimP most P Q)
include hP
end
end Go.Proofs.Ytdaaigkmlbpbgaa.Sy.Pl

namespace Go.Proofs.Ytdaaigkmlbpbgaa.Sy.Pl
open Go.RowKit Go.Proofs.Ytdaaigkmlbpbgaa.Sy.Lg
set_option maxRecDepth 100000
set_option linter.unusedVariables false

/-- A node, its kids moved from a on to c on. -/
def mvN (a c : Nat) (n : Nd) : Nd := withL n (n.l.map fun k => k + c - a)
/-- The nodes from a up to b, moved to c on. -/
def mvS (o : List Nd) (a b c : Nat) : List Nd := (seg o a b).map (mvN a c)
theorem mvS_len {o : List Nd} {a b : Nat} (c : Nat) (ha : a ≤ b) (hb : b ≤ o.length) : (mvS o a b c).length = b - a := by
  unfold mvS seg
  rw [List.length_map, List.length_take, List.length_drop]
  omega
theorem mv_step {a b : Nat} (c : Nat) (h : a ≤ b) : mvN b (c + (b - a)) = mvN a c := by
  funext n
  unfold mvN
  congr 1
  apply List.map_congr_left
  intro k _
  show k + (c + (b - a)) - b = k + c - a
  omega
theorem mvS_join {o : List Nd} {a b d c : Nat} (h1 : a ≤ b) (h2 : b ≤ d) : mvS o a b c ++ mvS o b d (c + (b - a)) = mvS o a d c := by
  unfold mvS
  rw [mv_step c h1, seg_join h1 h2, List.map_append]
theorem mvS_self (o : List Nd) (a c : Nat) : mvS o a a c = [] := by unfold mvS; rw [seg_self]; rfl
theorem mvS_one {o : List Nd} {k : Nat} {n : Nd} (h : o[k]? = some n) (c : Nat) : mvS o k (k + 1) c = [mvN k c n] := by unfold mvS; rw [seg_one h]; rfl
/-- So many nodes, if there is room. -/
def fitF (m : Nat) (x : List Nd) : PF := fun out => if out.length + m ≤ 1024 then some (out ++ x) else none
theorem nil_eq {o : List Nd} {a b : Nat} (h : Forest o a b []) : b = a := by
  generalize e : ([] : List Nat) = ks at h
  cases h with
  | nil => rfl
  | snoc f1 hn f2 => simp at e
theorem kid_put {o : List Nd} {P : Nat → PF} : ∀ (ks : List Nat) (a b : Nat), Forest o a b ks → b ≤ o.length → (∀ k a, k ∈ ks → Forest o a (k + 1) [k] → ∀ out, P k out = fitF (k + 1 - a) (mvS o a (k + 1) out.length) out) →
    ∀ (out : List Nd) (rs : List Nat), kidsF P ks out rs = if out.length + (b - a) ≤ 1024 ∨ ks = [] then some (out ++ mvS o a b out.length, rs ++ ks.map fun k => k + out.length - a) else none
  | [], a, b, hf, hb, hP, out, rs => by
    have e : b = a := nil_eq hf
    subst e
    rw [if_pos (.inr rfl), mvS_self]
    unfold kidsF
    simp
  | k :: ks, a, b, hf, hb, hP, out, rs => by
    obtain ⟨m, f1, f2⟩ := hf.split [k] ks rfl
    have hm := f1.last
    subst hm
    have l1 := f1.le
    have l2 := f2.le
    unfold kidsF
    rw [hP k a (by simp) f1 out]
    unfold fitF
    by_cases h1 : out.length + (k + 1 - a) ≤ 1024
    · rw [if_pos h1]
      have hlen : (out ++ mvS o a (k + 1) out.length).length = out.length + (k + 1 - a) := by rw [List.length_append, mvS_len _ l1 (by omega)]
      show kidsF P ks (out ++ mvS o a (k + 1) out.length) (rs ++ [(out ++ mvS o a (k + 1) out.length).length - 1]) = _
      rw [kid_put ks (k + 1) b f2 hb (fun x y hx => hP x y (by simp [hx])) (out ++ mvS o a (k + 1) out.length) _, hlen]
      have hk : a ≤ k := (Forest.mem f1 k (by simp)).1
      by_cases h2 : out.length + (b - a) ≤ 1024
      · rw [if_pos (.inl (by omega)), if_pos (.inl h2), List.append_assoc, mvS_join l1 l2]
        congr 2
        rw [List.append_assoc]
        congr 1
        rw [List.map_cons]
        show (out.length + (k + 1 - a) - 1) :: _ = _
        rw [show out.length + (k + 1 - a) - 1 = k + out.length - a from by omega]
        congr 1
        apply List.map_congr_left
        intro j _
        show j + (out.length + (k + 1 - a)) - (k + 1) = j + out.length - a
        omega
      · by_cases h3 : ks = []
        · subst h3
          have : b = k + 1 := nil_eq f2
          omega
        · rw [if_neg (fun q => by rcases q with q | q; omega; exact h3 q), if_neg (fun q => by rcases q with q | q; exact h2 q; cases q)]
    · rw [if_neg h1, if_neg (fun q => by rcases q with q | q; omega; cases q)]
theorem put_eq {n : Nd} {o : List Nd} : putF n o = if o.length + 1 ≤ 1024 then some (o ++ [n]) else none := rfl
theorem again_pl {o : List Nd} (ht : TreeN o) (hp : PlainN o) {most : Nat} (hc : Ct most o) : ∀ (k : Nat), k < o.length → ∀ a, Forest o a (k + 1) [k] → ∀ out, pl o most k out = fitF (k + 1 - a) (mvS o a (k + 1) out.length) out := by
  intro k
  induction k using Nat.strongRecOn with
  | ind k ih =>
    intro hk a hf out
    have hn : o[k]? = some o[k] := List.getElem?_eq_getElem hk
    have hmem := List.mem_of_getElem? hn
    have hlow := ht.low k _ hn
    have hct := hc _ hmem
    have hsh := ht.shp _ hmem
    have hak : a ≤ k := (Forest.mem hf k (by simp)).1
    have hfk : Forest o a k (o[k]).l := by
      obtain ⟨b, ks2, n, e1, e2, f1, f2⟩ := hf.top hak
      have : ks2 = [] := by
        have := congrArg List.length e1
        simp at this
        exact this
      subst this
      have hb : b = a := nil_eq f1
      subst hb
      rw [hn] at e2
      obtain rfl := Option.some.inj e2
      exact f2
    rw [pl_eq ht.low most k hn out]
    have hone := mvS_one hn (out.length + (k - a))
    have hjoin := mvS_join (o := o) (a := a) (b := k) (d := k + 1) (c := out.length) hak (by omega)
    rw [hone, mv_step out.length hak] at hjoin
    have hml : (mvS o a k out.length).length = k - a := mvS_len _ hak (by omega)
    have hkid : ∀ c a', c ∈ (o[k]).l → Forest o a' (c + 1) [c] → ∀ out, pl o most c out = fitF (c + 1 - a') (mvS o a' (c + 1) out.length) out := fun c a' hc hf => ih c (hlow.2 c hc) (by have := hlow.2 c hc; omega) a' hf
    generalize o[k] = n at *
    unfold plan1 fitF
    split
    · rename_i h5
      obtain ⟨hs, hnm, hcase⟩ := hct h5
      have hl1 : n.l.length = 1 := shp_rep hsh h5
      obtain ⟨c, hcl⟩ := List.length_eq_one_iff.1 hl1
      rw [hcl] at hfk
      have hkc := hfk.last
      subst hkc
      have hP := hkid c a (by rw [hcl]; simp) hfk
      have hg : n.l.getD 0 0 = c := by rw [hcl]; rfl
      rw [hg]
      have hrep : ∀ lo hi : Int, n.lo = lo → n.hi = hi → repeatF (pl o most c) lo hi out = if out.length + (c + 1 + 1 - a) ≤ 1024 then some (out ++ mvS o a (c + 1 + 1) out.length) else none := fun lo hi q1 q2 => by
        unfold repeatF
        rw [hP out]
        unfold fitF
        by_cases h1 : out.length + (c + 1 - a) ≤ 1024
        · rw [if_pos h1]
          show putF (ndRep ((out ++ mvS o a (c + 1) out.length).length - 1) lo hi) (out ++ mvS o a (c + 1) out.length) = _
          rw [put_eq, List.length_append, hml]
          by_cases h2 : out.length + (c + 1 - a) + 1 ≤ 1024
          · rw [if_pos h2, if_pos (by omega), ← hjoin, List.append_assoc]
            congr 3
            have : mvN a out.length n = ⟨5, noS, [c + out.length - a], lo, hi, []⟩ := by
              unfold mvN withL
              rw [h5, hs, hcl, q1, q2, hnm]
              rfl
            rw [this]
            unfold ndRep
            rw [show out.length + (c + 1 - a) - 1 = c + out.length - a from by omega]
          · rw [if_neg h2, if_neg (by omega)]
        · rw [if_neg h1, if_neg (by omega)]
          rfl
      rcases hcase with ⟨q1, q2⟩ | ⟨q1, q2, q3, q4⟩
      · unfold repF
        rw [q1, q2, if_neg (fun q => by have := q.2; omega), if_neg (fun q => by have := q.2.2; omega)]
        unfold rowF
        show ((tailF (pl o most c) 0 (-1) out []).bind fun q => catF q.2 q.1) = _
        unfold tailF
        rw [if_pos rfl, hrep 0 (-1) q1 q2]
        split
        · rfl
        · rfl
      · unfold repF
        rw [hg] at q1
        rw [if_pos ⟨by rw [beq_iff_eq]; exact q1, q4⟩, if_neg (by omega)]
        exact hrep n.lo n.hi rfl rfl
    · rename_i h5
      rw [kid_put n.l a k hfk (by omega) hkid out []]
      by_cases h1 : out.length + (k - a) ≤ 1024 ∨ n.l = []
      · rw [if_pos h1]
        show putF (withL n ([] ++ n.l.map fun k => k + out.length - a)) (out ++ mvS o a k out.length) = _
        rw [List.nil_append, put_eq, List.length_append, hml]
        by_cases h2 : out.length + (k - a) + 1 ≤ 1024
        · rw [if_pos h2, if_pos (by omega), ← hjoin, List.append_assoc]
          rfl
        · rw [if_neg h2, if_neg (by omega)]
      · rw [if_neg h1, if_neg (fun q => h1 (.inl (by omega)))]
        rfl
end Go.Proofs.Ytdaaigkmlbpbgaa.Sy.Pl

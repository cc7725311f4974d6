/- Bounds above most that are others change nothing but these bounds. Plain lists. -/
import Derived.Test.YtdaaigkmlbpbgaaPJc
import Derived.Test.YtdaaigkmlbpbgaaPJn
import Derived.Test.YtdaaigkmlbpbgaaPJq
namespace Go.Proofs.Ytdaaigkmlbpbgaa.Sy.Pl
open Go.RowKit Go.Proofs.Ytdaaigkmlbpbgaa.Sy.Lg
set_option maxRecDepth 100000
set_option linter.unusedVariables false

/-- The same node, but for a bound above most. -/
structure SimN (most : Nat) (n m : Nd) : Prop where
  op : m.op = n.op
  s : m.s = n.s
  l : m.l = n.l
  lo : m.lo = n.lo
  name : m.name = n.name
  hi : m.hi = n.hi ∨ (n.op = 5 ∧ (most : Int) < n.hi ∧ n.hi ≤ m.hi)
theorem SimN.refl (most : Nat) (n : Nd) : SimN most n n := ⟨rfl, rfl, rfl, rfl, rfl, .inl rfl⟩
structure Sim (most : Nat) (o p : List Nd) : Prop where
  len : p.length = o.length
  at_ : ∀ (i : Nat) (n m : Nd), o[i]? = some n → p[i]? = some m → SimN most n m
theorem Sim.snoc {most : Nat} {o p : List Nd} (h : Sim most o p) {n m : Nd} (hn : SimN most n m) : Sim most (o ++ [n]) (p ++ [m]) := by
  refine ⟨by simp [h.len], fun i a b ha hb => ?_⟩
  rcases Nat.lt_or_ge i o.length with r | r
  · rw [List.getElem?_append_left r] at ha
    rw [List.getElem?_append_left (by rw [h.len]; exact r)] at hb
    exact h.at_ i a b ha hb
  · rw [List.getElem?_append_right r] at ha
    rw [List.getElem?_append_right (by rw [h.len]; exact r), h.len] at hb
    have hi : i = o.length := by
      have := (List.getElem?_eq_some_iff.1 ha).1
      simp at this
      omega
    subst hi
    simp at ha hb
    subst ha hb
    exact hn
/-- Both or neither. -/
inductive SimO (most : Nat) : Option (List Nd) → Option (List Nd) → Prop
  | no : SimO most none none
  | yes {o p : List Nd} : Sim most o p → SimO most (some o) (some p)
inductive SimQ (most : Nat) : Option (List Nd × List Nat) → Option (List Nd × List Nat) → Prop
  | no : SimQ most none none
  | yes {o p : List Nd} {rs : List Nat} : Sim most o p → SimQ most (some (o, rs)) (some (p, rs))
theorem SimO.bind {most : Nat} {a b : Option (List Nd)} (h : SimO most a b) {f g : List Nd → Option (List Nd)} (hf : ∀ o p, Sim most o p → SimO most (f o) (g p)) : SimO most (a.bind f) (b.bind g) := by
  cases h with
  | no => exact .no
  | yes q => exact hf _ _ q
theorem SimQ.bind {most : Nat} {a b : Option (List Nd × List Nat)} (h : SimQ most a b) {f g : List Nd × List Nat → Option (List Nd)} (hf : ∀ o p rs, Sim most o p → SimO most (f (o, rs)) (g (p, rs))) : SimO most (a.bind f) (b.bind g) := by
  cases h with
  | no => exact .no
  | yes q => exact hf _ _ _ q
def SimP (most : Nat) (P Q : PF) : Prop := ∀ o p, Sim most o p → SimO most (P o) (Q p)
section
variable {most : Nat} {P Q : PF} (hP : SimP most P Q)
include hP
end
end Go.Proofs.Ytdaaigkmlbpbgaa.Sy.Pl

namespace Go.Proofs.Ytdaaigkmlbpbgaa.Sy.Pl
open Go.RowKit Go.Proofs.Ytdaaigkmlbpbgaa.Sy.Lg
set_option maxRecDepth 100000
set_option linter.unusedVariables false

/-- A node, its kids moved from a on to c on. -/
def mvN (a c : Nat) (n : Nd) : Nd := withL n (n.l.map fun k => k + c - a)
/-- The nodes from a up to b, moved to c on. -/
def mvS (o : List Nd) (a b c : Nat) : List Nd := (seg o a b).map (mvN a c)
theorem mvS_len {o : List Nd} {a b : Nat} (c : Nat) (ha : a ≤ b) (hb : b ≤ o.length) : (mvS o a b c).length = b - a := by
  unfold mvS seg
  rw [List.length_map, List.length_take, List.length_drop]
  omega
theorem mv_step {a b : Nat} (c : Nat) (h : a ≤ b) : mvN b (c + (b - a)) = mvN a c := by
  funext n
  unfold mvN
  congr 1
  apply List.map_congr_left
  intro k _
  show k + (c + (b - a)) - b = k + c - a
  omega
theorem mvS_join {o : List Nd} {a b d c : Nat} (h1 : a ≤ b) (h2 : b ≤ d) : mvS o a b c ++ mvS o b d (c + (b - a)) = mvS o a d c := by
  unfold mvS
  rw [mv_step c h1, seg_join h1 h2, List.map_append]
theorem mvS_self (o : List Nd) (a c : Nat) : mvS o a a c = [] := by unfold mvS; rw [seg_self]; rfl
theorem mvS_one {o : List Nd} {k : Nat} {n : Nd} (h : o[k]? = some n) (c : Nat) : mvS o k (k + 1) c = [mvN k c n] := by unfold mvS; rw [seg_one h]; rfl
/-- So many nodes, if there is room. -/
def fitF (m : Nat) (x : List Nd) : PF := fun out => if out.length + m ≤ 1024 then some (out ++ x) else none
theorem nil_eq {o : List Nd} {a b : Nat} (h : Forest o a b []) : b = a := by
  generalize e : ([] : List Nat) = ks at h
  cases h with
  | nil => rfl
  | snoc f1 hn f2 => simp at e
theorem kid_put {o : List Nd} {P : Nat → PF} : ∀ (ks : List Nat) (a b : Nat), Forest o a b ks → b ≤ o.length → (∀ k a, k ∈ ks → Forest o a (k + 1) [k] → ∀ out, P k out = fitF (k + 1 - a) (mvS o a (k + 1) out.length) out) →
    ∀ (out : List Nd) (rs : List Nat), kidsF P ks out rs = if out.length + (b - a) ≤ 1024 ∨ ks = [] then some (out ++ mvS o a b out.length, rs ++ ks.map fun k => k + out.length - a) else none
  | [], a, b, hf, hb, hP, out, rs => by
    have e : b = a := nil_eq hf
    subst e
    rw [if_pos (.inr rfl), mvS_self]
    unfold kidsF
    simp
  | k :: ks, a, b, hf, hb, hP, out, rs => by
    obtain ⟨m, f1, f2⟩ := hf.split [k] ks rfl
    have hm := f1.last
    subst hm
    have l1 := f1.le
    have l2 := f2.le
    unfold kidsF
    rw [hP k a (by simp) f1 out]
    unfold fitF
    by_cases h1 : out.length + (k + 1 - a) ≤ 1024
    · rw [if_pos h1]
      have hlen : (out ++ mvS o a (k + 1) out.length).length = out.length + (k + 1 - a) := by rw [List.length_append, mvS_len _ l1 (by omega)]
      show kidsF P ks (out ++ mvS o a (k + 1) out.length) (rs ++ [(out ++ mvS o a (k + 1) out.length).length - 1]) = _
      rw [kid_put ks (k + 1) b f2 hb (fun x y hx => hP x y (by simp [hx])) (out ++ mvS o a (k + 1) out.length) _, hlen]
      have hk : a ≤ k := (Forest.mem f1 k (by simp)).1
      by_cases h2 : out.length + (b - a) ≤ 1024
      · rw [if_pos (.inl (by omega)), if_pos (.inl h2), List.append_assoc, mvS_join l1 l2]
        congr 2
        rw [List.append_assoc]
        congr 1
        rw [List.map_cons]
        show (out.length + (k + 1 - a) - 1) :: _ = _
        rw [show out.length + (k + 1 - a) - 1 = k + out.length - a from by omega]
        congr 1
        apply List.map_congr_left
        intro j _
        show j + (out.length + (k + 1 - a)) - (k + 1) = j + out.length - a
        omega
      · by_cases h3 : ks = []
        · subst h3
          have : b = k + 1 := nil_eq f2
          omega
        · rw [if_neg (fun q => by rcases q with q | q; omega; exact h3 q), if_neg (fun q => by rcases q with q | q; exact h2 q; cases q)]
    · rw [if_neg h1, if_neg (fun q => by rcases q with q | q; omega; cases q)]
theorem put_eq {n : Nd} {o : List Nd} : putF n o = if o.length + 1 ≤ 1024 then some (o ++ [n]) else none := rfl
theorem again_pl {o : List Nd} (ht : TreeN o) (hp : PlainN o) {most : Nat} (hc : Ct most o) : ∀ (k : Nat), k < o.length → ∀ a, Forest o a (k + 1) [k] → ∀ out, pl o most k out = fitF (k + 1 - a) (mvS o a (k + 1) out.length) out := by
  intro k
  induction k using Nat.strongRecOn with
  | ind k ih =>
    intro hk a hf out
    have hn : o[k]? = some o[k] := List.getElem?_eq_getElem hk
    have hmem := List.mem_of_getElem? hn
    have hlow := ht.low k _ hn
    have hct := hc _ hmem
    have hsh := ht.shp _ hmem
    have hak : a ≤ k := (Forest.mem hf k (by simp)).1
    have hfk : Forest o a k (o[k]).l := by
      obtain ⟨b, ks2, n, e1, e2, f1, f2⟩ := hf.top hak
      have : ks2 = [] := by
        have := congrArg List.length e1
        simp at this
        exact this
      subst this
      have hb : b = a := nil_eq f1
      subst hb
      rw [hn] at e2
      obtain rfl := Option.some.inj e2
      exact f2
    rw [pl_eq ht.low most k hn out]
    have hone := mvS_one hn (out.length + (k - a))
    have hjoin := mvS_join (o := o) (a := a) (b := k) (d := k + 1) (c := out.length) hak (by omega)
    rw [hone, mv_step out.length hak] at hjoin
    have hml : (mvS o a k out.length).length = k - a := mvS_len _ hak (by omega)
    have hkid : ∀ c a', c ∈ (o[k]).l → Forest o a' (c + 1) [c] → ∀ out, pl o most c out = fitF (c + 1 - a') (mvS o a' (c + 1) out.length) out := fun c a' hc hf => ih c (hlow.2 c hc) (by have := hlow.2 c hc; omega) a' hf
    generalize o[k] = n at *
    unfold plan1 fitF
    split
    · rename_i h5
      obtain ⟨hs, hnm, hcase⟩ := hct h5
      have hl1 : n.l.length = 1 := shp_rep hsh h5
      obtain ⟨c, hcl⟩ := List.length_eq_one_iff.1 hl1
      rw [hcl] at hfk
      have hkc := hfk.last
      subst hkc
      have hP := hkid c a (by rw [hcl]; simp) hfk
      have hg : n.l.getD 0 0 = c := by rw [hcl]; rfl
      rw [hg]
      have hrep : ∀ lo hi : Int, n.lo = lo → n.hi = hi → repeatF (pl o most c) lo hi out = if out.length + (c + 1 + 1 - a) ≤ 1024 then some (out ++ mvS o a (c + 1 + 1) out.length) else none := fun lo hi q1 q2 => by
        unfold repeatF
        rw [hP out]
        unfold fitF
        by_cases h1 : out.length + (c + 1 - a) ≤ 1024
        · rw [if_pos h1]
          show putF (ndRep ((out ++ mvS o a (c + 1) out.length).length - 1) lo hi) (out ++ mvS o a (c + 1) out.length) = _
          rw [put_eq, List.length_append, hml]
          by_cases h2 : out.length + (c + 1 - a) + 1 ≤ 1024
          · rw [if_pos h2, if_pos (by omega), ← hjoin, List.append_assoc]
            congr 3
            have : mvN a out.length n = ⟨5, noS, [c + out.length - a], lo, hi, []⟩ := by
              unfold mvN withL
              rw [h5, hs, hcl, q1, q2, hnm]
              rfl
            rw [this]
            unfold ndRep
            rw [show out.length + (c + 1 - a) - 1 = c + out.length - a from by omega]
          · rw [if_neg h2, if_neg (by omega)]
        · rw [if_neg h1, if_neg (by omega)]
          rfl
      rcases hcase with ⟨q1, q2⟩ | ⟨q1, q2, q3, q4⟩
      · unfold repF
        rw [q1, q2, if_neg (fun q => by have := q.2; omega), if_neg (fun q => by have := q.2.2; omega)]
        unfold rowF
        show ((tailF (pl o most c) 0 (-1) out []).bind fun q => catF q.2 q.1) = _
        unfold tailF
        rw [if_pos rfl, hrep 0 (-1) q1 q2]
        split
        · rfl
        · rfl
      · unfold repF
        rw [hg] at q1
        rw [if_pos ⟨by rw [beq_iff_eq]; exact q1, q4⟩, if_neg (by omega)]
        exact hrep n.lo n.hi rfl rfl
    · rename_i h5
      rw [kid_put n.l a k hfk (by omega) hkid out []]
      by_cases h1 : out.length + (k - a) ≤ 1024 ∨ n.l = []
      · rw [if_pos h1]
        show putF (withL n ([] ++ n.l.map fun k => k + out.length - a)) (out ++ mvS o a k out.length) = _
        rw [List.nil_append, put_eq, List.length_append, hml]
        by_cases h2 : out.length + (k - a) + 1 ≤ 1024
        · rw [if_pos h2, if_pos (by omega), ← hjoin, List.append_assoc]
          rfl
        · rw [if_neg h2, if_neg (by omega)]
      · rw [if_neg h1, if_neg (fun q => h1 (.inl (by omega)))]
        rfl
/-- The plan of a plan is it. -/
theorem plan_again {ns o : List Nd} (ht : TreeN ns) (hp : PlainN ns) {most : Nat} (h : planN ns most = some o) : planN o most = some o := by
  obtain ⟨t2, p2, _⟩ := plan_means ht hp h
  have hc := plan_ct ht hp h
  have hpos := t2.pos
  have hfew := t2.few
  have hf := t2.frs
  have e : o.length - 1 + 1 = o.length := by omega
  unfold planN
  rw [again_pl t2 p2 hc (o.length - 1) (by omega) 0 (by rw [e]; exact hf) []]
  unfold fitF
  rw [if_pos (by simp; omega), e, List.nil_append]
  congr 1
  unfold mvS
  rw [seg_all]
  have : mvN 0 ([] : List Nd).length = id := by
    funext n
    unfold mvN withL
    simp
  rw [this, List.map_id]
end Go.Proofs.Ytdaaigkmlbpbgaa.Sy.Pl

namespace Go.Proofs.Ytdaaigkmlbpbgaa.Sy.Ap
open Go.RowKit
set_option maxRecDepth 100000
set_option linter.unusedVariables false

theorem same_tree {A A' : Option Addr} {c c' : Nat} {gs gs' : List Gd} {ns : List Nd} {w : World} (hN : Nds w w.heap.size A gs) (hN' : Nds w w.heap.size A' gs') (hg : GN gs ns) (hg' : GN gs' ns) (ht : TreeN ns) :
    Calls Try.prog 14 #[.slice A gs.length c, .slice A' gs'.length c'] w fun e w' => e = .returned (.bool true) ∧ Below w.heap.size w w' :=
  same_any A A' c c' gs gs' w hN hN' (hg.leq hg') (by have := gn_few hg ht; omega) (fun g h => by have := gn_kids hg ht g h; omega)
end Go.Proofs.Ytdaaigkmlbpbgaa.Sy.Ap

namespace Go.Proofs.Ytdaaigkmlbpbgaa.Sy.Pl
open Go.RowKit Go.Proofs.Ytdaaigkmlbpbgaa.Sy.Ap Go.Proofs.Ytdaaigkmlbpbgaa.Sy.Lg
set_option maxRecDepth 100000
set_option linter.unusedVariables false

theorem few8_ (A : Option Addr) (c n : Nat) (w : World) (hc : n ≤ c) (hm : n ≤ maxLen) :
    Calls Try.prog 11 #[.slice A n c] w fun e w' => e = .returned (.slice A (min n 60) c) ∧ w' = w := by
  unfold maxLen at hm
  by_cases h : n ≤ 60
  · have e1 : min n 60 = n := by omega
    have e2 : min (n : Int) 60 = (n : Int) := by omega
    rw [e1]
    have hci : (n : Int) ≤ (c : Int) := by omega
    have hn0 : (0 : Int) ≤ (n : Int) := by omega
    clear h e1 hc
    go_enter Try.func11, Try.ntmps11
    go_wp2
    go_ret
    exact ⟨rfl, rfl⟩
  · have e1 : min n 60 = 60 := by omega
    have e2 : min (n : Int) 60 = 60 := by omega
    rw [e1]
    have hci : (60 : Int) ≤ (c : Int) := by omega
    have hcn : 60 ≤ c := by omega
    clear h e1 hc
    go_enter Try.func11, Try.ntmps11
    go_wp2
    go_ret
    exact ⟨rfl, rfl⟩
theorem few8_any (A : Option Addr) (c : Nat) (gs : List Gd) (w : World) (hc : gs.length ≤ c) (hm : gs.length ≤ maxLen) :
    Calls Try.prog 11 #[.slice A gs.length c] w fun e w' => e = .returned (.slice A (gs.take 60).length c) ∧ w' = w := by
  have := few8_ A c gs.length w hc hm
  rw [List.length_take, Nat.min_comm]
  exact this
/-- Tree, whatever the nodes: what it tells. -/
def TrQ (gs : List Gd) (most : Int) (w : World) (e : Ending) (w' : World) : Prop :=
  Below w.heap.size w w' ∧ ((e = .returned (.tuple #[.slice none 0 0, .int .i64 1]) ∧ ¬ (PlainG gs ∧ 1 ≤ most ∧ most ≤ 4096)) ∨
    (∃ (ns : List Nd) (m : Nat), most = (m : Int) ∧ 1 ≤ m ∧ m ≤ 4096 ∧ GN gs ns ∧ TreeN ns ∧ PlainN ns ∧ ((planN ns m = none ∧ e = .returned (.tuple #[.slice none 0 0, .int .i64 3])) ∨
      (∃ o A c go, planN ns m = some o ∧ e = .returned (.tuple #[.slice A go.length c, .int .i64 0]) ∧ Nds w' w'.heap.size A go ∧ GN go o ∧ go.length ≤ c))))
theorem tree_q (A : Option Addr) (c : Nat) (gs : List Gd) (most : Int) (w : World) (hN : Nds w w.heap.size A gs) (hl : gs.length ≤ 2000) (hsm : Small gs) :
    Calls Try.prog 10 #[.slice A gs.length c, .int .i64 most] w fun e w' => TrQ gs most w e w' := by
  by_cases h : PlainG gs ∧ 1 ≤ most ∧ most ≤ 4096
  · obtain ⟨hp, h1, h2⟩ := h
    obtain ⟨ns0, hg0, -⟩ := hp.2
    obtain ⟨ns, hg, ht, hpn⟩ := tree_of hg0 hp
    obtain ⟨m, rfl⟩ : ∃ m : Nat, most = m := ⟨most.toNat, by omega⟩
    refine (tree_ok A c gs ns m (by omega) (by omega) w hN hg ht hpn).mono ?_
    rintro e w' ⟨hb, h3⟩
    refine ⟨hb, .inr ⟨ns, m, rfl, by omega, by omega, hg, ht, hpn, ?_⟩⟩
    cases hq : planN ns m with
    | none =>
      rw [hq] at h3
      exact .inl ⟨rfl, h3⟩
    | some o =>
      rw [hq] at h3
      obtain ⟨A5, c5, go, e1, e2, e3, e4⟩ := h3
      exact .inr ⟨o, A5, c5, go, rfl, e1, e2, e3, e4⟩
  · refine (tree_bad A c gs most w hN hl hsm (fun q => by
      rcases Int.lt_or_le most 1 with r | r
      · exact .inl r
      · exact .inr (by
          rcases Int.lt_or_le 4096 most with r2 | r2
          · exact r2
          · exact absurd ⟨q, r, r2⟩ h))).mono ?_
    rintro e w' ⟨he, hb⟩
    exact ⟨hb, .inl ⟨he, h⟩⟩
theorem mod_most {x : Int} (h0 : 0 ≤ x) (n : Int) (hn : 1 ≤ n) : ∃ k : Nat, Int.tmod x n = (k : Int) ∧ (k : Int) < n := by
  have h1 := Int.tmod_nonneg n h0
  have h2 := Int.tmod_lt_of_pos x (b := n) (by omega)
  exact ⟨(Int.tmod x n).toNat, by omega, by omega⟩
set_option maxHeartbeats 2000000 in
theorem lawAgain_any (A : Option Addr) (c : Nat) (gs : List Gd) (x : Int) (w : World) (hN : Nds w w.heap.size A gs) (hc : gs.length ≤ c) (hm : gs.length ≤ maxLen) (hsm : Small gs) (hx : 0 ≤ x) :
    Calls Try.prog 9 #[.slice A gs.length c, .int .u16 x] w fun e w' => e = .returned (.bool true) ∧ Below w.heap.size w w' := by
  have hsh := shown8_any w
  have HF : Hid (∀ u, Calls Try.prog 11 #[.slice A gs.length c] u fun e w' => e = .returned (.slice A (gs.take 60).length c) ∧ w' = u) := fun u => few8_any A c gs u hc hm
  have hN4 := nds_take hN 60
  have hs4 := small_take hsm 60
  have hl4 : (gs.take 60).length ≤ 2000 := by rw [List.length_take]; omega
  obtain ⟨k, hk, hk4⟩ := mod_most hx 4096 (by omega)
  obtain ⟨m, hm1⟩ : ∃ m : Nat, (k : Int) + 1 = (m : Int) := ⟨k + 1, by omega⟩
  clear hN hc hm hsm
  generalize gs.length = n at *
  generalize gs.take 60 = g4 at *
  clear gs
  have HT : Hid (∀ u, Below w.heap.size w u → Calls Try.prog 10 #[.slice A g4.length c, .int .i64 (m : Int)] u fun e w' => TrQ g4 (m : Int) u e w') := fun u hb => tree_q A c g4 (m : Int) u ((hN4.below hb).more hb.size) hl4 hs4
  clear hN4 hs4 hl4
  go_enter Try.func9, Try.ntmps9
  go_wp2_with fail
  refine hsh.mono ?_
  rintro e w1 ⟨rfl, b1⟩
  have HB1 := hidd b1
  clear hsh b1
  go_wp2_with fail
  refine (HF.out w1).mono ?_
  rintro e u ⟨rfl, rfl⟩
  have hc := HT.out u HB1.out
  clear HF HT
  generalize hgl : g4.length = n4 at *
  clear hgl
  go_wp2_with fail
  refine hc.mono ?_
  rintro e w2 ⟨b2, h⟩
  have HB2 := hidd (HB1.out.trans (b2.mono HB1.out.size))
  clear hc b2 HB1
  rcases h with ⟨rfl, -⟩ | ⟨ns, m', hmm, p1, p2, hg, ht, hp, ⟨hq, rfl⟩ | ⟨o, A2, c2, go, hq, rfl, N2, G2, -⟩⟩
  · go_wp2
    go_ret
    exact ⟨rfl, HB2.out⟩
  · go_wp2
    go_ret
    exact ⟨rfl, HB2.out⟩
  · have hmm2 : m = m' := by omega
    subst hmm2
    obtain ⟨t1, t2, -⟩ := plan_means ht hp hq
    have hq2 := plan_again ht hp hq
    have hc := tree_ok A2 c2 go o m p1 p2 w2 N2 G2 t1 t2
    rw [hq2] at hc
    have HS : Hid (∀ (u : World) (A3 : Option Addr) (c3 : Nat) (g3 : List Gd), Below w2.heap.size w2 u → Nds u u.heap.size A3 g3 → GN g3 o → Calls Try.prog 14 #[.slice A2 go.length c2, .slice A3 g3.length c3] u fun e w' => e = .returned (.bool true) ∧ Below u.heap.size u w') := fun u A3 c3 g3 hb h1 h2 => same_tree ((N2.below hb).more hb.size) h1 G2 h2 t1
    clear hq hq2 hg ht hp t1 t2 N2 G2 p1 p2 hmm
    generalize go.length = n2 at *
    go_wp2_with fail
    refine hc.mono ?_
    rintro e w3 ⟨b3, A3, c3, g3, rfl, N3, G3, -⟩
    have hs := HS.out w3 A3 c3 g3 b3 N3 G3
    have HB3 := hidd (HB2.out.trans (b3.mono HB2.out.size))
    clear hc b3 HS N3 G3 HB2
    generalize g3.length = n3 at *
    go_wp2_with fail
    refine hs.mono ?_
    rintro e w4 ⟨rfl, b4⟩
    have HB4 := hidd (HB3.out.trans (b4.mono HB3.out.size))
    clear hs b4 HB3
    go_wp2
    go_ret
    exact ⟨rfl, HB4.out⟩
end Go.Proofs.Ytdaaigkmlbpbgaa.Sy.Pl

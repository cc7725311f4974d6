/- The reference of layer 5: a tree; PrintTells. -/
import Derived.Test.YtaagkfiaccmepaaPEe
import Derived.Test.YtaagkfiaccmepaaPSf
import Derived.Test.YtaagkfiaccmepaaPEa
import Derived.Test.YtaagkfiaccmepaaPAo
import Derived.Test.YtaagkfiaccmepaaPJb
import Derived.Test.YtaagkfiaccmepaaPJn
import Derived.Test.YtaagkfiaccmepaaPIn
namespace Go.Proofs.Ytaagkfiaccmepaa.Sy.Pn.Rp
open Go.RowKit
set_option maxRecDepth 100000
set_option linter.unusedVariables false

set_option maxHeartbeats 1000000 in
theorem rtree_any (A : Option Addr) (c : Nat) (gs : List Gd) (w : World) (hx : Nds w w.heap.size A gs) (hlg : gs.length ≤ 2000) (hnm : ∀ g ∈ gs, g.nm.size ≤ maxLen ∧ g.l.length ≤ maxLen) (hT : TV w) :
    Calls Try.prog 34 #[.slice A gs.length c] w fun e w' => TreeR gs w e w' := by
  have hR := refRight_any A c gs w hx hlg hnm
  have HX := hidd hx
  obtain ⟨N, hN⟩ : ∃ N, gs.length = N := ⟨_, rfl⟩
  rw [hN] at hR hlg ⊢
  have HN := hidd hN
  clear hnm hx hN
  go_enter Try.func34, Try.ntmps34
  go_wp2_with fail
  refine hR.mono ?_
  rintro e w1 ⟨y, rfl, hy, b1⟩
  cases y with
  | false =>
    have HNR : Hid (¬ RightG gs) := fun h => Bool.false_ne_true (hy.2 h)
    have HB := hidd b1
    clear hy b1 hR
    go_wp2
    go_ret2
    exact ⟨.inr ⟨HNR.out, rfl⟩, HB.out⟩
  | true =>
    obtain ⟨ns, hrn⟩ := rn_of (hy.1 rfl)
    have hl := hrn.gn.1
    have hp := hrn.pos
    have E1 := env_of (b := w1.heap.size) hrn (Nat.le_refl _) ((HX.out.below b1).more b1.size) (hT.below b1)
    have hk := rnode_all (c := c) E1 gs.length (gs.length - 1) (by omega) (by omega) w1 (Below.refl _ _) (by have := hrn.size; rw [hl]; unfold treeT at this; omega)
    have HRN := hidd hrn
    have hi1 : ((N : Int) - 1) = ((gs.length - 1 : Nat) : Int) := by have := HN.out; omega
    have HTT : Hid (nodeT ns gs.length (ns.getD (gs.length - 1) nd0) = treeT ns) := by show _ = _; unfold treeT; rw [hl]
    rw [HTT.out, HN.out] at hk
    rw [HN.out] at hi1
    have HB := hidd b1
    have hN1 : 1 ≤ N := by rw [← HN.out, hl]; exact hp
    obtain ⟨j, hj⟩ : ∃ j, N - 1 = j := ⟨_, rfl⟩
    rw [hj] at hk hi1
    have hjn : N = j + 1 := by omega
    subst hjn
    clear hy b1 hR hl hp E1 hrn HTT hj hT hi1
    push_cast
    go_wp2_with fail
    refine hk.mono ?_
    rintro e w2 ⟨s, rfl, hs, b2⟩
    have HB2 := hidd (HB.out.trans (b2.mono HB.out.size))
    have HS : Hid (s = txt (treeT ns)) := txt_of hs
    clear hk hs b2 HB
    go_wp2
    go_ret2
    exact ⟨.inl ⟨ns, HRN.out, by rw [HS.out]; rfl⟩, HB2.out⟩
end Go.Proofs.Ytaagkfiaccmepaa.Sy.Pn.Rp

namespace Go.Proofs.Ytaagkfiaccmepaa.Sy.Pl
open Go.RowKit Go.Proofs.Ytaagkfiaccmepaa.Sy.Ap Go.Proofs.Ytaagkfiaccmepaa.Sy.Lg Go.Proofs.Ytaagkfiaccmepaa.Sy.Pn Go.Proofs.Ytaagkfiaccmepaa.Sy.Pn.Rp
set_option maxRecDepth 100000
set_option linter.unusedVariables false

abbrev pA1 : ByteArray := { data := #[97, 123, 50, 125] }
abbrev pA2 : ByteArray := { data := #[97, 123, 48, 44, 50, 125] }
abbrev pA3 : ByteArray := { data := #[91, 97, 98, 93, 123, 50, 44, 57, 125] }
abbrev pA4 : ByteArray := { data := #[97, 123, 53, 44, 125] }
abbrev abS : Nat → Bool := negS false (uniS (uniS noS (rngS 97 97)) (rngS 98 98))
abbrev pN1 : List Nd := [ndBytes (oneS 97), ndRep 0 2 2]
abbrev pN2 : List Nd := [ndBytes (oneS 97), ndRep 0 0 2]
abbrev pN3 : List Nd := [ndBytes abS, ndRep 0 2 9]
abbrev pN4 : List Nd := [ndBytes (oneS 97), ndRep 0 5 (-1)]
abbrev pO1 : List Nd := [ndBytes (oneS 97), ndBytes (oneS 97), ndCat [0, 1]]
abbrev pO2 : List Nd := [ndEmpty, ndBytes (oneS 97), ndEmpty, ndBytes (oneS 97), ndAlt [2, 3], ndCat [1, 4], ndAlt [0, 5]]
abbrev pO3 : List Nd := [ndBytes abS, ndRep 0 2 9]
abbrev pO4 : List Nd := [ndBytes (oneS 97), ndRep 0 5 5, ndBytes (oneS 97), ndRep 2 0 (-1), ndCat [1, 3]]
theorem pp1 : parse (bs pA1) = .ok pN1 := rfl
theorem pp2 : parse (bs pA2) = .ok pN2 := rfl
theorem pp3 : parse (bs pA3) = .ok pN3 := rfl
theorem pp4 : parse (bs pA4) = .ok pN4 := rfl
theorem po1 : planN pN1 3 = some pO1 := rfl
theorem po2 : planN pN2 3 = some pO2 := rfl
theorem po3 : planN pN3 3 = some pO3 := rfl
theorem po4 : planN pN4 3 = some pO4 := rfl
theorem pt1 : treeT pO1 = [97, 97] := by decide +kernel
theorem pt2 : treeT pO2 = [124, 97, 40, 124, 97, 41] := by decide +kernel
theorem pt3 : treeT pO3 = [91, 97, 45, 98, 93, 123, 50, 44, 57, 125] := by decide +kernel
theorem pt4 : treeT pO4 = [97, 123, 53, 125, 97, 42] := by decide +kernel
set_option maxHeartbeats 1000000 in
theorem of_any {s : ByteArray} (hz : s.size ≤ 1024) (hS : smpB s = true) {ns o : List Nd} (hp : parse (bs s) = .ok ns) (hpl : PlainN ns) (ho : planN ns 3 = some o) {t : List Nat} (ht : treeT o = t) (w : World) :
    Calls Try.prog 19 #[.string s, .int .i64 3] w fun e w' => e = .returned (.string (txt t)) ∧ Below w.heap.size w w' := by
  have hpa := Rf.refparse_any s (smp_of hS hz) ns hp w
  have htn := tree_parse (bs_b s) hp
  obtain ⟨t1, t2, -⟩ := plan_means htn hpl ho
  have HT : Hid (∀ (u : World) (A : Option Addr) (c : Nat) (gs : List Gd), Nds u u.heap.size A gs → GN gs ns → Calls Try.prog 5 #[.slice A gs.length c, .int .i64 3] u fun e w' => TrR (some o) u e w') := fun u A c gs h1 h2 => by
    have := tree_ok A c gs ns 3 (by omega) (by omega) u h1 h2 htn hpl
    rw [ho] at this
    exact this
  have HP : Hid (∀ (u : World) (A : Option Addr) (c : Nat) (go : List Gd), Nds u u.heap.size A go → GN go o → Calls Try.prog 34 #[.slice A go.length c] u fun e w' => e = .returned (.tuple #[.string (txt t), .bool true]) ∧ Below u.heap.size u w') := fun u A c go h1 h2 => by
    have hr : RN go o := ⟨h2, t1.shp, t1.pos, t1.few, t1.frs⟩
    refine (rtree_any A c go u h1 (by have := h2.1; have := t1.few; omega) (rn_lens hr) trivial).mono ?_
    rintro e w' ⟨⟨ms, hm, rfl⟩ | ⟨hn, _⟩, hb⟩
    · exact ⟨by rw [treeT_congr (nes_of hm.gn h2), ht], hb⟩
    · exact absurd hr.right hn
  clear hp hpl ho ht htn t1 t2 hS hz
  generalize txt t = tt at *
  go_enter Try.func19, Try.ntmps19
  go_wp2_with fail
  refine hpa.mono ?_
  rintro e w1 ⟨A, c, gs, rfl, hN, hG, b1⟩
  have hc := HT.out w1 A c gs hN hG
  have HB1 := hidd b1
  clear hpa hN hG b1 HT
  generalize gs.length = n at *
  go_wp2_with fail
  refine hc.mono ?_
  rintro e w2 ⟨b2, A2, c2, go, rfl, N2, G2, -⟩
  have hc2 := HP.out w2 A2 c2 go N2 G2
  have HB2 := hidd (HB1.out.trans (b2.mono HB1.out.size))
  clear hc N2 G2 b2 HB1 HP
  generalize go.length = n2 at *
  go_wp2_with fail
  refine hc2.mono ?_
  rintro e w3 ⟨rfl, b3⟩
  have HB3 := hidd (HB2.out.trans (b3.mono HB2.out.size))
  clear hc2 b3 HB2
  go_wp2
  go_ret
  exact ⟨rfl, HB3.out⟩
set_option maxHeartbeats 1000000 in
theorem shown8_any (w : World) : Calls Try.prog 8 #[] w fun e w' => e = .returned (.bool true) ∧ Below w.heap.size w w' := by
  have H1 := hidd (fun u => of_any (s := pA1) (by decide) (by decide) pp1 (by intro n hn; simp at hn; rcases hn with e | e <;> (subst e; decide)) po1 pt1 u)
  have H2 := hidd (fun u => of_any (s := pA2) (by decide) (by decide) pp2 (by intro n hn; simp at hn; rcases hn with e | e <;> (subst e; decide)) po2 pt2 u)
  have H3 := hidd (fun u => of_any (s := pA3) (by decide) (by decide) pp3 (by intro n hn; simp at hn; rcases hn with e | e <;> (subst e; show _ ≠ 6; decide)) po3 pt3 u)
  have H4 := hidd (fun u => of_any (s := pA4) (by decide) (by decide) pp4 (by intro n hn; simp at hn; rcases hn with e | e <;> (subst e; decide)) po4 pt4 u)
  have e1 : txt [97, 97] = { data := #[97, 97] } := rfl
  have e2 : txt [124, 97, 40, 124, 97, 41] = { data := #[124, 97, 40, 124, 97, 41] } := rfl
  have e3 : txt [91, 97, 45, 98, 93, 123, 50, 44, 57, 125] = { data := #[91, 97, 45, 98, 93, 123, 50, 44, 57, 125] } := rfl
  have e4 : txt [97, 123, 53, 125, 97, 42] = { data := #[97, 123, 53, 125, 97, 42] } := rfl
  rw [e1] at H1
  rw [e2] at H2
  rw [e3] at H3
  rw [e4] at H4
  clear e1 e2 e3 e4
  go_enter Try.func8, Try.ntmps8
  go_wp2_with fail
  refine (H1.out _).mono ?_
  rintro e w1 ⟨rfl, b1⟩
  go_wp2_with fail
  refine (H2.out _).mono ?_
  rintro e w2 ⟨rfl, b2⟩
  have B2 := hidd (b1.trans (b2.mono b1.size))
  clear b1 b2
  go_wp2_with fail
  refine (H3.out _).mono ?_
  rintro e w3 ⟨rfl, b3⟩
  have B3 := hidd (B2.out.trans (b3.mono B2.out.size))
  clear b3 B2
  go_wp2_with fail
  refine (H4.out _).mono ?_
  rintro e w4 ⟨rfl, b4⟩
  have B4 := hidd (B3.out.trans (b4.mono B3.out.size))
  clear b4 B3
  go_wp2
  go_ret
  exact ⟨rfl, B4.out⟩
end Go.Proofs.Ytaagkfiaccmepaa.Sy.Pl

namespace Go.Proofs.Ytaagkfiaccmepaa.Sy.Pl
open Go.RowKit Go.Proofs.Ytaagkfiaccmepaa.Sy.Lg
set_option maxRecDepth 100000
set_option linter.unusedVariables false

/-- A repetition is a star, or counted, with a bound above most. -/
def CtN (o : List Nd) (most : Nat) (n : Nd) : Prop := n.op = 5 → n.s = noS ∧ n.name = [] ∧ ((n.lo = 0 ∧ n.hi = -1) ∨ ((o.getD (n.l.getD 0 0) nd00).op = 2 ∧ 1 ≤ n.lo ∧ n.lo ≤ n.hi ∧ (most : Int) < n.hi))
def Ct (most : Nat) (o : List Nd) : Prop := ∀ n ∈ o, CtN o most n
def CL (most : Nat) (o o' : List Nd) : Prop := Ct most o' ∧ Low o' ∧ o.length ≤ o'.length ∧ ∃ x, o' = o ++ x
theorem CL.refl {most : Nat} {o : List Nd} (h : Ct most o ∧ Low o) : CL most o o := ⟨h.1, h.2, Nat.le_refl _, [], by simp⟩
theorem CL.trans {most : Nat} {o o1 o2 : List Nd} (h : CL most o o1) (h2 : CL most o1 o2) : CL most o o2 := by
  obtain ⟨x, hx⟩ := h.2.2.2
  obtain ⟨y, hy⟩ := h2.2.2.2
  exact ⟨h2.1, h2.2.1, Nat.le_trans h.2.2.1 h2.2.2.1, x ++ y, by rw [hy, hx, List.append_assoc]⟩
/-- A kid's plan. -/
structure KP (most : Nat) (P : PF) (single : Bool) : Prop where
  cl : ∀ o o', (Ct most o ∧ Low o) → P o = some o' → CL most o o' ∧ o.length < o'.length
  one : ∀ o o', single = true → P o = some o' → ∃ n, n.op = 2 ∧ o' = o ++ [n]
section
variable {most : Nat} {P : PF} {single : Bool} (hP : KP most P single)
include hP
end
end Go.Proofs.Ytaagkfiaccmepaa.Sy.Pl

namespace Go.Proofs.Ytaagkfiaccmepaa.Sy.Pl
open Go.RowKit Go.Proofs.Ytaagkfiaccmepaa.Sy.Lg
set_option maxRecDepth 100000
set_option linter.unusedVariables false

/-- The same node, but for a bound above most. -/
structure SimN (most : Nat) (n m : Nd) : Prop where
  op : m.op = n.op
  s : m.s = n.s
  l : m.l = n.l
  lo : m.lo = n.lo
  name : m.name = n.name
  hi : m.hi = n.hi ∨ (n.op = 5 ∧ (most : Int) < n.hi ∧ n.hi ≤ m.hi)
theorem SimN.refl (most : Nat) (n : Nd) : SimN most n n := ⟨rfl, rfl, rfl, rfl, rfl, .inl rfl⟩
structure Sim (most : Nat) (o p : List Nd) : Prop where
  len : p.length = o.length
  at_ : ∀ (i : Nat) (n m : Nd), o[i]? = some n → p[i]? = some m → SimN most n m
theorem Sim.snoc {most : Nat} {o p : List Nd} (h : Sim most o p) {n m : Nd} (hn : SimN most n m) : Sim most (o ++ [n]) (p ++ [m]) := by
  refine ⟨by simp [h.len], fun i a b ha hb => ?_⟩
  rcases Nat.lt_or_ge i o.length with r | r
  · rw [List.getElem?_append_left r] at ha
    rw [List.getElem?_append_left (by rw [h.len]; exact r)] at hb
    exact h.at_ i a b ha hb
  · rw [List.getElem?_append_right r] at ha
    rw [List.getElem?_append_right (by rw [h.len]; exact r), h.len] at hb
    have hi : i = o.length := by
      have := (List.getElem?_eq_some_iff.1 ha).1
      simp at this
      omega
    subst hi
    simp at ha hb
    subst ha hb
    exact hn
/-- Both or neither. -/
inductive SimO (most : Nat) : Option (List Nd) → Option (List Nd) → Prop
  | no : SimO most none none
  | yes {o p : List Nd} : Sim most o p → SimO most (some o) (some p)
inductive SimQ (most : Nat) : Option (List Nd × List Nat) → Option (List Nd × List Nat) → Prop
  | no : SimQ most none none
  | yes {o p : List Nd} {rs : List Nat} : Sim most o p → SimQ most (some (o, rs)) (some (p, rs))
theorem SimO.bind {most : Nat} {a b : Option (List Nd)} (h : SimO most a b) {f g : List Nd → Option (List Nd)} (hf : ∀ o p, Sim most o p → SimO most (f o) (g p)) : SimO most (a.bind f) (b.bind g) := by
  cases h with
  | no => exact .no
  | yes q => exact hf _ _ q
theorem SimQ.bind {most : Nat} {a b : Option (List Nd × List Nat)} (h : SimQ most a b) {f g : List Nd × List Nat → Option (List Nd)} (hf : ∀ o p rs, Sim most o p → SimO most (f (o, rs)) (g (p, rs))) : SimO most (a.bind f) (b.bind g) := by
  cases h with
  | no => exact .no
  | yes q => exact hf _ _ _ q
def SimP (most : Nat) (P Q : PF) : Prop := ∀ o p, Sim most o p → SimO most (P o) (Q p)
section
variable {most : Nat} {P Q : PF} (hP : SimP most P Q)
include hP
end
end Go.Proofs.Ytaagkfiaccmepaa.Sy.Pl

namespace Go.Proofs.Ytaagkfiaccmepaa.Sy.Ap
open Go.RowKit
set_option maxRecDepth 100000
set_option linter.unusedVariables false

theorem same_tree {A A' : Option Addr} {c c' : Nat} {gs gs' : List Gd} {ns : List Nd} {w : World} (hN : Nds w w.heap.size A gs) (hN' : Nds w w.heap.size A' gs') (hg : GN gs ns) (hg' : GN gs' ns) (ht : TreeN ns) :
    Calls Try.prog 9 #[.slice A gs.length c, .slice A' gs'.length c'] w fun e w' => e = .returned (.bool true) ∧ Below w.heap.size w w' :=
  same_any A A' c c' gs gs' w hN hN' (hg.leq hg') (by have := gn_few hg ht; omega) (fun g h => by have := gn_kids hg ht g h; omega)
end Go.Proofs.Ytaagkfiaccmepaa.Sy.Ap

namespace Go.Proofs.Ytaagkfiaccmepaa.Sy.Pl
open Go.RowKit Go.Proofs.Ytaagkfiaccmepaa.Sy.Ap Go.Proofs.Ytaagkfiaccmepaa.Sy.Lg
set_option maxRecDepth 100000
set_option linter.unusedVariables false

theorem few8_ (A : Option Addr) (c n : Nat) (w : World) (hc : n ≤ c) (hm : n ≤ maxLen) :
    Calls Try.prog 6 #[.slice A n c] w fun e w' => e = .returned (.slice A (min n 60) c) ∧ w' = w := by
  unfold maxLen at hm
  by_cases h : n ≤ 60
  · have e1 : min n 60 = n := by omega
    have e2 : min (n : Int) 60 = (n : Int) := by omega
    rw [e1]
    have hci : (n : Int) ≤ (c : Int) := by omega
    have hn0 : (0 : Int) ≤ (n : Int) := by omega
    clear h e1 hc
    go_enter Try.func6, Try.ntmps6
    go_wp2
    go_ret
    exact ⟨rfl, rfl⟩
  · have e1 : min n 60 = 60 := by omega
    have e2 : min (n : Int) 60 = 60 := by omega
    rw [e1]
    have hci : (60 : Int) ≤ (c : Int) := by omega
    have hcn : 60 ≤ c := by omega
    clear h e1 hc
    go_enter Try.func6, Try.ntmps6
    go_wp2
    go_ret
    exact ⟨rfl, rfl⟩
theorem few8_any (A : Option Addr) (c : Nat) (gs : List Gd) (w : World) (hc : gs.length ≤ c) (hm : gs.length ≤ maxLen) :
    Calls Try.prog 6 #[.slice A gs.length c] w fun e w' => e = .returned (.slice A (gs.take 60).length c) ∧ w' = w := by
  have := few8_ A c gs.length w hc hm
  rw [List.length_take, Nat.min_comm]
  exact this
end Go.Proofs.Ytaagkfiaccmepaa.Sy.Pl

namespace Go.Proofs.Ytaagkfiaccmepaa.Sy.Pl.Qr
open Go.RowKit Go.Proofs.Ytaagkfiaccmepaa.Sy.Ap Go.Proofs.Ytaagkfiaccmepaa.Sy.Lg
set_option maxRecDepth 100000
set_option linter.unusedVariables false

set_option maxHeartbeats 1000000 in
theorem rtree_bad (A : Option Addr) (c : Nat) (gs : List Gd) (most : Int) (w : World) (hN : Nds w w.heap.size A gs) (hl : gs.length ≤ 2000) (hsm : Small gs) (hno : PlainG gs → most < 1 ∨ 4096 < most) :
    Calls Try.prog 7 #[.slice A gs.length c, .int .i64 most] w fun e w' => e = .returned (.tuple #[.slice none 0 0, .int .i64 1]) ∧ Below w.heap.size w w' := by
  have hN := plain_any A c gs w hN hl hsm
  have HNO := hidd hno
  clear hl hsm hno
  generalize gs.length = n at *
  go_enter Try.func7, Try.ntmps7
  go_wp2_with fail
  refine hN.mono ?_
  rintro e w1 ⟨z, rfl, hz, b1⟩
  have HB := hidd b1
  have HZ := hidd hz
  clear hN b1 hz
  cases z with
  | false =>
    go_wp2
    go_ret2
    exact ⟨rfl, HB.out⟩
  | true =>
    rcases HNO.out (HZ.out.1 rfl) with h | h
    · clear HNO HZ
      go_wp2
      go_ret2
      exact ⟨rfl, HB.out⟩
    · have h1 : ¬ most < 1 := by omega
      clear HNO HZ
      go_wp2
      go_ret2
      exact ⟨rfl, HB.out⟩
set_option maxHeartbeats 1000000 in
theorem rtree_ok (A : Option Addr) (c : Nat) (gs : List Gd) (ns : List Nd) (most : Nat) (m1 : 1 ≤ most) (m2 : most ≤ 4096) (w : World) (hN : Nds w w.heap.size A gs) (hg : GN gs ns) (ht : TreeN ns) (hp : PlainN ns) :
    Calls Try.prog 7 #[.slice A gs.length c, .int .i64 (most : Int)] w fun e w' => TrR (planN ns most) w e w' := by
  have hl : gs.length ≤ 2000 := by have := hg.1; have := ht.few; omega
  have hn := plain_any A c gs w hN hl (gn_sm hg ht)
  have HP := hidd (plain_of hg ht hp)
  have hpos := ht.pos
  have hlen := hg.1
  have HC : Hid (∀ (B b : Nat), PCr B b A c gs (most : Int) (pl ns most (ns.length - 1)) (ns.length - 1)) := fun B b => rplanC m1 hg ht hp (ns.length - 1) (by omega)
  have HN := hidd hN
  have HTR : Hid (∀ o, planN ns most = some o → TreeN o) := fun o ho => (plan_means ht hp ho).1
  obtain ⟨k, hk⟩ : ∃ k, ns.length - 1 = k := ⟨_, rfl⟩
  have hlk : gs.length = k + 1 := by omega
  have HPN : Hid (planN ns most = pl ns most k []) := by show _ = _; unfold planN; rw [hk]
  rw [hk] at HC
  have HLK := hidd hlk
  rw [hlk] at hn ⊢
  obtain ⟨RES, hRES⟩ : ∃ RES, planN ns most = RES := ⟨_, rfl⟩
  rw [hRES] at HPN HTR ⊢
  have hki : ((k + 1 : Nat) : Int) - 1 = (k : Int) := by omega
  have hk9 : k ≤ 2000 := by omega
  clear hl hg ht hp hN hpos hlen hk hlk hRES
  generalize k + 1 = n at *
  go_enter Try.func7, Try.ntmps7
  go_wp2_with fail
  refine hn.mono ?_
  rintro e w1 ⟨z, rfl, hz, b1⟩
  have hzt : z = true := hz.2 HP.out
  subst hzt
  have HB := hidd b1
  clear hn b1 hz HP
  have m3 : ¬ ((most : Int) < 1) := by omega
  have m4 : ¬ ((4096 : Int) < (most : Int)) := by omega
  have R1 := RowA.new w1 46 #[.slice A n c, .int .i64 (most : Int), .slice none 0 0, .bool false]
  have hW1 : Below w1.heap.size w1 (w1.alloc (.cells #[.slice A n c, .int .i64 (most : Int), .slice none 0 0, .bool false] 46)) := (Below.refl _ _).alloc (Nat.le_refl _) _
  go_upto_region 4 with fail
  generalize w1.alloc (.cells #[.slice A n c, .int .i64 (most : Int), .slice none 0 0, .bool false] 46) = w2 at *
  have hS : RS (fun _ => False) w1.heap.size w1.heap.size A c gs (most : Int) w2 (some []) := by
    refine ⟨.slice none 0 0, [], ⟨?_, World.ownsRow_nil _ _ _ _, fun x hx => absurd hx List.not_mem_nil, Nat.le_refl _⟩, fun o ho => ?_, (fun h => by cases h), Nat.zero_le _, fun q h => h.elim⟩
    · rw [HLK.out]
      exact R1
    · cases ho
      exact ⟨rfl, fun i hi => absurd hi (Nat.not_lt_zero _)⟩
  have hc := HC.out w1.heap.size w1.heap.size (fun _ => False) w2 (some []) hS (((HN.out.below HB.out).more HB.out.size).below hW1)
  have HB2 := hidd (HB.out.trans (hW1.mono HB.out.size))
  have HW := hidd HB.out.size
  clear hS R1 hW1 HC HN HB m3 m4
  rw [Option.bind_some, ← HPN.out] at hc
  clear HPN
  go_wp2_with fail
  refine hc.mono ?_
  rintro e w3 ⟨b3, z3, rfl, -, S3⟩
  have HB3 := hidd (HB2.out.trans (b3.bel.mono HW.out))
  clear b3 hc HB2
  have d3 := S3.lens.2.2.2.2
  cases RES with
  | none =>
    have d3 : w3.cell? ⟨w1.heap.size, 3, none⟩ = some (.bool true) := d3
    clear S3
    go_wp2
    go_ret2
    exact ⟨HB3.out, rfl⟩
  | some o =>
    have d3 : w3.cell? ⟨w1.heap.size, 3, none⟩ = some (.bool false) := d3
    obtain ⟨nv, l, p, gn, -, r2, -⟩ := S3
    have gn := gn o rfl
    obtain ⟨A5, c5, rfl, N5, hc5⟩ := own_nds p.nodes (fun x hx => its_own (p.kids x hx) rfl)
    have t5 := HTR.out o rfl
    have d2 : w3.cell? ⟨w1.heap.size, 2, none⟩ = some (.slice A5 l.length c5) := p.cells.2.2.1
    have hb4 : w1.heap.size < w3.heap.size := p.row.lt
    have hc := refRight_any A5 c5 (l.map (·.1)) w3 N5 (by rw [List.length_map]; omega) (gn_sm gn t5)
    have HRT := hidd (tree_rg gn t5)
    rw [List.length_map] at hc
    have HN5 := hidd N5
    have HG5 := hidd gn
    have HC5 := hidd hc5
    obtain ⟨m, hm⟩ : ∃ m, l.length = m := ⟨_, rfl⟩
    have HM : Hid ((l.map (·.1)).length = m) := by show _ = _; rw [List.length_map, hm]
    rw [hm] at d2 hc HC5
    clear N5 gn hc5 p r2 hm t5
    go_wp2_with fail
    refine hc.mono ?_
    rintro e w4 ⟨z4, rfl, hz4, b4⟩
    have hzt : z4 = true := hz4.2 HRT.out
    subst hzt
    have d2 := (b4.cell (p := ⟨w1.heap.size, 2, none⟩) hb4).trans d2
    have HB4 := hidd (HB3.out.trans (b4.mono HB3.out.size))
    have HN4 := hidd ((HN5.out.below b4).more b4.size)
    clear hc hz4 b4 HB3 d3
    go_wp2
    go_ret2
    refine ⟨HB4.out, A5, c5, l.map (·.1), ?_, HN4.out, HG5.out, by rw [HM.out]; exact HC5.out⟩
    rw [HM.out]
    rfl
end Go.Proofs.Ytaagkfiaccmepaa.Sy.Pl.Qr

/- A set as it stands in a pattern is read as that set. Plain lists. -/
import Derived.Test.YtahhiajliomcfaaPDh
import Derived.Test.YtahhiajliomcfaaPSc
import Derived.Test.YtahhiajliomcfaaPJb
import Derived.Test.YtahhiajliomcfaaPJn
import Derived.Test.YtahhiajliomcfaaPAg
import Derived.Test.YtahhiajliomcfaaPIn
import Derived.Test.YtahhiajliomcfaaPGI
import Derived.Test.YtahhiajliomcfaaPHg
namespace Go.Proofs.Ytahhiajliomcfaa.Sy.Pn
set_option maxRecDepth 100000
set_option linter.unusedVariables false

def foldS (q : Nat → Bool) (L : List (Int × Int)) : Nat → Bool := L.foldl (fun q x => uniS q (rngS x.1.toNat x.2.toNat)) q
/-- What is read of a set's text. -/
def qS (s : Nat → Bool) : Nat → Bool :=
  if (spn s).length = 1 ∧ ((spn s).getD 0 (0, 0)).1 = ((spn s).getD 0 (0, 0)).2 then oneS ((spn s).getD 0 (0, 0)).1.toNat else if eqDot s then dotS else foldS noS (spn s)
end Go.Proofs.Ytahhiajliomcfaa.Sy.Pn

namespace Go.Proofs.Ytahhiajliomcfaa.Sy.Pn
set_option maxRecDepth 100000
set_option linter.unusedVariables false

/-- A node as it is read again. -/
def cN (n : Nd) : Nd := if n.op = 1 then ndEmpty else if n.op = 2 then ndBytes (qS n.s) else if n.op = 3 then ndCat n.l else if n.op = 4 then ndAlt n.l else if n.op = 5 then ndRep (n.l.getD 0 0) n.lo n.hi else ndRef n.name
section
variable {ns : List Nd}
def itT (ns : List Nd) (f k : Nat) : List Nat := wrapT (encB (ns.getD k nd0).op 3) (nodeT ns f (ns.getD k nd0))
def alT (ns : List Nd) (f k : Nat) : List Nat := wrapT (encB (ns.getD k nd0).op 4) (nodeT ns f (ns.getD k nd0))
/-- Reading goes on so. -/
def Rd (S : List Nat) (i j : Nat) (N N' : List Nd) (ks : List Nat) (st : List (List Nat × List Nat)) : Prop := ∀ aa I, run S ⟨i, N, st, aa, I⟩ = run S ⟨j, N', st, aa, I ++ ks⟩
def AA (ns : List Nd) (f : Nat) : Prop := ∀ (c : Nat) (n : Nd) (e : Nat), c < f → ns[c]? = some n → Forest ns e c n.l → ∀ (p r : List Nat) (st : List (List Nat × List Nat)), st.length + (itT ns f c).count 40 ≤ 64 →
  Rd (p ++ itT ns f c ++ r) p.length (p.length + (itT ns f c).length) ((ns.map cN).take e) ((ns.map cN).take (c + 1)) [c] st
theorem flat_snoc (g : Nat → List Nat) (xs : List Nat) (k : Nat) : (xs ++ [k]).flatMap g = xs.flatMap g ++ g k := by simp
theorem rows (f : Nat) (hA : AA ns f) {a b : Nat} {ks : List Nat} (h : Forest ns a b ks) : (∀ k ∈ ks, k < f) → ∀ (p r : List Nat) (st : List (List Nat × List Nat)), st.length + (ks.flatMap (itT ns f)).count 40 ≤ 64 →
    Rd (p ++ ks.flatMap (itT ns f) ++ r) p.length (p.length + (ks.flatMap (itT ns f)).length) ((ns.map cN).take a) ((ns.map cN).take b) ks st := by
  induction h with
  | nil a => intro _ p r st _ aa I; simp
  | @snoc a b c ks n h1 hn h2 ih1 ih2 =>
    intro hk p r st hst aa I
    rw [flat_snoc] at hst ⊢
    rw [List.count_append] at hst
    have e1 : p ++ (ks.flatMap (itT ns f) ++ itT ns f c) ++ r = p ++ ks.flatMap (itT ns f) ++ (itT ns f c ++ r) := by simp
    have e2 : p ++ (ks.flatMap (itT ns f) ++ itT ns f c) ++ r = (p ++ ks.flatMap (itT ns f)) ++ itT ns f c ++ r := by simp
    have q1 := ih1 (fun k hk' => hk k (by simp [hk'])) p (itT ns f c ++ r) st (by omega) aa I
    have q2 := hA c n b (hk c (by simp)) hn h2 (p ++ ks.flatMap (itT ns f)) r st (by omega) aa (I ++ ks)
    rw [e1, q1, ← e1, e2, show p.length + (ks.flatMap (itT ns f)).length = (p ++ ks.flatMap (itT ns f)).length from by simp, q2]
    simp [Nat.add_assoc]
/-- A row of an alternative. -/
def RR (ns : List Nd) (f : Nat) : Prop := ∀ (c : Nat) (n : Nd) (e : Nat), c < f → ns[c]? = some n → Forest ns e c n.l → ∀ (p r : List Nat) (st : List (List Nat × List Nat)) (aa : List Nat), st.length + (alT ns f c).count 40 ≤ 64 →
  ∃ N1 I1, run (p ++ alT ns f c ++ r) ⟨p.length, (ns.map cN).take e, st, aa, []⟩ = run (p ++ alT ns f c ++ r) ⟨p.length + (alT ns f c).length, N1, st, aa, I1⟩ ∧ mkRow N1 I1 = ((ns.map cN).take (c + 1), c)
/-! The parts that are no kids. -/
end
end Go.Proofs.Ytahhiajliomcfaa.Sy.Pn

namespace Go.Proofs.Ytahhiajliomcfaa.Sy.Pn.Rp
open Go.RowKit
set_option maxRecDepth 100000
set_option linter.unusedVariables false
set_option linter.unusedSimpArgs false

structure RkS (w0 : World) (q : Nat) (cs : Array Value) (u : World) : Prop where
  box : RowA u q 42 cs
  bel : Below w0.heap.size w0 u
theorem RkS.below {w0 : World} {q : Nat} {cs : Array Value} {u u' : World} (h : RkS w0 q cs u) (hb : Below u.heap.size u u') : RkS w0 q cs u' := ⟨h.box.below hb h.box.lt, h.bel.trans (hb.mono h.bel.size)⟩
section
variable {W0 : World} {B b N c : Nat} {A : Option Addr} {gs : List Gd} {ns : List Nd}
end
end Go.Proofs.Ytahhiajliomcfaa.Sy.Pn.Rp

namespace Go.Proofs.Ytahhiajliomcfaa.Sy.Pl
open Go.RowKit Go.Proofs.Ytahhiajliomcfaa.Sy.Lg
set_option maxRecDepth 100000
set_option linter.unusedVariables false

/-- A repetition is a star, or counted, with a bound above most. -/
def CtN (o : List Nd) (most : Nat) (n : Nd) : Prop := n.op = 5 → n.s = noS ∧ n.name = [] ∧ ((n.lo = 0 ∧ n.hi = -1) ∨ ((o.getD (n.l.getD 0 0) nd00).op = 2 ∧ 1 ≤ n.lo ∧ n.lo ≤ n.hi ∧ (most : Int) < n.hi))
def Ct (most : Nat) (o : List Nd) : Prop := ∀ n ∈ o, CtN o most n
def CL (most : Nat) (o o' : List Nd) : Prop := Ct most o' ∧ Low o' ∧ o.length ≤ o'.length ∧ ∃ x, o' = o ++ x
theorem CL.refl {most : Nat} {o : List Nd} (h : Ct most o ∧ Low o) : CL most o o := ⟨h.1, h.2, Nat.le_refl _, [], by simp⟩
theorem CL.trans {most : Nat} {o o1 o2 : List Nd} (h : CL most o o1) (h2 : CL most o1 o2) : CL most o o2 := by
  obtain ⟨x, hx⟩ := h.2.2.2
  obtain ⟨y, hy⟩ := h2.2.2.2
  exact ⟨h2.1, h2.2.1, Nat.le_trans h.2.2.1 h2.2.2.1, x ++ y, by rw [hy, hx, List.append_assoc]⟩
/-- A kid's plan. -/
structure KP (most : Nat) (P : PF) (single : Bool) : Prop where
  cl : ∀ o o', (Ct most o ∧ Low o) → P o = some o' → CL most o o' ∧ o.length < o'.length
  one : ∀ o o', single = true → P o = some o' → ∃ n, n.op = 2 ∧ o' = o ++ [n]
section
variable {most : Nat} {P : PF} {single : Bool} (hP : KP most P single)
include hP
end
end Go.Proofs.Ytahhiajliomcfaa.Sy.Pl

namespace Go.Proofs.Ytahhiajliomcfaa.Sy.Pl
open Go.RowKit Go.Proofs.Ytahhiajliomcfaa.Sy.Lg
set_option maxRecDepth 100000
set_option linter.unusedVariables false

/-- The same node, but for a bound above most. -/
structure SimN (most : Nat) (n m : Nd) : Prop where
  op : m.op = n.op
  s : m.s = n.s
  l : m.l = n.l
  lo : m.lo = n.lo
  name : m.name = n.name
  hi : m.hi = n.hi ∨ (n.op = 5 ∧ (most : Int) < n.hi ∧ n.hi ≤ m.hi)
theorem SimN.refl (most : Nat) (n : Nd) : SimN most n n := ⟨rfl, rfl, rfl, rfl, rfl, .inl rfl⟩
structure Sim (most : Nat) (o p : List Nd) : Prop where
  len : p.length = o.length
  at_ : ∀ (i : Nat) (n m : Nd), o[i]? = some n → p[i]? = some m → SimN most n m
theorem Sim.snoc {most : Nat} {o p : List Nd} (h : Sim most o p) {n m : Nd} (hn : SimN most n m) : Sim most (o ++ [n]) (p ++ [m]) := by
  refine ⟨by simp [h.len], fun i a b ha hb => ?_⟩
  rcases Nat.lt_or_ge i o.length with r | r
  · rw [List.getElem?_append_left r] at ha
    rw [List.getElem?_append_left (by rw [h.len]; exact r)] at hb
    exact h.at_ i a b ha hb
  · rw [List.getElem?_append_right r] at ha
    rw [List.getElem?_append_right (by rw [h.len]; exact r), h.len] at hb
    have hi : i = o.length := by
      have := (List.getElem?_eq_some_iff.1 ha).1
      simp at this
      omega
    subst hi
    simp at ha hb
    subst ha hb
    exact hn
/-- Both or neither. -/
inductive SimO (most : Nat) : Option (List Nd) → Option (List Nd) → Prop
  | no : SimO most none none
  | yes {o p : List Nd} : Sim most o p → SimO most (some o) (some p)
inductive SimQ (most : Nat) : Option (List Nd × List Nat) → Option (List Nd × List Nat) → Prop
  | no : SimQ most none none
  | yes {o p : List Nd} {rs : List Nat} : Sim most o p → SimQ most (some (o, rs)) (some (p, rs))
theorem SimO.bind {most : Nat} {a b : Option (List Nd)} (h : SimO most a b) {f g : List Nd → Option (List Nd)} (hf : ∀ o p, Sim most o p → SimO most (f o) (g p)) : SimO most (a.bind f) (b.bind g) := by
  cases h with
  | no => exact .no
  | yes q => exact hf _ _ q
theorem SimQ.bind {most : Nat} {a b : Option (List Nd × List Nat)} (h : SimQ most a b) {f g : List Nd × List Nat → Option (List Nd)} (hf : ∀ o p rs, Sim most o p → SimO most (f (o, rs)) (g (p, rs))) : SimO most (a.bind f) (b.bind g) := by
  cases h with
  | no => exact .no
  | yes q => exact hf _ _ _ q
def SimP (most : Nat) (P Q : PF) : Prop := ∀ o p, Sim most o p → SimO most (P o) (Q p)
section
variable {most : Nat} {P Q : PF} (hP : SimP most P Q)
include hP
end
end Go.Proofs.Ytahhiajliomcfaa.Sy.Pl

namespace Go.Proofs.Ytahhiajliomcfaa.Sy.Pl
open Go.RowKit Go.Proofs.Ytahhiajliomcfaa.Sy.Ap Go.Proofs.Ytahhiajliomcfaa.Sy.Lg
set_option maxRecDepth 100000
set_option linter.unusedVariables false

theorem mod_most {x : Int} (h0 : 0 ≤ x) (n : Int) (hn : 1 ≤ n) : ∃ k : Nat, Int.tmod x n = (k : Int) ∧ (k : Int) < n := by
  have h1 := Int.tmod_nonneg n h0
  have h2 := Int.tmod_lt_of_pos x (b := n) (by omega)
  exact ⟨(Int.tmod x n).toNat, by omega, by omega⟩
end Go.Proofs.Ytahhiajliomcfaa.Sy.Pl

namespace Go.Proofs.Ytahhiajliomcfaa.Sy.Pl.Qr
open Go.RowKit Go.Proofs.Ytahhiajliomcfaa.Sy.Ap Go.Proofs.Ytahhiajliomcfaa.Sy.Lg
set_option maxRecDepth 100000
set_option linter.unusedVariables false

set_option maxHeartbeats 1000000 in
theorem rtree_bad (A : Option Addr) (c : Nat) (gs : List Gd) (most : Int) (w : World) (hN : Nds w w.heap.size A gs) (hl : gs.length ≤ 2000) (hsm : Small gs) (hno : PlainG gs → most < 1 ∨ 4096 < most) :
    Calls Try.prog 51 #[.slice A gs.length c, .int .i64 most] w fun e w' => e = .returned (.tuple #[.slice none 0 0, .int .i64 1]) ∧ Below w.heap.size w w' := by
  have hN := plain_any A c gs w hN hl hsm
  have HNO := hidd hno
  clear hl hsm hno
  generalize gs.length = n at *
  go_enter Try.func51, Try.ntmps51
  go_wp2_with fail
  refine hN.mono ?_
  rintro e w1 ⟨z, rfl, hz, b1⟩
  have HB := hidd b1
  have HZ := hidd hz
  clear hN b1 hz
  cases z with
  | false =>
    go_wp2
    go_ret2
    exact ⟨rfl, HB.out⟩
  | true =>
    rcases HNO.out (HZ.out.1 rfl) with h | h
    · clear HNO HZ
      go_wp2
      go_ret2
      exact ⟨rfl, HB.out⟩
    · have h1 : ¬ most < 1 := by omega
      clear HNO HZ
      go_wp2
      go_ret2
      exact ⟨rfl, HB.out⟩
set_option maxHeartbeats 1000000 in
theorem rtree_ok (A : Option Addr) (c : Nat) (gs : List Gd) (ns : List Nd) (most : Nat) (m1 : 1 ≤ most) (m2 : most ≤ 4096) (w : World) (hN : Nds w w.heap.size A gs) (hg : GN gs ns) (ht : TreeN ns) (hp : PlainN ns) :
    Calls Try.prog 51 #[.slice A gs.length c, .int .i64 (most : Int)] w fun e w' => TrR (planN ns most) w e w' := by
  have hl : gs.length ≤ 2000 := by have := hg.1; have := ht.few; omega
  have hn := plain_any A c gs w hN hl (gn_sm hg ht)
  have HP := hidd (plain_of hg ht hp)
  have hpos := ht.pos
  have hlen := hg.1
  have HC : Hid (∀ (B b : Nat), PCr B b A c gs (most : Int) (pl ns most (ns.length - 1)) (ns.length - 1)) := fun B b => rplanC m1 hg ht hp (ns.length - 1) (by omega)
  have HN := hidd hN
  have HTR : Hid (∀ o, planN ns most = some o → TreeN o) := fun o ho => (plan_means ht hp ho).1
  obtain ⟨k, hk⟩ : ∃ k, ns.length - 1 = k := ⟨_, rfl⟩
  have hlk : gs.length = k + 1 := by omega
  have HPN : Hid (planN ns most = pl ns most k []) := by show _ = _; unfold planN; rw [hk]
  rw [hk] at HC
  have HLK := hidd hlk
  rw [hlk] at hn ⊢
  obtain ⟨RES, hRES⟩ : ∃ RES, planN ns most = RES := ⟨_, rfl⟩
  rw [hRES] at HPN HTR ⊢
  have hki : ((k + 1 : Nat) : Int) - 1 = (k : Int) := by omega
  have hk9 : k ≤ 2000 := by omega
  clear hl hg ht hp hN hpos hlen hk hlk hRES
  generalize k + 1 = n at *
  go_enter Try.func51, Try.ntmps51
  go_wp2_with fail
  refine hn.mono ?_
  rintro e w1 ⟨z, rfl, hz, b1⟩
  have hzt : z = true := hz.2 HP.out
  subst hzt
  have HB := hidd b1
  clear hn b1 hz HP
  have m3 : ¬ ((most : Int) < 1) := by omega
  have m4 : ¬ ((4096 : Int) < (most : Int)) := by omega
  have R1 := RowA.new w1 109 #[.slice A n c, .int .i64 (most : Int), .slice none 0 0, .bool false]
  have hW1 : Below w1.heap.size w1 (w1.alloc (.cells #[.slice A n c, .int .i64 (most : Int), .slice none 0 0, .bool false] 109)) := (Below.refl _ _).alloc (Nat.le_refl _) _
  go_upto_region 4 with fail
  generalize w1.alloc (.cells #[.slice A n c, .int .i64 (most : Int), .slice none 0 0, .bool false] 109) = w2 at *
  have hS : RS (fun _ => False) w1.heap.size w1.heap.size A c gs (most : Int) w2 (some []) := by
    refine ⟨.slice none 0 0, [], ⟨?_, World.ownsRow_nil _ _ _ _, fun x hx => absurd hx List.not_mem_nil, Nat.le_refl _⟩, fun o ho => ?_, (fun h => by cases h), Nat.zero_le _, fun q h => h.elim⟩
    · rw [HLK.out]
      exact R1
    · cases ho
      exact ⟨rfl, fun i hi => absurd hi (Nat.not_lt_zero _)⟩
  have hc := HC.out w1.heap.size w1.heap.size (fun _ => False) w2 (some []) hS (((HN.out.below HB.out).more HB.out.size).below hW1)
  have HB2 := hidd (HB.out.trans (hW1.mono HB.out.size))
  have HW := hidd HB.out.size
  clear hS R1 hW1 HC HN HB m3 m4
  rw [Option.bind_some, ← HPN.out] at hc
  clear HPN
  go_wp2_with fail
  refine hc.mono ?_
  rintro e w3 ⟨b3, z3, rfl, -, S3⟩
  have HB3 := hidd (HB2.out.trans (b3.bel.mono HW.out))
  clear b3 hc HB2
  have d3 := S3.lens.2.2.2.2
  cases RES with
  | none =>
    have d3 : w3.cell? ⟨w1.heap.size, 3, none⟩ = some (.bool true) := d3
    clear S3
    go_wp2
    go_ret2
    exact ⟨HB3.out, rfl⟩
  | some o =>
    have d3 : w3.cell? ⟨w1.heap.size, 3, none⟩ = some (.bool false) := d3
    obtain ⟨nv, l, p, gn, -, r2, -⟩ := S3
    have gn := gn o rfl
    obtain ⟨A5, c5, rfl, N5, hc5⟩ := own_nds p.nodes (fun x hx => its_own (p.kids x hx) rfl)
    have t5 := HTR.out o rfl
    have d2 : w3.cell? ⟨w1.heap.size, 2, none⟩ = some (.slice A5 l.length c5) := p.cells.2.2.1
    have hb4 : w1.heap.size < w3.heap.size := p.row.lt
    have hc := refRight_any A5 c5 (l.map (·.1)) w3 N5 (by rw [List.length_map]; omega) (gn_sm gn t5)
    have HRT := hidd (tree_rg gn t5)
    rw [List.length_map] at hc
    have HN5 := hidd N5
    have HG5 := hidd gn
    have HC5 := hidd hc5
    obtain ⟨m, hm⟩ : ∃ m, l.length = m := ⟨_, rfl⟩
    have HM : Hid ((l.map (·.1)).length = m) := by show _ = _; rw [List.length_map, hm]
    rw [hm] at d2 hc HC5
    clear N5 gn hc5 p r2 hm t5
    go_wp2_with fail
    refine hc.mono ?_
    rintro e w4 ⟨z4, rfl, hz4, b4⟩
    have hzt : z4 = true := hz4.2 HRT.out
    subst hzt
    have d2 := (b4.cell (p := ⟨w1.heap.size, 2, none⟩) hb4).trans d2
    have HB4 := hidd (HB3.out.trans (b4.mono HB3.out.size))
    have HN4 := hidd ((HN5.out.below b4).more b4.size)
    clear hc hz4 b4 HB3 d3
    go_wp2
    go_ret2
    refine ⟨HB4.out, A5, c5, l.map (·.1), ?_, HN4.out, HG5.out, by rw [HM.out]; exact HC5.out⟩
    rw [HM.out]
    rfl
end Go.Proofs.Ytahhiajliomcfaa.Sy.Pl.Qr

namespace Go.Proofs.Ytahhiajliomcfaa.Sy.Gl
open Go.RowKit Go.Proofs.Ytahhiajliomcfaa.Sy.Ap Go.Proofs.Ytahhiajliomcfaa.Sy.Ap.Wk Go.Proofs.Ytahhiajliomcfaa.Sy.Lg Go.Proofs.Ytahhiajliomcfaa.Sy.Pl
set_option maxRecDepth 100000
set_option linter.unusedVariables false

/-- What Of tells, as one reads it. -/
def OfQ (u : World) (G : List Nat × List Pn) (e : Ending) (u' : World) : Prop :=
  Below u.heap.size u u' ∧ ∃ FA Fc PA Pc, e = .returned (.tuple #[.agg #[.slice FA G.1.length Fc, .slice PA G.2.length Pc], .int .i64 0]) ∧ Its u' u'.heap.size FA (natI G.1) ∧ Pcs u' u'.heap.size PA G.2
theorem pcs_own {w : World} {B B2 : Nat} {PA : Option Addr} {Pc : Nat} {l : List Pv} (h : w.ownsRow B 44 9 (.slice PA l.length Pc) l.length (posC l)) (hn : ∀ x ∈ l, IR w B2 x.2.1 x.2.2 x.1.next) : Pcs w w.heap.size PA (l.map (·.1)) := fun hne => by
  have hpos : 0 < l.length := by
    rcases Nat.eq_zero_or_pos l.length with q | q
    · rw [List.eq_nil_of_length_eq_zero q] at hne
      exact absurd rfl hne
    · exact q
  obtain ⟨g, c', hv, _, hg⟩ := own_pos h hpos
  injection hv with hA _ _
  refine ⟨g, 0, hA, hg, fun i hi => ?_⟩
  rw [List.length_map] at hi
  have e : (l.map (·.1)).getD i pn0 = l[i].1 := getD_fst (List.getElem?_eq_getElem hi)
  rw [e]
  refine ⟨l[i].2.1, l[i].2.2, (hn _ (List.getElem_mem hi)).its, fun j v hj => ?_⟩
  have hj9 : j < 9 := by
    rcases Nat.lt_or_ge j 9 with q | q
    · exact q
    · rw [List.getElem?_eq_none (by rw [posL_len]; exact q)] at hj; cases hj
  have := h.cells (g := g) (by rw [hA]; rfl) (i * 9 + j) v (by rw [posC_at l i j _ (List.getElem?_eq_getElem hi) hj9]; exact hj)
  rw [addr_add] at this
  rw [Nat.zero_add]
  exact this
theorem of_read {u u' : World} {G : List Nat × List Pn} {e : Ending} (h : OfR u G e u') : OfQ u G e u' := by
  obtain ⟨hb, FA, Fc, PA, Pc, l', rfl, h1, h2, h3, -, h5⟩ := h
  have hp := pcs_own h2 h3
  have hlen : l'.length = G.2.length := by rw [← h5, List.length_map]
  rw [h5] at hp
  exact ⟨hb, FA, Fc, PA, Pc, by rw [hlen], h1.its, hp⟩
set_option maxHeartbeats 1000000 in
theorem gof_any {s : ByteArray} (hz : s.size ≤ 1024) (hS : smpB s = true) {ns o : List Nd} (hp : parse (bs s) = .ok ns) (hpl : PlainN ns) (ho : planN ns 3 = some o) (w : World) :
    Calls Try.prog 28 #[.string s, .int .i64 3] w fun e w' => Below w.heap.size w w' ∧ ∃ A c gs, e = .returned (.slice A gs.length c) ∧ Nds w' w'.heap.size A gs ∧ GN gs o := by
  have hpa := Rf.refparse_any s (smp_of hS hz) ns hp w
  have htn := tree_parse (bs_b s) hp
  have HT : Hid (∀ (u : World) (A : Option Addr) (c : Nat) (gs : List Gd), Nds u u.heap.size A gs → GN gs ns → Calls Try.prog 51 #[.slice A gs.length c, .int .i64 3] u fun e w' => TrR (some o) u e w') := fun u A c gs h1 h2 => by
    have := Qr.rtree_ok A c gs ns 3 (by omega) (by omega) u h1 h2 htn hpl
    rw [ho] at this
    exact this
  clear hp hpl ho htn hS hz
  go_enter Try.func28, Try.ntmps28
  go_wp2_with fail
  refine hpa.mono ?_
  rintro e w1 ⟨A, c, gs, rfl, hN, hG, b1⟩
  have hc := HT.out w1 A c gs hN hG
  have HB1 := hidd b1
  clear hpa hN hG b1 HT
  generalize gs.length = n at *
  go_wp2_with fail
  refine hc.mono ?_
  rintro e w2 ⟨b2, A2, c2, go, rfl, N2, G2, -⟩
  have HN2 := hidd N2
  have HG2 := hidd G2
  have HB2 := hidd (HB1.out.trans (b2.mono HB1.out.size))
  clear hc N2 G2 b2 HB1
  go_wp2
  go_ret
  exact ⟨HB2.out, A2, c2, go, rfl, HN2.out, HG2.out⟩
end Go.Proofs.Ytahhiajliomcfaa.Sy.Gl

/- The landed Right and Counted: what they tell. -/
import Derived.Test.YtahhiajliomcfaaPJv
import Derived.Test.YtahhiajliomcfaaPDh
namespace Go.Proofs.Ytahhiajliomcfaa.Sy.Pl
open Go.RowKit Go.Proofs.Ytahhiajliomcfaa.Sy.Ap Go.Proofs.Ytahhiajliomcfaa.Sy.Lg
set_option maxRecDepth 100000
set_option linter.unusedVariables false

theorem ct_same {gs : List Gd} {ns ms : List Nd} (h : GN gs ns) (h' : GN gs ms) : ns.length = ms.length ∧ ∀ k, ctB ns (ns.getD k nd0) = ctB ms (ms.getD k nd0) ∧ badB ns (ns.getD k nd0) = badB ms (ms.getD k nd0) := by
  have hn := Pn.nes_of h h'
  have hc : ∀ k, ctB ns (ns.getD k nd0) = ctB ms (ms.getD k nd0) := fun k => by
    have h1 := hn.2 k
    unfold ctB
    rw [h1.op, h1.l, h1.lo, h1.hi]
    have h2 := (hn.2 ((ms.getD k nd0).l.getD 0 0)).op
    have h3 : (ns.getD ((ms.getD k nd0).l.getD 0 0) nd00).op = (ms.getD ((ms.getD k nd0).l.getD 0 0) nd00).op := h2
    rw [h3]
  refine ⟨hn.1, fun k => ⟨hc k, ?_⟩⟩
  have h1 := hn.2 k
  unfold badB starB
  rw [hc k, h1.op, h1.lo, h1.hi]
theorem rp_same {gs : List Gd} {ns ms : List Nd} (h : GN gs ns) (h' : GN gs ms) (hr : Rp ns) : Rp ms := by
  obtain ⟨h1, h2⟩ := ct_same h h'
  rw [rp_iff] at hr ⊢
  intro k hk
  rw [← (h2 k).2]
  exact hr k (by omega)
section
variable {A : Option Addr} {c : Nat} {gs : List Gd} {ns : List Nd}
set_option maxHeartbeats 1000000 in
theorem idxR_any (A : Option Addr) (c : Nat) (gs : List Gd) (ns : List Nd) (q : Nat) (w : World) (hg : GN gs ns) (ht : TreeN ns) (hx : Nds w q A gs) (hq : RowA w q 36 #[.slice A gs.length c]) :
    Calls Try.prog 58 #[.slice A gs.length c, .func (.func 42) #[] #[.pointer (some ⟨q, 0, none⟩)]] w fun e w' => Below w.heap.size w w' ∧ ∃ r : Int, e = .returned (.int .i64 r) ∧ (r < 0 ↔ Rp ns) := by
  have HRP : Hid (Rp ns ↔ ∀ k, k < gs.length → badB ns (ns.getD k nd0) = false) := by show _ ↔ _; rw [rp_iff, hg.1]
  have hpos : 0 < gs.length := by rw [hg.1]; exact ht.pos
  have hl : gs.length ≤ 2000 := by rw [hg.1]; have := ht.few; omega
  obtain ⟨b1, o1, rfl, hb1, -⟩ := hx.at_ (k := 0) hpos
  have hqs := hq.lt
  have HCL : Hid (∀ k, k < gs.length → ∀ wr, Below w.heap.size w wr → ∃ A3 c3, wr.rangeAt b1 (o1 + k * 9) (gdL (gs.getD k gd0) A3 c3) ∧ Calls Try.prog 42 #[.agg (ndA (gs.getD k gd0) A3 (gs.getD k gd0).l.length c3), .pointer (some ⟨q, 0, none⟩)] wr fun e w' => e = .returned (.bool (badB ns (ns.getD k nd0))) ∧ Below wr.heap.size wr w') := fun k hk wr hb => by
    have hx2 := hx.below (hb.mono (Nat.le_of_lt hqs))
    obtain ⟨b2, o2, e2, hb2, A3, c3, hI, r1⟩ := hx2.at_ (k := k) hk
    injection e2 with e2
    injection e2 with e3 e4
    subst e3 e4
    exact ⟨A3, c3, r1, rg1_any hg ht hk hx2 (hq.below hb hqs) hI⟩
  clear hx hq hg ht hpos
  generalize hn : gs.length = n at *
  clear hn
  go_enter Try.func58, Try.ntmps58
  go_wp2
  go_loopw [8] (fun s8 wr => ∃ k : Nat, k ≤ n ∧ s8 = .int .i64 (k : Int) ∧ (∀ i, i < k → badB ns (ns.getD i nd0) = false) ∧ Below w.heap.size w wr) (fun s8 _ => n - (intOf s8).toNat)
  case atStart => exact ⟨0, Nat.zero_le _, rfl, fun i hi => absurd hi (Nat.not_lt_zero _), Below.refl _ _⟩
  case round =>
    obtain ⟨k, hk0, rfl, hp, hb⟩ := hrel
    have HP := hidd hp
    have HB := hidd hb
    clear hp hb
    by_cases hlt : k < n
    · obtain ⟨A3, c3, r1, hcl⟩ := HCL.out k hlt wr HB.out
      have hki : (k : Int) < (n : Int) := by omega
      have HPK : Hid (badB ns (ns.getD k nd0) = false → ∀ i, i < k + 1 → badB ns (ns.getD i nd0) = false) := fun q i hi => by
        by_cases e : i = k
        · subst e; exact q
        · exact HP.out i (by omega)
      have HNP : Hid (badB ns (ns.getD k nd0) = true → ¬ Rp ns) := fun q h => by
        have := HRP.out.1 h k hlt
        rw [q] at this
        cases this
      generalize badB ns (ns.getD k nd0) = bb at *
      generalize gs.getD k gd0 = g at *
      go_wp2_with (refine wpList_load_mid rfl 42 (.tmp 14) rfl b1 (o1 + k * 9) rfl (gdL g A3 c3) _ r1 Try.underlying42 rfl (gdL_info g A3 c3) ?_)
      refine hcl.mono ?_
      rintro e w2 ⟨rfl, b2⟩
      have HB2 := hidd (HB.out.trans (b2.mono HB.out.size))
      clear hcl r1 b2
      cases bb with
      | true =>
        have HN := hidd (HNP.out rfl)
        clear HNP HPK
        go_wp2
        go_ret
        exact ⟨HB2.out, _, rfl, (fun h => by omega), fun h => absurd h HN.out⟩
      | false =>
        have HN := hidd (HPK.out rfl)
        clear HNP HPK
        go_wp2
        exact ⟨⟨k + 1, by omega, rfl, HN.out, HB2.out⟩, by simp [intOf]; omega⟩
    · have hke : k = n := by omega
      subst hke
      have HN : Hid (Rp ns) := HRP.out.2 HP.out
      go_wp2
      go_ret
      exact ⟨HB.out, _, rfl, (fun _ => HN.out), fun _ => by omega⟩
set_option maxHeartbeats 400000 in
theorem hasB_any (A : Option Addr) (c : Nat) (gs : List Gd) (ns : List Nd) (q : Nat) (w : World) (hg : GN gs ns) (ht : TreeN ns) (hx : Nds w q A gs) (hq : RowA w q 36 #[.slice A gs.length c]) :
    Calls Try.prog 41 #[.slice A gs.length c, .func (.func 42) #[] #[.pointer (some ⟨q, 0, none⟩)]] w fun e w' => Below w.heap.size w w' ∧ ∃ z, e = .returned (.bool z) ∧ (z = false ↔ Rp ns) := by
  have hi := idxR_any A c gs ns q w hg ht hx hq
  clear hx hq hg ht
  generalize gs.length = n at *
  go_enter Try.func41, Try.ntmps41
  go_wp2_with fail
  refine hi.mono ?_
  rintro e w1 ⟨b1, r, rfl, hr⟩
  have HB := hidd b1
  have HR := hidd hr
  clear hi b1 hr
  go_wp2
  go_ret
  refine ⟨HB.out, _, rfl, ?_⟩
  rw [decide_eq_false_iff_not, ← HR.out]
  omega
set_option maxHeartbeats 400000 in
theorem rightP_any (A : Option Addr) (c : Nat) (gs : List Gd) (w : World) (hx : Nds w w.heap.size A gs) (hl : gs.length ≤ 2000) (hsm : Small gs) :
    Calls Try.prog 22 #[.slice A gs.length c] w fun e w' => (∃ z, e = .returned (.bool z) ∧ (z = true ↔ RgtP gs)) ∧ Below w.heap.size w w' := by
  have hb : Below w.heap.size w (w.alloc (.cells #[.slice A gs.length c] 36)) := (Below.refl _ _).alloc (Nat.le_refl _) _
  have R := RowA.new w 36 #[.slice A gs.length c]
  have d0 : (w.alloc (.cells #[.slice A gs.length c] 36)).cell? ⟨w.heap.size, 0, none⟩ = some (.slice A gs.length c) := R.at_ rfl
  have hN := nameless_any A c gs _ ((hx.below hb).more hb.size) hl hsm
  have HH : Hid (∀ w' ns, Below (w.heap.size + 1) (w.alloc (.cells #[.slice A gs.length c] 36)) w' → GN gs ns → TreeN ns → Calls Try.prog 41 #[.slice A gs.length c, .func (.func 42) #[] #[.pointer (some ⟨w.heap.size, 0, none⟩)]] w' fun e w'' => Below w'.heap.size w' w'' ∧ ∃ z, e = .returned (.bool z) ∧ (z = false ↔ Rp ns)) := fun w' ns hb2 hg ht => hasB_any A c gs ns w.heap.size w' hg ht (hx.below (hb.trans (hb2.mono (by omega)))) (R.below hb2 (by omega))
  have hs1 : (w.alloc (.cells #[.slice A gs.length c] 36)).heap.size = w.heap.size + 1 := World.size_alloc ..
  rw [← hs1] at HH
  have HB0 := hidd hb
  have hw : w.heap.size < (w.alloc (.cells #[.slice A gs.length c] 36)).heap.size := by omega
  have HG : Hid (PlainG gs → ∃ ns, GN gs ns ∧ TreeN ns ∧ PlainN ns) := fun h => by
    obtain ⟨ns0, hg0, -⟩ := h.2
    exact tree_of hg0 h
  have HRG : Hid (∀ ns, GN gs ns → TreeN ns → PlainN ns → (RgtP gs ↔ Rp ns)) := fun ns h1 h2 h3 => ⟨fun ⟨ms, g1, g2, g3, g4⟩ => rp_same g1 h1 g4, fun h => ⟨ns, h1, h2, h3, h⟩⟩
  have HNG : Hid (RgtP gs → PlainG gs) := fun ⟨ms, g1, g2, g3, g4⟩ => plain_of g1 g2 g3
  clear hx hl hsm hb R hs1
  generalize gs.length = n at *
  go_enter Try.func22, Try.ntmps22
  go_wp2_with fail
  refine hN.mono ?_
  rintro e w1 ⟨z, rfl, hz, b1⟩
  have HZ := hidd hz
  have HB1 := hidd b1
  have e0 := (b1.cell (p := ⟨w.heap.size, 0, none⟩) hw).trans d0
  clear hN b1 hz d0
  cases z with
  | false =>
    have HB := hidd (HB0.out.trans (HB1.out.mono (Nat.le_of_lt hw)))
    clear HH HB1 HB0
    go_wp2
    go_ret
    exact ⟨⟨false, rfl, (fun q => by cases q), fun q => HZ.out.2 (HNG.out q)⟩, HB.out⟩
  | true =>
    obtain ⟨ns, hg, ht, hp⟩ := HG.out (HZ.out.1 (by trivial))
    have hc := HH.out w1 ns HB1.out hg ht
    have HR := hidd (HRG.out ns hg ht hp)
    have HB := hidd (HB0.out.trans (HB1.out.mono (Nat.le_of_lt hw)))
    clear HH HB1 HB0 hg ht hp HG HRG
    go_wp2_with fail
    refine hc.mono ?_
    rintro e w2 ⟨b2, y, rfl, hy⟩
    have HB2 := hidd (HB.out.trans (b2.mono HB.out.size))
    have HY := hidd hy
    clear hc b2 hy
    go_wp2
    go_ret
    refine ⟨⟨!y, rfl, ?_⟩, HB2.out⟩
    rw [HR.out, ← HY.out]
    cases y <;> simp
end
end Go.Proofs.Ytahhiajliomcfaa.Sy.Pl

namespace Go.Proofs.Ytahhiajliomcfaa.Sy.Gl
open Go.RowKit Go.Proofs.Ytahhiajliomcfaa.Sy.Ap Go.Proofs.Ytahhiajliomcfaa.Sy.Lg Go.Proofs.Ytahhiajliomcfaa.Sy.Pl
set_option maxRecDepth 100000
set_option linter.unusedVariables false

/-- A place. -/
structure Pn where
  s : Nat → Bool
  lo : Int
  hi : Int
  rule : Nat
  last : Bool
  next : List Nat
def pn0 : Pn := ⟨noS, 0, 0, 0, false, []⟩
/-- What a node is to those around it. -/
structure Pt where
  first : List Nat
  last : List Nat
  nul : Bool
def pt0 : Pt := ⟨[], [], false⟩
abbrev Fol := Nat → Nat → Bool
def linkF (f : Fol) (a b : List Nat) : Fol := fun i j => f i j || (decide (i ∈ a) && decide (j ∈ b))
def setF (f : Fol) (a b : Nat) : Fol := fun i j => f i j || (decide (i = a) && decide (j = b))
theorem link_in (f : Fol) (a : Nat) (t : List Nat) (b : Nat) : linkF f [a] (t ++ [b]) = setF (linkF f [a] t) a b := by
  funext i j
  rw [Bool.eq_iff_iff]
  simp only [linkF, setF, Bool.or_eq_true, Bool.and_eq_true, decide_eq_true_eq, List.mem_append, List.mem_singleton]
  grind
theorem link_out (f : Fol) (t : List Nat) (a : Nat) (l : List Nat) : linkF (linkF f t l) [a] l = linkF f (t ++ [a]) l := by
  funext i j
  rw [Bool.eq_iff_iff]
  simp only [linkF, Bool.or_eq_true, Bool.and_eq_true, decide_eq_true_eq, List.mem_append, List.mem_singleton]
  grind
theorem link_nil (f : Fol) (l : List Nat) : linkF f [] l = f := by
  funext i j
  simp [linkF]
theorem link_to (f : Fol) (l : List Nat) : linkF f l [] = f := by
  funext i j
  simp [linkF]
/-- The places so far, and what follows what. -/
structure Gs where
  ps : List Pn
  f : Fol
def rowStep (x : Pt × Fol) (k : Pt) : Pt × Fol :=
  (⟨if x.1.nul then x.1.first ++ k.first else x.1.first, (if k.nul then x.1.last else []) ++ k.last, x.1.nul && k.nul⟩, linkF x.2 x.1.last k.first)
def rowG (ks : List Pt) (f : Fol) : Pt × Fol := ks.foldl rowStep (⟨[], [], true⟩, f)
def bndP (ps : List Pn) (i : Nat) (lo hi : Int) : List Pn := ps.set i ⟨(ps.getD i pn0).s, lo, hi, (ps.getD i pn0).rule, (ps.getD i pn0).last, (ps.getD i pn0).next⟩
def lastP (ps : List Pn) (i : Nat) : List Pn := ps.set i ⟨(ps.getD i pn0).s, (ps.getD i pn0).lo, (ps.getD i pn0).hi, (ps.getD i pn0).rule, true, (ps.getD i pn0).next⟩
def nextP (ps : List Pn) (i : Nat) (l : List Nat) : List Pn := ps.set i ⟨(ps.getD i pn0).s, (ps.getD i pn0).lo, (ps.getD i pn0).hi, (ps.getD i pn0).rule, (ps.getD i pn0).last, l⟩
/-- The first and the last places of a node, by its kids' parts. -/
def takeG (rule : Nat) (n : Nd) (ks : List Pt) (g : Gs) : (List Nat × List Nat) × Gs :=
  if n.op = 2 then (([g.ps.length], [g.ps.length]), ⟨g.ps ++ [⟨n.s, 1, 1, rule, false, []⟩], g.f⟩)
  else if n.op = 3 then (((rowG ks g.f).1.first, (rowG ks g.f).1.last), ⟨g.ps, (rowG ks g.f).2⟩)
  else if n.op = 4 then ((ks.flatMap Pt.first, ks.flatMap Pt.last), g)
  else if n.op = 5 then
    if n.hi = -1 then (((ks.getD 0 pt0).first, (ks.getD 0 pt0).last), ⟨g.ps, linkF g.f (ks.getD 0 pt0).last (ks.getD 0 pt0).first⟩)
    else (((ks.getD 0 pt0).first, (ks.getD 0 pt0).last), ⟨bndP g.ps ((ks.getD 0 pt0).first.getD 0 0) n.lo n.hi, g.f⟩)
  else (([], []), g)
def kidsG (n : Nd) (parts : List Pt) : List Pt := n.l.map fun k => parts.getD k pt0
def addStep (rule : Nat) (x : List Pt × Gs) (n : Nd) : List Pt × Gs :=
  (x.1 ++ [⟨(takeG rule n (kidsG n x.1) x.2).1.1, (takeG rule n (kidsG n x.1) x.2).1.2, may1 n (x.1.map Pt.nul)⟩], (takeG rule n (kidsG n x.1) x.2).2)
/-- The parts of a plan's nodes, and the places with it. -/
def addG (rule : Nat) (ns : List Nd) (g : Gs) : List Pt × Gs := ns.foldl (addStep rule) ([], g)
theorem addG_snoc (rule : Nat) (l : List Nd) (n : Nd) (g : Gs) : addG rule (l ++ [n]) g = addStep rule (addG rule l g) n := by
  unfold addG
  rw [List.foldl_append]
  rfl
theorem addG_len (rule : Nat) (g : Gs) : ∀ (k : Nat) (l : List Nd), l.length = k → (addG rule l g).1.length = k
  | 0, l, h => by rw [List.eq_nil_of_length_eq_zero h]; rfl
  | k + 1, l, h => by
    rcases list_snoc l with e | ⟨r, n, e⟩
    · rw [e] at h; simp at h
    · subst e
      rw [List.length_append, List.length_singleton] at h
      rw [addG_snoc]
      unfold addStep
      rw [List.length_append, addG_len rule g k r (by omega), List.length_singleton]
def rootG (rule : Nat) (ns : List Nd) (g : Gs) : Pt := (addG rule ns g).1.getD (ns.length - 1) pt0
def markG (l : List Nat) (ps : List Pn) : List Pn := l.foldl lastP ps
def planG (rule : Nat) (ns : List Nd) (x : List Nat × Gs) : List Nat × Gs :=
  (x.1 ++ (rootG rule ns x.2).first, ⟨markG (rootG rule ns x.2).last (addG rule ns x.2).2.ps, (addG rule ns x.2).2.f⟩)
/-- All plans, from a rule on. -/
def plansG : Nat → List (List Nd) → List Nat × Gs → List Nat × Gs
  | _, [], x => x
  | rule, p :: l, x => plansG (rule + 1) l (planG rule p x)
def followL (f : Fol) (n i : Nat) : List Nat := (List.range n).filter (f i)
def nextG (f : Fol) (n : Nat) (k : Nat) (ps : List Pn) : List Pn := (List.range k).foldl (fun ps i => nextP ps i (followL f n i)) ps
/-- The first places, and the places. -/
def ofG (l : List (List Nd)) : List Nat × List Pn :=
  ((plansG 0 l ([], ⟨[], fun _ _ => false⟩)).1, nextG (plansG 0 l ([], ⟨[], fun _ _ => false⟩)).2.f (plansG 0 l ([], ⟨[], fun _ _ => false⟩)).2.ps.length (plansG 0 l ([], ⟨[], fun _ _ => false⟩)).2.ps.length (plansG 0 l ([], ⟨[], fun _ _ => false⟩)).2.ps)
/-- How many Bytes. -/
def bytesN (ns : List Nd) : Nat := ns.countP fun n => n.op == 2
def manyN (l : List (List Nd)) : Nat := (l.map bytesN).sum

/-! ### What is in order -/
theorem bndP_len (ps : List Pn) (i : Nat) (lo hi : Int) : (bndP ps i lo hi).length = ps.length := by unfold bndP; rw [List.length_set]
theorem takeG_len (rule : Nat) (n : Nd) (ks : List Pt) (g : Gs) : (takeG rule n ks g).2.ps.length = g.ps.length + if n.op = 2 then 1 else 0 := by
  unfold takeG
  by_cases h2 : n.op = 2
  · rw [if_pos h2, if_pos h2, List.length_append]; rfl
  · rw [if_neg h2, if_neg h2]
    by_cases h3 : n.op = 3
    · rw [if_pos h3]; rfl
    · rw [if_neg h3]
      by_cases h4 : n.op = 4
      · rw [if_pos h4]; rfl
      · rw [if_neg h4]
        by_cases h5 : n.op = 5
        · rw [if_pos h5]
          split
          · rfl
          · exact bndP_len _ _ _ _
        · rw [if_neg h5]; rfl
theorem bytesN_snoc (l : List Nd) (n : Nd) : bytesN (l ++ [n]) = bytesN l + if n.op = 2 then 1 else 0 := by
  unfold bytesN
  rw [List.countP_append, List.countP_singleton]
  by_cases h : n.op = 2 <;> simp [h]
theorem addG_ps (rule : Nat) (g : Gs) : ∀ (k : Nat) (l : List Nd), l.length = k → (addG rule l g).2.ps.length = g.ps.length + bytesN l
  | 0, l, h => by rw [List.eq_nil_of_length_eq_zero h]; rfl
  | k + 1, l, h => by
    rcases list_snoc l with e | ⟨r, n, e⟩
    · rw [e] at h; simp at h
    · subst e
      rw [List.length_append, List.length_singleton] at h
      rw [addG_snoc, bytesN_snoc]
      show (takeG rule n _ (addG rule r g).2).2.ps.length = _
      rw [takeG_len, addG_ps rule g k r (by omega)]
      omega
/-- A part's places are some of so many. -/
def PtB (m : Nat) (p : Pt) : Prop := (∀ x ∈ p.first, x < m) ∧ ∀ x ∈ p.last, x < m
theorem PtB.more {m m' : Nat} {p : Pt} (h : PtB m p) (hm : m ≤ m') : PtB m' p := ⟨fun x hx => Nat.lt_of_lt_of_le (h.1 x hx) hm, fun x hx => Nat.lt_of_lt_of_le (h.2 x hx) hm⟩
theorem ptB_getD {m : Nat} {parts : List Pt} (h : ∀ p ∈ parts, PtB m p) (k : Nat) : PtB m (parts.getD k pt0) := by
  rw [List.getD_eq_getElem?_getD]
  cases hk : parts[k]? with
  | none => exact ⟨fun x hx => absurd hx List.not_mem_nil, fun x hx => absurd hx List.not_mem_nil⟩
  | some p => exact h p (List.mem_of_getElem? hk)
theorem rowG_snoc (ks : List Pt) (k : Pt) (f : Fol) : rowG (ks ++ [k]) f = rowStep (rowG ks f) k := by
  unfold rowG
  rw [List.foldl_append]
  rfl
theorem rowG_ptB {m : Nat} (f : Fol) : ∀ (j : Nat) (ks : List Pt), ks.length = j → (∀ p ∈ ks, PtB m p) → PtB m (rowG ks f).1
  | 0, ks, h, _ => by
    rw [List.eq_nil_of_length_eq_zero h]
    exact ⟨fun x hx => absurd hx List.not_mem_nil, fun x hx => absurd hx List.not_mem_nil⟩
  | j + 1, ks, h, hp => by
    rcases list_snoc ks with e | ⟨r, n, e⟩
    · rw [e] at h; simp at h
    · subst e
      rw [List.length_append, List.length_singleton] at h
      have ih := rowG_ptB f j r (by omega) (fun p hp2 => hp p (List.mem_append_left _ hp2))
      have hn := hp n (List.mem_append_right _ (List.mem_singleton.2 rfl))
      rw [rowG_snoc]
      constructor
      · intro x hx
        have hx : x ∈ if (rowG r f).1.nul then (rowG r f).1.first ++ n.first else (rowG r f).1.first := hx
        split at hx
        · rcases List.mem_append.1 hx with q | q
          · exact ih.1 x q
          · exact hn.1 x q
        · exact ih.1 x hx
      · intro x hx
        have hx : x ∈ (if n.nul then (rowG r f).1.last else []) ++ n.last := hx
        rcases List.mem_append.1 hx with q | q
        · split at q
          · exact ih.2 x q
          · cases q
        · exact hn.2 x q
theorem takeG_ptB {m rule : Nat} {n : Nd} {ks : List Pt} {g : Gs} (hm : (takeG rule n ks g).2.ps.length ≤ m) (hk : ∀ p ∈ ks, PtB m p) (z : Bool) : PtB m ⟨(takeG rule n ks g).1.1, (takeG rule n ks g).1.2, z⟩ := by
  rw [takeG_len] at hm
  have h0 := ptB_getD hk 0
  unfold takeG
  by_cases h2 : n.op = 2
  · rw [if_pos h2] at hm ⊢
    exact ⟨fun x hx => by have := List.mem_singleton.1 hx; omega, fun x hx => by have := List.mem_singleton.1 hx; omega⟩
  · rw [if_neg h2]
    by_cases h3 : n.op = 3
    · rw [if_pos h3]
      have := rowG_ptB g.f _ ks rfl hk
      exact ⟨this.1, this.2⟩
    · rw [if_neg h3]
      by_cases h4 : n.op = 4
      · rw [if_pos h4]
        refine ⟨fun x hx => ?_, fun x hx => ?_⟩
        · obtain ⟨p, hp, hx⟩ := List.mem_flatMap.1 hx
          exact (hk p hp).1 x hx
        · obtain ⟨p, hp, hx⟩ := List.mem_flatMap.1 hx
          exact (hk p hp).2 x hx
      · rw [if_neg h4]
        by_cases h5 : n.op = 5
        · rw [if_pos h5]
          split
          · exact ⟨h0.1, h0.2⟩
          · exact ⟨h0.1, h0.2⟩
        · rw [if_neg h5]
          exact ⟨fun x hx => absurd hx List.not_mem_nil, fun x hx => absurd hx List.not_mem_nil⟩
theorem addG_ptB (rule : Nat) (g : Gs) : ∀ (k : Nat) (l : List Nd), l.length = k → ∀ p ∈ (addG rule l g).1, PtB (addG rule l g).2.ps.length p
  | 0, l, h => by rw [List.eq_nil_of_length_eq_zero h]; exact fun p hp => absurd hp List.not_mem_nil
  | k + 1, l, h => by
    rcases list_snoc l with e | ⟨r, n, e⟩
    · rw [e] at h; simp at h
    · subst e
      rw [List.length_append, List.length_singleton] at h
      have ih := addG_ptB rule g k r (by omega)
      have hle : (addG rule r g).2.ps.length ≤ (addG rule (r ++ [n]) g).2.ps.length := by
        rw [addG_ps rule g _ _ rfl, addG_ps rule g _ _ rfl, bytesN_snoc]
        omega
      intro p hp
      have h2 : (addG rule (r ++ [n]) g).2.ps.length = (takeG rule n (kidsG n (addG rule r g).1) (addG rule r g).2).2.ps.length := by rw [addG_snoc]; rfl
      rw [addG_snoc] at hp
      rcases List.mem_append.1 hp with q | q
      · exact (ih p q).more hle
      · rw [List.mem_singleton] at q
        subst q
        refine takeG_ptB (by omega) (fun p hp => ?_) _
        obtain ⟨x, hx, rfl⟩ := List.mem_map.1 hp
        exact (ptB_getD ih x).more hle
/-- Of Bytes a part is its place. -/
theorem addG_byte (rule : Nat) (g : Gs) : ∀ (k : Nat) (l : List Nd), l.length = k → ∀ (i : Nat) (n : Nd), l[i]? = some n → n.op = 2 → ∃ p, p < (addG rule l g).2.ps.length ∧ (addG rule l g).1.getD i pt0 = ⟨[p], [p], false⟩
  | 0, l, h => by rw [List.eq_nil_of_length_eq_zero h]; intro i n hn; simp at hn
  | k + 1, l, h => by
    rcases list_snoc l with e | ⟨r, n, e⟩
    · rw [e] at h; simp at h
    · subst e
      rw [List.length_append, List.length_singleton] at h
      have ih := addG_byte rule g k r (by omega)
      have hle : (addG rule r g).2.ps.length ≤ (addG rule (r ++ [n]) g).2.ps.length := by
        rw [addG_ps rule g _ _ rfl, addG_ps rule g _ _ rfl, bytesN_snoc]
        omega
      intro i m hm h2
      have hlr : (addG rule r g).1.length = r.length := addG_len rule g _ r rfl
      have hsn : (addG rule (r ++ [n]) g).1 = (addG rule r g).1 ++ [⟨(takeG rule n (kidsG n (addG rule r g).1) (addG rule r g).2).1.1, (takeG rule n (kidsG n (addG rule r g).1) (addG rule r g).2).1.2, may1 n ((addG rule r g).1.map Pt.nul)⟩] := by rw [addG_snoc]; rfl
      rcases Nat.lt_or_ge i r.length with q | q
      · rw [List.getElem?_append_left q] at hm
        obtain ⟨p, h3, h4⟩ := ih i m hm h2
        refine ⟨p, by omega, ?_⟩
        rw [hsn, List.getD_eq_getElem?_getD, List.getElem?_append_left (by omega), ← List.getD_eq_getElem?_getD]
        exact h4
      · rw [List.getElem?_append_right q] at hm
        have hi : i = r.length := by
          have := (List.getElem?_eq_some_iff.1 hm).1
          simp at this
          omega
        subst hi
        simp at hm
        subst hm
        refine ⟨(addG rule r g).2.ps.length, ?_, ?_⟩
        · rw [addG_ps rule g _ (r ++ [n]) rfl, bytesN_snoc, if_pos h2, addG_ps rule g _ r rfl]
          omega
        · rw [hsn, List.getD_eq_getElem?_getD, List.getElem?_append_right (by omega), hlr, Nat.sub_self]
          show (⟨_, _, _⟩ : Pt) = _
          unfold takeG
          rw [if_pos h2]
          show (⟨_, _, may1 n _⟩ : Pt) = _
          unfold may1
          rw [if_neg (by omega), if_neg (by omega), if_neg (by omega), if_neg (by omega)]
end Go.Proofs.Ytahhiajliomcfaa.Sy.Gl

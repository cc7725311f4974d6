/- The landed Right and Counted of plans: whole. -/
import Derived.Test.YtaagkfiaccmepaaPJr
import Derived.Test.YtaagkfiaccmepaaPDh
namespace Go.Proofs.Ytaagkfiaccmepaa.Sy.Pl
open Go.RowKit Go.Proofs.Ytaagkfiaccmepaa.Sy.Ap Go.Proofs.Ytaagkfiaccmepaa.Sy.Lg
set_option maxRecDepth 100000
set_option linter.unusedVariables false

/-- A repetition that no plan has. -/
def badB (ns : List Nd) (n : Nd) : Bool := n.op == 5 && !starB n && !ctB ns n
theorem rp_iff {ns : List Nd} : Rp ns ↔ ∀ k, k < ns.length → badB ns (ns.getD k nd0) = false := by
  constructor
  · intro h k hk
    have e : ns.getD k nd0 = ns[k] := by rw [List.getD_eq_getElem?_getD, List.getElem?_eq_getElem hk]; rfl
    have hm : ns.getD k nd0 ∈ ns := by rw [e]; exact List.getElem_mem hk
    unfold badB
    by_cases h5 : (ns.getD k nd0).op = 5
    · rcases h _ hm h5 with q | q
      · rw [q, Bool.not_true, Bool.and_false, Bool.false_and]
      · rw [q, Bool.not_true, Bool.and_false]
    · have : ((ns.getD k nd0).op == 5) = false := beq_eq_false_iff_ne.2 h5
      rw [this]; rfl
  · intro h n hn h5
    obtain ⟨k, hk, rfl⟩ := List.getElem_of_mem hn
    have := h k hk
    have e : ns.getD k nd0 = ns[k] := by rw [List.getD_eq_getElem?_getD, List.getElem?_eq_getElem hk]; rfl
    rw [e] at this
    unfold badB at this
    have h6 : (ns[k].op == 5) = true := by rw [h5]; rfl
    rw [h6] at this
    cases hs : starB ns[k] with
    | true => exact .inl rfl
    | false =>
      rw [hs] at this
      cases hc : ctB ns ns[k] with
      | true => exact .inr rfl
      | false => rw [hc] at this; cases this
section
variable {c : Nat} {gs : List Gd} {ns : List Nd}
set_option maxHeartbeats 400000 in
/-- What Right asks of a node: it is handed the node, and where the tree's slice lies. -/
theorem rg1_any (hg : GN gs ns) (ht : TreeN ns) {k q : Nat} (hk : k < gs.length) {b1 o1 : Nat} {w : World} (hx : Nds w q (some ⟨b1, o1, none⟩) gs) (hq : RowA w q 22 #[.slice (some ⟨b1, o1, none⟩) gs.length c]) {kA : Option Addr} {kc : Nat} (hI : Its w q kA (gs.getD k gd0).l) :
    Calls Try.prog 21 #[.agg (ndA (gs.getD k gd0) kA (gs.getD k gd0).l.length kc), .pointer (some ⟨q, 0, none⟩)] w fun e w' => e = .returned (.bool (badB ns (ns.getD k nd0))) ∧ Below w.heap.size w w' := by
  have hqs := hq.lt
  have hx2 := hx.more (Nat.le_of_lt hqs)
  have hI2 := hI.more (Nat.le_of_lt hqs)
  have HC : Hid (∀ u, Below w.heap.size w u → Calls Try.prog 23 #[.agg (ndA (gs.getD k gd0) kA (gs.getD k gd0).l.length kc), .slice (some ⟨b1, o1, none⟩) gs.length c] u fun e w'' => e = .returned (.bool (ctB ns (ns.getD k nd0))) ∧ Below u.heap.size u w'') := fun u hb => cnt_nd hg ht hk hx2 hb hI2
  have h1 := hg.2 k hk
  have HE : Hid ((gs.getD k gd0).op = ((ns.getD k nd0).op : Int) ∧ (gs.getD k gd0).lo = (ns.getD k nd0).lo ∧ (gs.getD k gd0).hi = (ns.getD k nd0).hi) := ⟨h1.op, h1.lo, h1.hi⟩
  have HSB : Hid (∀ z : Bool, z = ((gs.getD k gd0).op == 5 && (gs.getD k gd0).lo == 0 && (gs.getD k gd0).hi == -1) → z = starB (ns.getD k nd0)) := fun z hz => by
    rw [hz]
    unfold starB
    rw [HE.out.1, HE.out.2.1, HE.out.2.2]
    have : (((ns.getD k nd0).op : Int) == 5) = ((ns.getD k nd0).op == 5) := by
      rw [Bool.eq_iff_iff]
      simp only [beq_iff_eq]
      omega
    rw [this]
  have HST : Hid (∀ u, Calls Try.prog 22 #[.agg (ndA (gs.getD k gd0) kA (gs.getD k gd0).l.length kc)] u fun e w' => e = .returned (.bool (starB (ns.getD k nd0))) ∧ Below u.heap.size u w') := fun u => (star_any (gs.getD k gd0) kA _ kc u).mono fun e w' ⟨h, hb⟩ => ⟨by rw [h, HSB.out _ rfl], hb⟩
  have d1 : ∀ o : Obj, (w.alloc o).cell? ⟨q, 0, none⟩ = some (.slice (some ⟨b1, o1, none⟩) gs.length c) := fun o => (((Below.refl w.heap.size w).alloc (Nat.le_refl _) o).cell (p := ⟨q, 0, none⟩) hqs).trans (hq.at_ rfl)
  have d1 := d1 (.cells (ndA (gs.getD k gd0) kA (gs.getD k gd0).l.length kc) 39)
  have HOP := hidd h1.op
  clear hx hx2 hI hI2 hg ht hk h1 hq HSB
  have HBD : Hid (∀ z, z = badB ns (ns.getD k nd0) → z = ((ns.getD k nd0).op == 5 && !starB (ns.getD k nd0) && !ctB ns (ns.getD k nd0))) := fun z hz => hz
  generalize hB : badB ns (ns.getD k nd0) = BB
  have HBB : Hid (BB = ((ns.getD k nd0).op == 5 && !starB (ns.getD k nd0) && !ctB ns (ns.getD k nd0))) := hB.symm
  clear hB HBD HE
  generalize hm : (gs.getD k gd0).l.length = m at *
  generalize gs.getD k gd0 = g at *
  generalize ctB ns (ns.getD k nd0) = cb at *
  generalize ns.getD k nd0 = nd at *
  generalize starB nd = sb at *
  generalize gs.length = n at *
  have R := RowA.new w 39 (ndA g kA m kc)
  have hb : Below w.heap.size w (w.alloc (.cells (ndA g kA m kc) 39)) := (Below.refl _ _).alloc (Nat.le_refl _) _
  have hw : w.heap.size < (w.alloc (.cells (ndA g kA m kc) 39)).heap.size := by simp
  obtain ⟨f0, f1, f2, f3, f4, f5, f6, f7, f8⟩ : (w.alloc (.cells (ndA g kA m kc) 39)).cell? ⟨w.heap.size, 0, none⟩ = some (.int .u8 g.op) ∧ (w.alloc (.cells (ndA g kA m kc) 39)).cell? ⟨w.heap.size, 1, none⟩ = some (.int .u64 (W g.s 0)) ∧ (w.alloc (.cells (ndA g kA m kc) 39)).cell? ⟨w.heap.size, 2, none⟩ = some (.int .u64 (W g.s 1)) ∧ (w.alloc (.cells (ndA g kA m kc) 39)).cell? ⟨w.heap.size, 3, none⟩ = some (.int .u64 (W g.s 2)) ∧ (w.alloc (.cells (ndA g kA m kc) 39)).cell? ⟨w.heap.size, 4, none⟩ = some (.int .u64 (W g.s 3)) ∧ (w.alloc (.cells (ndA g kA m kc) 39)).cell? ⟨w.heap.size, 5, none⟩ = some (.slice kA m kc) ∧ (w.alloc (.cells (ndA g kA m kc) 39)).cell? ⟨w.heap.size, 6, none⟩ = some (.int .i64 g.lo) ∧ (w.alloc (.cells (ndA g kA m kc) 39)).cell? ⟨w.heap.size, 7, none⟩ = some (.int .i64 g.hi) ∧ (w.alloc (.cells (ndA g kA m kc) 39)).cell? ⟨w.heap.size, 8, none⟩ = some (.string g.nm) := ⟨R.at_ rfl, R.at_ rfl, R.at_ rfl, R.at_ rfl, R.at_ rfl, R.at_ rfl, R.at_ rfl, R.at_ rfl, R.at_ rfl⟩
  have HR := hidd R
  have HB := hidd hb
  clear R hb
  by_cases h5 : nd.op = 5
  · have h5b : (g.op == 5) = true := by rw [HOP.out, h5]; rfl
    have h5c : (nd.op == 5) = true := by rw [h5]; rfl
    go_enter Try.func21, Try.ntmps21
    go_wp2_with fail
    refine (HST.out _).mono ?_
    rintro e w2 ⟨rfl, b2⟩
    cases sb with
    | true =>
      have HB2 := hidd (HB.out.trans (b2.mono (Nat.le_of_lt hw)))
      clear b2 HST HC
      go_wp2
      go_ret
      exact ⟨by rw [HBB.out, h5c]; rfl, HB2.out⟩
    | false =>
      have HB2 := hidd (HB.out.trans (b2.mono (Nat.le_of_lt hw)))
      have hc := HC.out w2 HB2.out
      have R2 := HR.out.below b2 HR.out.lt
      have e1 := (b2.cell (p := ⟨q, 0, none⟩) (Nat.lt_trans hqs hw)).trans d1
      obtain ⟨y0, y1, y2, y3, y4, y5, y6, y7, y8⟩ : w2.cell? ⟨w.heap.size, 0, none⟩ = some (.int .u8 g.op) ∧ w2.cell? ⟨w.heap.size, 1, none⟩ = some (.int .u64 (W g.s 0)) ∧ w2.cell? ⟨w.heap.size, 2, none⟩ = some (.int .u64 (W g.s 1)) ∧ w2.cell? ⟨w.heap.size, 3, none⟩ = some (.int .u64 (W g.s 2)) ∧ w2.cell? ⟨w.heap.size, 4, none⟩ = some (.int .u64 (W g.s 3)) ∧ w2.cell? ⟨w.heap.size, 5, none⟩ = some (.slice kA m kc) ∧ w2.cell? ⟨w.heap.size, 6, none⟩ = some (.int .i64 g.lo) ∧ w2.cell? ⟨w.heap.size, 7, none⟩ = some (.int .i64 g.hi) ∧ w2.cell? ⟨w.heap.size, 8, none⟩ = some (.string g.nm) := ⟨R2.at_ rfl, R2.at_ rfl, R2.at_ rfl, R2.at_ rfl, R2.at_ rfl, R2.at_ rfl, R2.at_ rfl, R2.at_ rfl, R2.at_ rfl⟩
      clear b2 R2 f0 f1 f2 f3 f4 f5 f6 f7 f8 d1 HR HC HST
      go_wp2_with fail
      refine hc.mono ?_
      rintro e w3 ⟨rfl, b3⟩
      have HB3 := hidd (HB2.out.trans (b3.mono HB2.out.size))
      clear b3 hc
      go_wp2
      go_ret
      exact ⟨by rw [HBB.out, h5c]; cases cb <;> rfl, HB3.out⟩
  · have h5b : (g.op == 5) = false := by rw [HOP.out]; exact beq_eq_false_iff_ne.2 (by omega)
    have h5c : (nd.op == 5) = false := beq_eq_false_iff_ne.2 h5
    clear HST HC HR
    go_enter Try.func21, Try.ntmps21
    go_wp2
    go_ret
    exact ⟨by rw [HBB.out, h5c]; rfl, HB.out⟩
end
end Go.Proofs.Ytaagkfiaccmepaa.Sy.Pl

namespace Go.Proofs.Ytaagkfiaccmepaa.Sy.Pl
open Go.RowKit Go.Proofs.Ytaagkfiaccmepaa.Sy.Ap Go.Proofs.Ytaagkfiaccmepaa.Sy.Lg
set_option maxRecDepth 100000
set_option linter.unusedVariables false

theorem ct_same {gs : List Gd} {ns ms : List Nd} (h : GN gs ns) (h' : GN gs ms) : ns.length = ms.length ∧ ∀ k, ctB ns (ns.getD k nd0) = ctB ms (ms.getD k nd0) ∧ badB ns (ns.getD k nd0) = badB ms (ms.getD k nd0) := by
  have hn := Pn.nes_of h h'
  have hc : ∀ k, ctB ns (ns.getD k nd0) = ctB ms (ms.getD k nd0) := fun k => by
    have h1 := hn.2 k
    unfold ctB
    rw [h1.op, h1.l, h1.lo, h1.hi]
    have h2 := (hn.2 ((ms.getD k nd0).l.getD 0 0)).op
    have h3 : (ns.getD ((ms.getD k nd0).l.getD 0 0) nd00).op = (ms.getD ((ms.getD k nd0).l.getD 0 0) nd00).op := h2
    rw [h3]
  refine ⟨hn.1, fun k => ⟨hc k, ?_⟩⟩
  have h1 := hn.2 k
  unfold badB starB
  rw [hc k, h1.op, h1.lo, h1.hi]
theorem rp_same {gs : List Gd} {ns ms : List Nd} (h : GN gs ns) (h' : GN gs ms) (hr : Rp ns) : Rp ms := by
  obtain ⟨h1, h2⟩ := ct_same h h'
  rw [rp_iff] at hr ⊢
  intro k hk
  rw [← (h2 k).2]
  exact hr k (by omega)
/-- How many repetitions are counted. -/
def ctN (ns : List Nd) : Nat := (List.range ns.length).countP fun i => ctB ns (ns.getD i nd0)
theorem ctN_same {gs : List Gd} {ns ms : List Nd} (h : GN gs ns) (h' : GN gs ms) : ctN ns = ctN ms := by
  obtain ⟨h1, h2⟩ := ct_same h h'
  unfold ctN
  rw [h1]
  congr 1
  funext i
  exact (h2 i).1
section
variable {A : Option Addr} {c : Nat} {gs : List Gd} {ns : List Nd}
set_option maxHeartbeats 1000000 in
theorem idxR_any (A : Option Addr) (c : Nat) (gs : List Gd) (ns : List Nd) (q : Nat) (w : World) (hg : GN gs ns) (ht : TreeN ns) (hx : Nds w q A gs) (hq : RowA w q 22 #[.slice A gs.length c]) :
    Calls Try.prog 35 #[.slice A gs.length c, .func (.func 21) #[] #[.pointer (some ⟨q, 0, none⟩)]] w fun e w' => Below w.heap.size w w' ∧ ∃ r : Int, e = .returned (.int .i64 r) ∧ (r < 0 ↔ Rp ns) := by
  have HRP : Hid (Rp ns ↔ ∀ k, k < gs.length → badB ns (ns.getD k nd0) = false) := by show _ ↔ _; rw [rp_iff, hg.1]
  have hpos : 0 < gs.length := by rw [hg.1]; exact ht.pos
  have hl : gs.length ≤ 2000 := by rw [hg.1]; have := ht.few; omega
  obtain ⟨b1, o1, rfl, hb1, -⟩ := hx.at_ (k := 0) hpos
  have hqs := hq.lt
  have HCL : Hid (∀ k, k < gs.length → ∀ wr, Below w.heap.size w wr → ∃ A3 c3, wr.rangeAt b1 (o1 + k * 9) (gdL (gs.getD k gd0) A3 c3) ∧ Calls Try.prog 21 #[.agg (ndA (gs.getD k gd0) A3 (gs.getD k gd0).l.length c3), .pointer (some ⟨q, 0, none⟩)] wr fun e w' => e = .returned (.bool (badB ns (ns.getD k nd0))) ∧ Below wr.heap.size wr w') := fun k hk wr hb => by
    have hx2 := hx.below (hb.mono (Nat.le_of_lt hqs))
    obtain ⟨b2, o2, e2, hb2, A3, c3, hI, r1⟩ := hx2.at_ (k := k) hk
    injection e2 with e2
    injection e2 with e3 e4
    subst e3 e4
    exact ⟨A3, c3, r1, rg1_any hg ht hk hx2 (hq.below hb hqs) hI⟩
  clear hx hq hg ht hpos
  generalize hn : gs.length = n at *
  clear hn
  go_enter Try.func35, Try.ntmps35
  go_wp2
  go_loopw [8] (fun s8 wr => ∃ k : Nat, k ≤ n ∧ s8 = .int .i64 (k : Int) ∧ (∀ i, i < k → badB ns (ns.getD i nd0) = false) ∧ Below w.heap.size w wr) (fun s8 _ => n - (intOf s8).toNat)
  case atStart => exact ⟨0, Nat.zero_le _, rfl, fun i hi => absurd hi (Nat.not_lt_zero _), Below.refl _ _⟩
  case round =>
    obtain ⟨k, hk0, rfl, hp, hb⟩ := hrel
    have HP := hidd hp
    have HB := hidd hb
    clear hp hb
    by_cases hlt : k < n
    · obtain ⟨A3, c3, r1, hcl⟩ := HCL.out k hlt wr HB.out
      have hki : (k : Int) < (n : Int) := by omega
      have HPK : Hid (badB ns (ns.getD k nd0) = false → ∀ i, i < k + 1 → badB ns (ns.getD i nd0) = false) := fun q i hi => by
        by_cases e : i = k
        · subst e; exact q
        · exact HP.out i (by omega)
      have HNP : Hid (badB ns (ns.getD k nd0) = true → ¬ Rp ns) := fun q h => by
        have := HRP.out.1 h k hlt
        rw [q] at this
        cases this
      generalize badB ns (ns.getD k nd0) = bb at *
      generalize gs.getD k gd0 = g at *
      go_wp2_with (refine wpList_load_mid rfl 39 (.tmp 14) rfl b1 (o1 + k * 9) rfl (gdL g A3 c3) _ r1 Try.underlying39 rfl (gdL_info g A3 c3) ?_)
      refine hcl.mono ?_
      rintro e w2 ⟨rfl, b2⟩
      have HB2 := hidd (HB.out.trans (b2.mono HB.out.size))
      clear hcl r1 b2
      cases bb with
      | true =>
        have HN := hidd (HNP.out rfl)
        clear HNP HPK
        go_wp2
        go_ret
        exact ⟨HB2.out, _, rfl, (fun h => by omega), fun h => absurd h HN.out⟩
      | false =>
        have HN := hidd (HPK.out rfl)
        clear HNP HPK
        go_wp2
        exact ⟨⟨k + 1, by omega, rfl, HN.out, HB2.out⟩, by simp [intOf]; omega⟩
    · have hke : k = n := by omega
      subst hke
      have HN : Hid (Rp ns) := HRP.out.2 HP.out
      go_wp2
      go_ret
      exact ⟨HB.out, _, rfl, (fun _ => HN.out), fun _ => by omega⟩
set_option maxHeartbeats 400000 in
theorem hasB_any (A : Option Addr) (c : Nat) (gs : List Gd) (ns : List Nd) (q : Nat) (w : World) (hg : GN gs ns) (ht : TreeN ns) (hx : Nds w q A gs) (hq : RowA w q 22 #[.slice A gs.length c]) :
    Calls Try.prog 20 #[.slice A gs.length c, .func (.func 21) #[] #[.pointer (some ⟨q, 0, none⟩)]] w fun e w' => Below w.heap.size w w' ∧ ∃ z, e = .returned (.bool z) ∧ (z = false ↔ Rp ns) := by
  have hi := idxR_any A c gs ns q w hg ht hx hq
  clear hx hq hg ht
  generalize gs.length = n at *
  go_enter Try.func20, Try.ntmps20
  go_wp2_with fail
  refine hi.mono ?_
  rintro e w1 ⟨b1, r, rfl, hr⟩
  have HB := hidd b1
  have HR := hidd hr
  clear hi b1 hr
  go_wp2
  go_ret
  refine ⟨HB.out, _, rfl, ?_⟩
  rw [decide_eq_false_iff_not, ← HR.out]
  omega
set_option maxHeartbeats 400000 in
theorem rightP_any (A : Option Addr) (c : Nat) (gs : List Gd) (w : World) (hx : Nds w w.heap.size A gs) (hl : gs.length ≤ 2000) (hsm : Small gs) :
    Calls Try.prog 10 #[.slice A gs.length c] w fun e w' => (∃ z, e = .returned (.bool z) ∧ (z = true ↔ RgtP gs)) ∧ Below w.heap.size w w' := by
  have hb : Below w.heap.size w (w.alloc (.cells #[.slice A gs.length c] 22)) := (Below.refl _ _).alloc (Nat.le_refl _) _
  have R := RowA.new w 22 #[.slice A gs.length c]
  have d0 : (w.alloc (.cells #[.slice A gs.length c] 22)).cell? ⟨w.heap.size, 0, none⟩ = some (.slice A gs.length c) := R.at_ rfl
  have hN := nameless_any A c gs _ ((hx.below hb).more hb.size) hl hsm
  have HH : Hid (∀ w' ns, Below (w.heap.size + 1) (w.alloc (.cells #[.slice A gs.length c] 22)) w' → GN gs ns → TreeN ns → Calls Try.prog 20 #[.slice A gs.length c, .func (.func 21) #[] #[.pointer (some ⟨w.heap.size, 0, none⟩)]] w' fun e w'' => Below w'.heap.size w' w'' ∧ ∃ z, e = .returned (.bool z) ∧ (z = false ↔ Rp ns)) := fun w' ns hb2 hg ht => hasB_any A c gs ns w.heap.size w' hg ht (hx.below (hb.trans (hb2.mono (by omega)))) (R.below hb2 (by omega))
  have hs1 : (w.alloc (.cells #[.slice A gs.length c] 22)).heap.size = w.heap.size + 1 := World.size_alloc ..
  rw [← hs1] at HH
  have HB0 := hidd hb
  have hw : w.heap.size < (w.alloc (.cells #[.slice A gs.length c] 22)).heap.size := by omega
  have HG : Hid (PlainG gs → ∃ ns, GN gs ns ∧ TreeN ns ∧ PlainN ns) := fun h => by
    obtain ⟨ns0, hg0, -⟩ := h.2
    exact tree_of hg0 h
  have HRG : Hid (∀ ns, GN gs ns → TreeN ns → PlainN ns → (RgtP gs ↔ Rp ns)) := fun ns h1 h2 h3 => ⟨fun ⟨ms, g1, g2, g3, g4⟩ => rp_same g1 h1 g4, fun h => ⟨ns, h1, h2, h3, h⟩⟩
  have HNG : Hid (RgtP gs → PlainG gs) := fun ⟨ms, g1, g2, g3, g4⟩ => plain_of g1 g2 g3
  clear hx hl hsm hb R hs1
  generalize gs.length = n at *
  go_enter Try.func10, Try.ntmps10
  go_wp2_with fail
  refine hN.mono ?_
  rintro e w1 ⟨z, rfl, hz, b1⟩
  have HZ := hidd hz
  have HB1 := hidd b1
  have e0 := (b1.cell (p := ⟨w.heap.size, 0, none⟩) hw).trans d0
  clear hN b1 hz d0
  cases z with
  | false =>
    have HB := hidd (HB0.out.trans (HB1.out.mono (Nat.le_of_lt hw)))
    clear HH HB1 HB0
    go_wp2
    go_ret
    exact ⟨⟨false, rfl, (fun q => by cases q), fun q => HZ.out.2 (HNG.out q)⟩, HB.out⟩
  | true =>
    obtain ⟨ns, hg, ht, hp⟩ := HG.out (HZ.out.1 (by trivial))
    have hc := HH.out w1 ns HB1.out hg ht
    have HR := hidd (HRG.out ns hg ht hp)
    have HB := hidd (HB0.out.trans (HB1.out.mono (Nat.le_of_lt hw)))
    clear HH HB1 HB0 hg ht hp HG HRG
    go_wp2_with fail
    refine hc.mono ?_
    rintro e w2 ⟨b2, y, rfl, hy⟩
    have HB2 := hidd (HB.out.trans (b2.mono HB.out.size))
    have HY := hidd hy
    clear hc b2 hy
    go_wp2
    go_ret
    refine ⟨⟨!y, rfl, ?_⟩, HB2.out⟩
    rw [HR.out, ← HY.out]
    cases y <;> simp
end
end Go.Proofs.Ytaagkfiaccmepaa.Sy.Pl

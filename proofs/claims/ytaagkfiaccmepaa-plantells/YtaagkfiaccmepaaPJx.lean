/- The landed Right and Counted: what they tell. -/
import Derived.Test.YtaagkfiaccmepaaPJv
import Derived.Test.YtaagkfiaccmepaaPDh
namespace Go.Proofs.Ytaagkfiaccmepaa.Sy.Pl
open Go.RowKit Go.Proofs.Ytaagkfiaccmepaa.Sy.Ap Go.Proofs.Ytaagkfiaccmepaa.Sy.Lg
set_option maxRecDepth 100000
set_option linter.unusedVariables false

theorem ct_same {gs : List Gd} {ns ms : List Nd} (h : GN gs ns) (h' : GN gs ms) : ns.length = ms.length ∧ ∀ k, ctB ns (ns.getD k nd0) = ctB ms (ms.getD k nd0) ∧ badB ns (ns.getD k nd0) = badB ms (ms.getD k nd0) := by
  have hn := Pn.nes_of h h'
  have hc : ∀ k, ctB ns (ns.getD k nd0) = ctB ms (ms.getD k nd0) := fun k => by
    have h1 := hn.2 k
    unfold ctB
    rw [h1.op, h1.l, h1.lo, h1.hi]
    have h2 := (hn.2 ((ms.getD k nd0).l.getD 0 0)).op
    have h3 : (ns.getD ((ms.getD k nd0).l.getD 0 0) nd00).op = (ms.getD ((ms.getD k nd0).l.getD 0 0) nd00).op := h2
    rw [h3]
  refine ⟨hn.1, fun k => ⟨hc k, ?_⟩⟩
  have h1 := hn.2 k
  unfold badB starB
  rw [hc k, h1.op, h1.lo, h1.hi]
theorem rp_same {gs : List Gd} {ns ms : List Nd} (h : GN gs ns) (h' : GN gs ms) (hr : Rp ns) : Rp ms := by
  obtain ⟨h1, h2⟩ := ct_same h h'
  rw [rp_iff] at hr ⊢
  intro k hk
  rw [← (h2 k).2]
  exact hr k (by omega)
/-- How many repetitions are counted. -/
def ctN (ns : List Nd) : Nat := (List.range ns.length).countP fun i => ctB ns (ns.getD i nd0)
theorem ctN_same {gs : List Gd} {ns ms : List Nd} (h : GN gs ns) (h' : GN gs ms) : ctN ns = ctN ms := by
  obtain ⟨h1, h2⟩ := ct_same h h'
  unfold ctN
  rw [h1]
  congr 1
  funext i
  exact (h2 i).1
section
variable {A : Option Addr} {c : Nat} {gs : List Gd} {ns : List Nd}
set_option maxHeartbeats 1000000 in
theorem idxR_any (A : Option Addr) (c : Nat) (gs : List Gd) (ns : List Nd) (q : Nat) (w : World) (hg : GN gs ns) (ht : TreeN ns) (hx : Nds w q A gs) (hq : RowA w q 22 #[.slice A gs.length c]) :
    Calls Try.prog 35 #[.slice A gs.length c, .func (.func 21) #[] #[.pointer (some ⟨q, 0, none⟩)]] w fun e w' => Below w.heap.size w w' ∧ ∃ r : Int, e = .returned (.int .i64 r) ∧ (r < 0 ↔ Rp ns) := by
  have HRP : Hid (Rp ns ↔ ∀ k, k < gs.length → badB ns (ns.getD k nd0) = false) := by show _ ↔ _; rw [rp_iff, hg.1]
  have hpos : 0 < gs.length := by rw [hg.1]; exact ht.pos
  have hl : gs.length ≤ 2000 := by rw [hg.1]; have := ht.few; omega
  obtain ⟨b1, o1, rfl, hb1, -⟩ := hx.at_ (k := 0) hpos
  have hqs := hq.lt
  have HCL : Hid (∀ k, k < gs.length → ∀ wr, Below w.heap.size w wr → ∃ A3 c3, wr.rangeAt b1 (o1 + k * 9) (gdL (gs.getD k gd0) A3 c3) ∧ Calls Try.prog 21 #[.agg (ndA (gs.getD k gd0) A3 (gs.getD k gd0).l.length c3), .pointer (some ⟨q, 0, none⟩)] wr fun e w' => e = .returned (.bool (badB ns (ns.getD k nd0))) ∧ Below wr.heap.size wr w') := fun k hk wr hb => by
    have hx2 := hx.below (hb.mono (Nat.le_of_lt hqs))
    obtain ⟨b2, o2, e2, hb2, A3, c3, hI, r1⟩ := hx2.at_ (k := k) hk
    injection e2 with e2
    injection e2 with e3 e4
    subst e3 e4
    exact ⟨A3, c3, r1, rg1_any hg ht hk hx2 (hq.below hb hqs) hI⟩
  clear hx hq hg ht hpos
  generalize hn : gs.length = n at *
  clear hn
  go_enter Try.func35, Try.ntmps35
  go_wp2
  go_loopw [8] (fun s8 wr => ∃ k : Nat, k ≤ n ∧ s8 = .int .i64 (k : Int) ∧ (∀ i, i < k → badB ns (ns.getD i nd0) = false) ∧ Below w.heap.size w wr) (fun s8 _ => n - (intOf s8).toNat)
  case atStart => exact ⟨0, Nat.zero_le _, rfl, fun i hi => absurd hi (Nat.not_lt_zero _), Below.refl _ _⟩
  case round =>
    obtain ⟨k, hk0, rfl, hp, hb⟩ := hrel
    have HP := hidd hp
    have HB := hidd hb
    clear hp hb
    by_cases hlt : k < n
    · obtain ⟨A3, c3, r1, hcl⟩ := HCL.out k hlt wr HB.out
      have hki : (k : Int) < (n : Int) := by omega
      have HPK : Hid (badB ns (ns.getD k nd0) = false → ∀ i, i < k + 1 → badB ns (ns.getD i nd0) = false) := fun q i hi => by
        by_cases e : i = k
        · subst e; exact q
        · exact HP.out i (by omega)
      have HNP : Hid (badB ns (ns.getD k nd0) = true → ¬ Rp ns) := fun q h => by
        have := HRP.out.1 h k hlt
        rw [q] at this
        cases this
      generalize badB ns (ns.getD k nd0) = bb at *
      generalize gs.getD k gd0 = g at *
      go_wp2_with (refine wpList_load_mid rfl 39 (.tmp 14) rfl b1 (o1 + k * 9) rfl (gdL g A3 c3) _ r1 Try.underlying39 rfl (gdL_info g A3 c3) ?_)
      refine hcl.mono ?_
      rintro e w2 ⟨rfl, b2⟩
      have HB2 := hidd (HB.out.trans (b2.mono HB.out.size))
      clear hcl r1 b2
      cases bb with
      | true =>
        have HN := hidd (HNP.out rfl)
        clear HNP HPK
        go_wp2
        go_ret
        exact ⟨HB2.out, _, rfl, (fun h => by omega), fun h => absurd h HN.out⟩
      | false =>
        have HN := hidd (HPK.out rfl)
        clear HNP HPK
        go_wp2
        exact ⟨⟨k + 1, by omega, rfl, HN.out, HB2.out⟩, by simp [intOf]; omega⟩
    · have hke : k = n := by omega
      subst hke
      have HN : Hid (Rp ns) := HRP.out.2 HP.out
      go_wp2
      go_ret
      exact ⟨HB.out, _, rfl, (fun _ => HN.out), fun _ => by omega⟩
set_option maxHeartbeats 400000 in
theorem hasB_any (A : Option Addr) (c : Nat) (gs : List Gd) (ns : List Nd) (q : Nat) (w : World) (hg : GN gs ns) (ht : TreeN ns) (hx : Nds w q A gs) (hq : RowA w q 22 #[.slice A gs.length c]) :
    Calls Try.prog 20 #[.slice A gs.length c, .func (.func 21) #[] #[.pointer (some ⟨q, 0, none⟩)]] w fun e w' => Below w.heap.size w w' ∧ ∃ z, e = .returned (.bool z) ∧ (z = false ↔ Rp ns) := by
  have hi := idxR_any A c gs ns q w hg ht hx hq
  clear hx hq hg ht
  generalize gs.length = n at *
  go_enter Try.func20, Try.ntmps20
  go_wp2_with fail
  refine hi.mono ?_
  rintro e w1 ⟨b1, r, rfl, hr⟩
  have HB := hidd b1
  have HR := hidd hr
  clear hi b1 hr
  go_wp2
  go_ret
  refine ⟨HB.out, _, rfl, ?_⟩
  rw [decide_eq_false_iff_not, ← HR.out]
  omega
set_option maxHeartbeats 400000 in
theorem rightP_any (A : Option Addr) (c : Nat) (gs : List Gd) (w : World) (hx : Nds w w.heap.size A gs) (hl : gs.length ≤ 2000) (hsm : Small gs) :
    Calls Try.prog 10 #[.slice A gs.length c] w fun e w' => (∃ z, e = .returned (.bool z) ∧ (z = true ↔ RgtP gs)) ∧ Below w.heap.size w w' := by
  have hb : Below w.heap.size w (w.alloc (.cells #[.slice A gs.length c] 22)) := (Below.refl _ _).alloc (Nat.le_refl _) _
  have R := RowA.new w 22 #[.slice A gs.length c]
  have d0 : (w.alloc (.cells #[.slice A gs.length c] 22)).cell? ⟨w.heap.size, 0, none⟩ = some (.slice A gs.length c) := R.at_ rfl
  have hN := nameless_any A c gs _ ((hx.below hb).more hb.size) hl hsm
  have HH : Hid (∀ w' ns, Below (w.heap.size + 1) (w.alloc (.cells #[.slice A gs.length c] 22)) w' → GN gs ns → TreeN ns → Calls Try.prog 20 #[.slice A gs.length c, .func (.func 21) #[] #[.pointer (some ⟨w.heap.size, 0, none⟩)]] w' fun e w'' => Below w'.heap.size w' w'' ∧ ∃ z, e = .returned (.bool z) ∧ (z = false ↔ Rp ns)) := fun w' ns hb2 hg ht => hasB_any A c gs ns w.heap.size w' hg ht (hx.below (hb.trans (hb2.mono (by omega)))) (R.below hb2 (by omega))
  have hs1 : (w.alloc (.cells #[.slice A gs.length c] 22)).heap.size = w.heap.size + 1 := World.size_alloc ..
  rw [← hs1] at HH
  have HB0 := hidd hb
  have hw : w.heap.size < (w.alloc (.cells #[.slice A gs.length c] 22)).heap.size := by omega
  have HG : Hid (PlainG gs → ∃ ns, GN gs ns ∧ TreeN ns ∧ PlainN ns) := fun h => by
    obtain ⟨ns0, hg0, -⟩ := h.2
    exact tree_of hg0 h
  have HRG : Hid (∀ ns, GN gs ns → TreeN ns → PlainN ns → (RgtP gs ↔ Rp ns)) := fun ns h1 h2 h3 => ⟨fun ⟨ms, g1, g2, g3, g4⟩ => rp_same g1 h1 g4, fun h => ⟨ns, h1, h2, h3, h⟩⟩
  have HNG : Hid (RgtP gs → PlainG gs) := fun ⟨ms, g1, g2, g3, g4⟩ => plain_of g1 g2 g3
  clear hx hl hsm hb R hs1
  generalize gs.length = n at *
  go_enter Try.func10, Try.ntmps10
  go_wp2_with fail
  refine hN.mono ?_
  rintro e w1 ⟨z, rfl, hz, b1⟩
  have HZ := hidd hz
  have HB1 := hidd b1
  have e0 := (b1.cell (p := ⟨w.heap.size, 0, none⟩) hw).trans d0
  clear hN b1 hz d0
  cases z with
  | false =>
    have HB := hidd (HB0.out.trans (HB1.out.mono (Nat.le_of_lt hw)))
    clear HH HB1 HB0
    go_wp2
    go_ret
    exact ⟨⟨false, rfl, (fun q => by cases q), fun q => HZ.out.2 (HNG.out q)⟩, HB.out⟩
  | true =>
    obtain ⟨ns, hg, ht, hp⟩ := HG.out (HZ.out.1 (by trivial))
    have hc := HH.out w1 ns HB1.out hg ht
    have HR := hidd (HRG.out ns hg ht hp)
    have HB := hidd (HB0.out.trans (HB1.out.mono (Nat.le_of_lt hw)))
    clear HH HB1 HB0 hg ht hp HG HRG
    go_wp2_with fail
    refine hc.mono ?_
    rintro e w2 ⟨b2, y, rfl, hy⟩
    have HB2 := hidd (HB.out.trans (b2.mono HB.out.size))
    have HY := hidd hy
    clear hc b2 hy
    go_wp2
    go_ret
    refine ⟨⟨!y, rfl, ?_⟩, HB2.out⟩
    rw [HR.out, ← HY.out]
    cases y <;> simp
end
end Go.Proofs.Ytaagkfiaccmepaa.Sy.Pl

namespace Go.Proofs.Ytaagkfiaccmepaa.Sy.Pl
open Go.RowKit Go.Proofs.Ytaagkfiaccmepaa.Sy.Ap Go.Proofs.Ytaagkfiaccmepaa.Sy.Lg
set_option maxRecDepth 100000
set_option linter.unusedVariables false

def cntK (ns : List Nd) (k : Nat) : Nat := (List.range k).countP fun i => ctB ns (ns.getD i nd0)
theorem cntK_succ (ns : List Nd) (k : Nat) : cntK ns (k + 1) = cntK ns k + if ctB ns (ns.getD k nd0) then 1 else 0 := by
  unfold cntK
  rw [List.range_succ, List.countP_append, List.countP_singleton]
theorem cntK_le (ns : List Nd) (k : Nat) : cntK ns k ≤ k := by
  unfold cntK
  have := List.countP_le_length (p := fun i => ctB ns (ns.getD i nd0)) (l := List.range k)
  rw [List.length_range] at this
  exact this
/-- What Counted tells. -/
def CntR (gs : List Gd) (w : World) (e : Ending) (w' : World) : Prop :=
  Below w.heap.size w w' ∧ ∃ r : Nat, e = .returned (.int .i64 (r : Int)) ∧ (¬ RgtP gs → r = 0) ∧ (∀ ns, GN gs ns → TreeN ns → PlainN ns → Rp ns → r = ctN ns)
set_option maxHeartbeats 1000000 in
theorem counted_any (A : Option Addr) (c : Nat) (gs : List Gd) (w : World) (hx : Nds w w.heap.size A gs) (hl : gs.length ≤ 2000) (hsm : Small gs) :
    Calls Try.prog 12 #[.slice A gs.length c] w fun e w' => CntR gs w e w' := by
  have hR := rightP_any A c gs w hx hl hsm
  have HX := hidd hx
  clear hsm
  by_cases hr : RgtP gs
  · obtain ⟨ns, hg, ht, hp, hrp⟩ := hr
    have hpos : 0 < gs.length := by rw [hg.1]; exact ht.pos
    obtain ⟨b1, o1, rfl, hb1, -⟩ := hx.at_ (k := 0) hpos
    have HRG : Hid (RgtP gs) := ⟨ns, hg, ht, hp, hrp⟩
    have HCN : Hid (∀ ms, GN gs ms → ctN ms = ctN ns) := fun ms hm => ctN_same hm hg
    have HLN : Hid (ctN ns = cntK ns gs.length) := by show _ = _; unfold ctN cntK; rw [hg.1]
    have HCL : Hid (∀ k, k < gs.length → ∀ wr, Below w.heap.size w wr → ∃ A3 c3, wr.rangeAt b1 (o1 + k * 9) (gdL (gs.getD k gd0) A3 c3) ∧ ∀ u, Below wr.heap.size wr u → Calls Try.prog 23 #[.agg (ndA (gs.getD k gd0) A3 (gs.getD k gd0).l.length c3), .slice (some ⟨b1, o1, none⟩) gs.length c] u fun e w' => e = .returned (.bool (ctB ns (ns.getD k nd0))) ∧ Below u.heap.size u w') := fun k hk wr hb => by
      have hx2 := (HX.out.below hb).more hb.size
      obtain ⟨b2, o2, e2, hb2, A3, c3, hI, r1⟩ := hx2.at_ (k := k) hk
      injection e2 with e2
      injection e2 with e3 e4
      subst e3 e4
      exact ⟨A3, c3, r1, fun u hu => cnt_nd hg ht hk hx2 hu hI⟩
    clear hx hg ht hp hrp hpos HX
    generalize hn : gs.length = n at *
    clear hn
    go_enter Try.func12, Try.ntmps12
    go_wp2_with fail
    refine hR.mono ?_
    rintro e w1 ⟨⟨z, rfl, hz⟩, b1'⟩
    have hzt : z = true := hz.2 HRG.out
    subst hzt
    have HB1 := hidd b1'
    clear hR b1' hz
    go_wp2
    go_loopw [3, 11] (fun s3 s11 wr => ∃ k : Nat, k ≤ n ∧ s11 = .int .i64 (k : Int) ∧ s3 = .int .i64 ((cntK ns k : Nat) : Int) ∧ Below w.heap.size w wr) (fun _ s11 _ => n - (intOf s11).toNat)
    case atStart => exact ⟨0, Nat.zero_le _, rfl, rfl, HB1.out⟩
    case round =>
      obtain ⟨k, hk0, rfl, rfl, hb⟩ := hrel
      have HB := hidd hb
      by_cases hlt : k < n
      · obtain ⟨A3, c3, r1, hcl⟩ := HCL.out k hlt wr hb
        have hki : (k : Int) < (n : Int) := by omega
        have HS := hidd (cntK_succ ns k)
        have hle := cntK_le ns k
        have HCL2 := hidd hcl
        clear hcl hb
        generalize ctB ns (ns.getD k nd0) = cb at *
        generalize gs.getD k gd0 = g at *
        generalize hm : g.l.length = m at *
        generalize hck : cntK ns k = ck at *
        clear hck
        have Z1 := RowA.new wr 39 zeroC
        have hW1 : Below wr.heap.size wr ((wr.alloc (.cells zeroC 39)).setRow wr.heap.size (gdL g A3 c3).toArray) := bel_setRow ((Below.refl _ _).alloc (Nat.le_refl _) _) _ _ (Nat.le_refl _)
        have R1 := Z1.row (gdL g A3 c3).toArray
        go_upto_region 7 with (first
          | refine wpList_load_mid rfl 39 (.tmp 13) rfl b1 (o1 + k * 9) rfl (gdL g A3 c3) _ r1 Try.underlying39 rfl (gdL_info g A3 c3) ?_
          | refine wpList_store_row rfl 39 (.tmp 5) (.tmp 14) rfl wr.heap.size (gdL g A3 c3).toArray rfl rfl 39 zeroC Z1 (gdL_infoA g A3 c3) rfl (gdL_one g A3 c3) ?_)
        have hrow : (gdL g A3 c3).toArray = ndA g A3 m c3 := by unfold gdL; rw [hm]
        have hc := HCL2.out _ hW1
        have HB2 := hidd (HB.out.trans (hW1.mono HB.out.size))
        change RowA ((wr.alloc (.cells zeroC 39)).setRow wr.heap.size (gdL g A3 c3).toArray) _ _ _ at R1
        generalize (wr.alloc (.cells zeroC 39)).setRow wr.heap.size (gdL g A3 c3).toArray = w2 at *
        rw [hrow] at R1
        rw [put_non]
        obtain ⟨q, hq⟩ : ∃ q, wr.heap.size = q := ⟨_, rfl⟩
        rw [hq] at R1
        rw [hq]
        obtain ⟨y0, y1, y2, y3, y4, y5, y6, y7, y8⟩ : w2.cell? ⟨q, 0, none⟩ = some (.int .u8 g.op) ∧ w2.cell? ⟨q, 1, none⟩ = some (.int .u64 (W g.s 0)) ∧ w2.cell? ⟨q, 2, none⟩ = some (.int .u64 (W g.s 1)) ∧ w2.cell? ⟨q, 3, none⟩ = some (.int .u64 (W g.s 2)) ∧ w2.cell? ⟨q, 4, none⟩ = some (.int .u64 (W g.s 3)) ∧ w2.cell? ⟨q, 5, none⟩ = some (.slice A3 m c3) ∧ w2.cell? ⟨q, 6, none⟩ = some (.int .i64 g.lo) ∧ w2.cell? ⟨q, 7, none⟩ = some (.int .i64 g.hi) ∧ w2.cell? ⟨q, 8, none⟩ = some (.string g.nm) := ⟨R1.at_ rfl, R1.at_ rfl, R1.at_ rfl, R1.at_ rfl, R1.at_ rfl, R1.at_ rfl, R1.at_ rfl, R1.at_ rfl, R1.at_ rfl⟩
        clear Z1 r1 hq hW1 R1 hrow HCL2
        go_wp2_with fail
        refine hc.mono ?_
        rintro e w3 ⟨rfl, b3⟩
        have HB3 := hidd (HB2.out.trans (b3.mono HB2.out.size))
        clear hc b3 y0 y1 y2 y3 y4 y5 y6 y7 y8
        cases cb with
        | true =>
          go_wp2
          exact ⟨⟨k + 1, by omega, rfl, by rw [HS.out]; rfl, HB3.out⟩, by simp [intOf]; omega⟩
        | false =>
          go_wp2
          exact ⟨⟨k + 1, by omega, rfl, by rw [HS.out]; rfl, HB3.out⟩, by simp [intOf]; omega⟩
      · have hke : k = n := by omega
        subst hke
        go_wp2
        go_ret
        exact ⟨HB.out, cntK ns k, rfl, fun q => absurd HRG.out q, fun ms h1 _ _ _ => by rw [HCN.out ms h1, HLN.out]⟩
  · have HNR := hidd hr
    clear hx HX
    generalize gs.length = n at *
    go_enter Try.func12, Try.ntmps12
    go_wp2_with fail
    refine hR.mono ?_
    rintro e w1 ⟨⟨z, rfl, hz⟩, b1'⟩
    have hzf : z = false := by
      cases z with
      | false => rfl
      | true => exact absurd (hz.1 rfl) hr
    subst hzf
    have HB1 := hidd b1'
    clear hR b1' hz hr
    go_wp2
    go_ret
    exact ⟨HB1.out, 0, rfl, fun _ => rfl, fun ns h1 h2 h3 h4 => absurd ⟨ns, h1, h2, h3, h4⟩ HNR.out⟩
end Go.Proofs.Ytaagkfiaccmepaa.Sy.Pl

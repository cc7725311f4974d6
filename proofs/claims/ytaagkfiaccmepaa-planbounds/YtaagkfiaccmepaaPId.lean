/- The landed Counted. -/
import Derived.Test.YtaagkfiaccmepaaPJw
import Derived.Test.YtaagkfiaccmepaaPJr
import Derived.Test.YtaagkfiaccmepaaPJc
import Derived.Test.YtaagkfiaccmepaaPJo
namespace Go.Proofs.Ytaagkfiaccmepaa.Sy.Pl
open Go.RowKit Go.Proofs.Ytaagkfiaccmepaa.Sy.Ap Go.Proofs.Ytaagkfiaccmepaa.Sy.Lg
set_option maxRecDepth 100000
set_option linter.unusedVariables false

def cntK (ns : List Nd) (k : Nat) : Nat := (List.range k).countP fun i => ctB ns (ns.getD i nd0)
theorem cntK_succ (ns : List Nd) (k : Nat) : cntK ns (k + 1) = cntK ns k + if ctB ns (ns.getD k nd0) then 1 else 0 := by
  unfold cntK
  rw [List.range_succ, List.countP_append, List.countP_singleton]
theorem cntK_le (ns : List Nd) (k : Nat) : cntK ns k ≤ k := by
  unfold cntK
  have := List.countP_le_length (p := fun i => ctB ns (ns.getD i nd0)) (l := List.range k)
  rw [List.length_range] at this
  exact this
/-- What Counted tells. -/
def CntR (gs : List Gd) (w : World) (e : Ending) (w' : World) : Prop :=
  Below w.heap.size w w' ∧ ∃ r : Nat, e = .returned (.int .i64 (r : Int)) ∧ (¬ RgtP gs → r = 0) ∧ (∀ ns, GN gs ns → TreeN ns → PlainN ns → Rp ns → r = ctN ns)
set_option maxHeartbeats 1000000 in
theorem counted_any (A : Option Addr) (c : Nat) (gs : List Gd) (w : World) (hx : Nds w w.heap.size A gs) (hl : gs.length ≤ 2000) (hsm : Small gs) :
    Calls Try.prog 12 #[.slice A gs.length c] w fun e w' => CntR gs w e w' := by
  have hR := rightP_any A c gs w hx hl hsm
  have HX := hidd hx
  clear hsm
  by_cases hr : RgtP gs
  · obtain ⟨ns, hg, ht, hp, hrp⟩ := hr
    have hpos : 0 < gs.length := by rw [hg.1]; exact ht.pos
    obtain ⟨b1, o1, rfl, hb1, -⟩ := hx.at_ (k := 0) hpos
    have HRG : Hid (RgtP gs) := ⟨ns, hg, ht, hp, hrp⟩
    have HCN : Hid (∀ ms, GN gs ms → ctN ms = ctN ns) := fun ms hm => ctN_same hm hg
    have HLN : Hid (ctN ns = cntK ns gs.length) := by show _ = _; unfold ctN cntK; rw [hg.1]
    have HCL : Hid (∀ k, k < gs.length → ∀ wr, Below w.heap.size w wr → ∃ A3 c3, wr.rangeAt b1 (o1 + k * 9) (gdL (gs.getD k gd0) A3 c3) ∧ ∀ u, Below wr.heap.size wr u → Calls Try.prog 23 #[.agg (ndA (gs.getD k gd0) A3 (gs.getD k gd0).l.length c3), .slice (some ⟨b1, o1, none⟩) gs.length c] u fun e w' => e = .returned (.bool (ctB ns (ns.getD k nd0))) ∧ Below u.heap.size u w') := fun k hk wr hb => by
      have hx2 := (HX.out.below hb).more hb.size
      obtain ⟨b2, o2, e2, hb2, A3, c3, hI, r1⟩ := hx2.at_ (k := k) hk
      injection e2 with e2
      injection e2 with e3 e4
      subst e3 e4
      exact ⟨A3, c3, r1, fun u hu => cnt_nd hg ht hk hx2 hu hI⟩
    clear hx hg ht hp hrp hpos HX
    generalize hn : gs.length = n at *
    clear hn
    go_enter Try.func12, Try.ntmps12
    go_wp2_with fail
    refine hR.mono ?_
    rintro e w1 ⟨⟨z, rfl, hz⟩, b1'⟩
    have hzt : z = true := hz.2 HRG.out
    subst hzt
    have HB1 := hidd b1'
    clear hR b1' hz
    go_wp2
    go_loopw [3, 11] (fun s3 s11 wr => ∃ k : Nat, k ≤ n ∧ s11 = .int .i64 (k : Int) ∧ s3 = .int .i64 ((cntK ns k : Nat) : Int) ∧ Below w.heap.size w wr) (fun _ s11 _ => n - (intOf s11).toNat)
    case atStart => exact ⟨0, Nat.zero_le _, rfl, rfl, HB1.out⟩
    case round =>
      obtain ⟨k, hk0, rfl, rfl, hb⟩ := hrel
      have HB := hidd hb
      by_cases hlt : k < n
      · obtain ⟨A3, c3, r1, hcl⟩ := HCL.out k hlt wr hb
        have hki : (k : Int) < (n : Int) := by omega
        have HS := hidd (cntK_succ ns k)
        have hle := cntK_le ns k
        have HCL2 := hidd hcl
        clear hcl hb
        generalize ctB ns (ns.getD k nd0) = cb at *
        generalize gs.getD k gd0 = g at *
        generalize hm : g.l.length = m at *
        generalize hck : cntK ns k = ck at *
        clear hck
        have Z1 := RowA.new wr 39 zeroC
        have hW1 : Below wr.heap.size wr ((wr.alloc (.cells zeroC 39)).setRow wr.heap.size (gdL g A3 c3).toArray) := bel_setRow ((Below.refl _ _).alloc (Nat.le_refl _) _) _ _ (Nat.le_refl _)
        have R1 := Z1.row (gdL g A3 c3).toArray
        go_upto_region 7 with (first
          | refine wpList_load_mid rfl 39 (.tmp 13) rfl b1 (o1 + k * 9) rfl (gdL g A3 c3) _ r1 Try.underlying39 rfl (gdL_info g A3 c3) ?_
          | refine wpList_store_row rfl 39 (.tmp 5) (.tmp 14) rfl wr.heap.size (gdL g A3 c3).toArray rfl rfl 39 zeroC Z1 (gdL_infoA g A3 c3) rfl (gdL_one g A3 c3) ?_)
        have hrow : (gdL g A3 c3).toArray = ndA g A3 m c3 := by unfold gdL; rw [hm]
        have hc := HCL2.out _ hW1
        have HB2 := hidd (HB.out.trans (hW1.mono HB.out.size))
        change RowA ((wr.alloc (.cells zeroC 39)).setRow wr.heap.size (gdL g A3 c3).toArray) _ _ _ at R1
        generalize (wr.alloc (.cells zeroC 39)).setRow wr.heap.size (gdL g A3 c3).toArray = w2 at *
        rw [hrow] at R1
        rw [put_non]
        obtain ⟨q, hq⟩ : ∃ q, wr.heap.size = q := ⟨_, rfl⟩
        rw [hq] at R1
        rw [hq]
        obtain ⟨y0, y1, y2, y3, y4, y5, y6, y7, y8⟩ : w2.cell? ⟨q, 0, none⟩ = some (.int .u8 g.op) ∧ w2.cell? ⟨q, 1, none⟩ = some (.int .u64 (W g.s 0)) ∧ w2.cell? ⟨q, 2, none⟩ = some (.int .u64 (W g.s 1)) ∧ w2.cell? ⟨q, 3, none⟩ = some (.int .u64 (W g.s 2)) ∧ w2.cell? ⟨q, 4, none⟩ = some (.int .u64 (W g.s 3)) ∧ w2.cell? ⟨q, 5, none⟩ = some (.slice A3 m c3) ∧ w2.cell? ⟨q, 6, none⟩ = some (.int .i64 g.lo) ∧ w2.cell? ⟨q, 7, none⟩ = some (.int .i64 g.hi) ∧ w2.cell? ⟨q, 8, none⟩ = some (.string g.nm) := ⟨R1.at_ rfl, R1.at_ rfl, R1.at_ rfl, R1.at_ rfl, R1.at_ rfl, R1.at_ rfl, R1.at_ rfl, R1.at_ rfl, R1.at_ rfl⟩
        clear Z1 r1 hq hW1 R1 hrow HCL2
        go_wp2_with fail
        refine hc.mono ?_
        rintro e w3 ⟨rfl, b3⟩
        have HB3 := hidd (HB2.out.trans (b3.mono HB2.out.size))
        clear hc b3 y0 y1 y2 y3 y4 y5 y6 y7 y8
        cases cb with
        | true =>
          go_wp2
          exact ⟨⟨k + 1, by omega, rfl, by rw [HS.out]; rfl, HB3.out⟩, by simp [intOf]; omega⟩
        | false =>
          go_wp2
          exact ⟨⟨k + 1, by omega, rfl, by rw [HS.out]; rfl, HB3.out⟩, by simp [intOf]; omega⟩
      · have hke : k = n := by omega
        subst hke
        go_wp2
        go_ret
        exact ⟨HB.out, cntK ns k, rfl, fun q => absurd HRG.out q, fun ms h1 _ _ _ => by rw [HCN.out ms h1, HLN.out]⟩
  · have HNR := hidd hr
    clear hx HX
    generalize gs.length = n at *
    go_enter Try.func12, Try.ntmps12
    go_wp2_with fail
    refine hR.mono ?_
    rintro e w1 ⟨⟨z, rfl, hz⟩, b1'⟩
    have hzf : z = false := by
      cases z with
      | false => rfl
      | true => exact absurd (hz.1 rfl) hr
    subst hzf
    have HB1 := hidd b1'
    clear hR b1' hz hr
    go_wp2
    go_ret
    exact ⟨HB1.out, 0, rfl, fun _ => rfl, fun ns h1 h2 h3 h4 => absurd ⟨ns, h1, h2, h3, h4⟩ HNR.out⟩
end Go.Proofs.Ytaagkfiaccmepaa.Sy.Pl

namespace Go.Proofs.Ytaagkfiaccmepaa.Sy.Pl
open Go.RowKit Go.Proofs.Ytaagkfiaccmepaa.Sy.Lg
set_option maxRecDepth 100000
set_option linter.unusedVariables false

/-- No repetition but a star. -/
def Star (n : Nd) : Prop := n.op = 5 → n.lo = 0 ∧ n.hi = -1
end Go.Proofs.Ytaagkfiaccmepaa.Sy.Pl

namespace Go.Proofs.Ytaagkfiaccmepaa.Sy.Pl
open Go.RowKit Go.Proofs.Ytaagkfiaccmepaa.Sy.Ap Go.Proofs.Ytaagkfiaccmepaa.Sy.Lg
set_option maxRecDepth 100000
set_option linter.unusedVariables false

/-! ### Plain -/
theorem star_bad {ns : List Nd} {n : Nd} (h : Star n) : ctB ns n = false ∧ badB ns n = false := by
  by_cases h5 : n.op = 5
  · obtain ⟨h1, h2⟩ := h h5
    have hc : ctB ns n = false := by
      unfold ctB
      have : decide (1 ≤ n.lo) = false := decide_eq_false (by omega)
      rw [this, Bool.and_false, Bool.false_and]
    refine ⟨hc, ?_⟩
    unfold badB starB
    have e1 : (n.op == 5) = true := by rw [h5]; rfl
    have e2 : (n.lo == 0) = true := by rw [h1]; rfl
    have e3 : (n.hi == -1) = true := by rw [h2]; rfl
    rw [e1, e2, e3]
    rfl
  · have e1 : (n.op == 5) = false := beq_eq_false_iff_ne.2 h5
    unfold badB ctB
    rw [e1]
    exact ⟨rfl, rfl⟩
theorem getD_mem {o : List Nd} {i : Nat} (h : i < o.length) : o.getD i nd0 ∈ o := by
  rw [List.getD_eq_getElem?_getD, List.getElem?_eq_getElem h]
  exact List.getElem_mem h
theorem stars {o : List Nd} (h : ∀ n ∈ o, Star n) : ctN o = 0 ∧ Rp o := by
  refine ⟨?_, rp_iff.2 fun k hk => (star_bad (h _ (getD_mem hk))).2⟩
  unfold ctN
  rw [List.countP_eq_zero]
  intro i hi
  rw [(star_bad (ns := o) (h _ (getD_mem (List.mem_range.1 hi)))).1]
  exact Bool.false_ne_true
/-! ### In memory -/
end Go.Proofs.Ytaagkfiaccmepaa.Sy.Pl

namespace Go.Proofs.Ytaagkfiaccmepaa.Sy.Pl
open Go.RowKit Go.Proofs.Ytaagkfiaccmepaa.Sy.Ap Go.Proofs.Ytaagkfiaccmepaa.Sy.Lg
set_option maxRecDepth 100000
set_option linter.unusedVariables false

/-- What asking a plan tells. -/
structure AskR (w : World) (A : Option Addr) (c n k : Nat) : Prop where
  cnt : ∀ u, Below w.heap.size w u → Calls Try.prog 12 #[.slice A n c] u fun e w' => e = .returned (.int .i64 (k : Int)) ∧ Below u.heap.size u w'
  rgt : ∀ u, Below w.heap.size w u → Calls Try.prog 10 #[.slice A n c] u fun e w' => e = .returned (.bool true) ∧ Below u.heap.size u w'
theorem AskR.later {w u : World} {A : Option Addr} {c n k : Nat} (h : AskR w A c n k) (hb : Below w.heap.size w u) : AskR u A c n k :=
  ⟨fun v hv => h.cnt v (hb.trans (hv.mono hb.size)), fun v hv => h.rgt v (hb.trans (hv.mono hb.size))⟩
end Go.Proofs.Ytaagkfiaccmepaa.Sy.Pl

namespace Go.Proofs.Ytaagkfiaccmepaa.Sy.Pl
open Go.RowKit Go.Proofs.Ytaagkfiaccmepaa.Sy.Ap Go.Proofs.Ytaagkfiaccmepaa.Sy.Lg
set_option maxRecDepth 100000
set_option linter.unusedVariables false

theorem ct_rp {o : List Nd} {most : Nat} (h : Ct most o) (hm : 1 ≤ most) : Rp o := fun n hn h5 => by
  obtain ⟨-, -, h1 | h1⟩ := h n hn h5
  · refine .inl ?_
    unfold starB
    rw [h5, h1.1, h1.2]
    rfl
  · refine .inr ?_
    unfold ctB
    rw [h5, h1.1]
    simp only [Bool.and_eq_true, decide_eq_true_eq]
    refine ⟨⟨⟨rfl, rfl⟩, h1.2.1⟩, by have := h1.2.2; omega⟩
end Go.Proofs.Ytaagkfiaccmepaa.Sy.Pl

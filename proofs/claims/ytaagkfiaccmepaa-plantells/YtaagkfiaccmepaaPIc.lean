/- The reference's Right and Counted of plans. -/
import Derived.Test.YtaagkfiaccmepaaPJx
namespace Go.Proofs.Ytaagkfiaccmepaa.Sy.Pl
open Go.RowKit Go.Proofs.Ytaagkfiaccmepaa.Sy.Ap Go.Proofs.Ytaagkfiaccmepaa.Sy.Lg
set_option maxRecDepth 100000
set_option linter.unusedVariables false

set_option maxHeartbeats 400000 in
theorem rcnt_any (g : Gd) (mm kc : Nat) (b1 o1 n c gk ok k : Nat) (x : Int) (w : World) (hmm : 0 < mm) (hkn : k < n) (hgk : gk < w.heap.size) (hb1 : b1 < w.heap.size) (q1 : w.cell? ⟨gk, ok, none⟩ = some (.int .i64 ((k : Nat) : Int))) (q2 : w.cell? ⟨b1, o1 + k * 9, none⟩ = some (.int .u8 x)) :
    Calls Try.prog 24 #[.slice (some ⟨b1, o1, none⟩) n c, .agg (ndA g (some ⟨gk, ok, none⟩) mm kc)] w fun e w' => e = .returned (.bool (x == 2 && decide (1 ≤ g.lo) && decide (2 ≤ g.hi))) ∧ Below w.heap.size w w' := by
  have R := RowA.new w 39 (ndA g (some ⟨gk, ok, none⟩) mm kc)
  have hb : Below w.heap.size w (w.alloc (.cells (ndA g (some ⟨gk, ok, none⟩) mm kc) 39)) := (Below.refl _ _).alloc (Nat.le_refl _) _
  have d5 : (w.alloc (.cells (ndA g (some ⟨gk, ok, none⟩) mm kc) 39)).cell? ⟨w.heap.size, 5, none⟩ = some (.slice (some ⟨gk, ok, none⟩) mm kc) := R.at_ rfl
  have d6 : (w.alloc (.cells (ndA g (some ⟨gk, ok, none⟩) mm kc) 39)).cell? ⟨w.heap.size, 6, none⟩ = some (.int .i64 g.lo) := R.at_ rfl
  have d7 : (w.alloc (.cells (ndA g (some ⟨gk, ok, none⟩) mm kc) 39)).cell? ⟨w.heap.size, 7, none⟩ = some (.int .i64 g.hi) := R.at_ rfl
  clear R
  have e1 := (hb.cell (p := ⟨gk, ok, none⟩) hgk).trans q1
  have e2 := (hb.cell (p := ⟨b1, o1 + k * 9, none⟩) hb1).trans q2
  have hki : (k : Int) < (n : Int) := by omega
  have hmi : (0 : Int) < (mm : Int) := by omega
  have HB := hidd hb
  clear q1 q2 hb
  by_cases h2 : x = 2
  · subst h2
    by_cases h6 : 1 ≤ g.lo
    · go_enter Try.func24, Try.ntmps24
      go_wp2
      go_ret
      exact ⟨by simp [h6], HB.out⟩
    · go_enter Try.func24, Try.ntmps24
      go_wp2
      go_ret
      have h7 : decide (1 ≤ g.lo) = false := decide_eq_false (by omega)
      exact ⟨by rw [h7]; simp, HB.out⟩
  · have h2b : (x == 2) = false := by simp [h2]
    go_enter Try.func24, Try.ntmps24
    go_wp2
    go_ret
    exact ⟨by simp [h2], HB.out⟩
theorem rcnt_nd {c : Nat} {gs : List Gd} {ns : List Nd} (hg : GN gs ns) (ht : TreeN ns) {k : Nat} (hk : k < gs.length) (h5 : (ns.getD k nd0).op = 5) {b1 o1 : Nat} {w w' : World} (hx : Nds w w.heap.size (some ⟨b1, o1, none⟩) gs) (hb : Below w.heap.size w w') {kA : Option Addr} {kc : Nat} (hI : Its w w.heap.size kA (gs.getD k gd0).l) :
    Calls Try.prog 24 #[.slice (some ⟨b1, o1, none⟩) gs.length c, .agg (ndA (gs.getD k gd0) kA (gs.getD k gd0).l.length kc)] w' fun e w'' => e = .returned (.bool (ctB ns (ns.getD k nd0))) ∧ Below w'.heap.size w' w'' := by
  have hkn : k < ns.length := by rw [← hg.1]; exact hk
  have h1 := hg.2 k hk
  have e0 : ns.getD k nd0 = ns[k] := by rw [List.getD_eq_getElem?_getD, List.getElem?_eq_getElem hkn]; rfl
  rw [e0] at h1 h5 ⊢
  have hnk : ns[k]? = some ns[k] := List.getElem?_eq_getElem hkn
  have hlow := ht.low k _ hnk
  obtain ⟨hl1, -⟩ := rep_one (ht.shp _ (List.getElem_mem hkn)) h5
  obtain ⟨j, hj⟩ : ∃ j, ns[k].l = [j] := List.length_eq_one_iff.1 hl1
  have hjk : j < k := hlow.2 j (by rw [hj]; exact List.mem_singleton.2 rfl)
  have hjg : j < gs.length := by omega
  have hjop : (gs.getD j gd0).op = ((ns.getD j nd00).op : Int) := (hg.2 j hjg).op
  have hl : (gs.getD k gd0).l = [(j : Int)] := by rw [h1.l, hj]; rfl
  obtain ⟨gk, ok, rfl, hgk, hcell⟩ := hI (by rw [hl]; simp)
  have q1 := hcell 0 (by rw [hl]; simp)
  rw [hl] at q1
  have q1 : w.cell? ⟨gk, ok, none⟩ = some (.int .i64 (j : Int)) := q1
  obtain ⟨b2, o2, e2, hb2, A3, c3, -, r1⟩ := hx.at_ (k := j) hjg
  injection e2 with e2
  injection e2 with e3 e4
  subst e3 e4
  have q2 : w.cell? ⟨b1, o1 + j * 9, none⟩ = some (.int .u8 (gs.getD j gd0).op) := r1 0 _ rfl
  rw [hjop] at q2
  refine (rcnt_any (gs.getD k gd0) _ kc b1 o1 gs.length c gk ok j ((ns.getD j nd00).op : Int) w' (by rw [hl]; simp) hjg (Nat.lt_of_lt_of_le hgk hb.size) (Nat.lt_of_lt_of_le hb2 hb.size) ((hb.cell (by exact hgk)).trans q1) ((hb.cell (by exact hb2)).trans q2)).mono ?_
  rintro e w2 ⟨rfl, b2⟩
  refine ⟨?_, b2⟩
  have hh : ns[k].l.getD 0 0 = j := by rw [hj]; rfl
  unfold ctB
  have e : (((ns.getD j nd00).op : Int) == 2) = ((ns.getD j nd00).op == 2) := by
    rw [Bool.eq_iff_iff]
    simp only [beq_iff_eq]
    omega
  have e6 : (ns[k].op == 5) = true := by rw [h5]; rfl
  rw [hh, e, e6, h1.lo, h1.hi]
  rfl
/-- What a question by nodes tells. -/
def RgR (gs : List Gd) (w : World) (e : Ending) (w' : World) : Prop := (∃ z, e = .returned (.bool z) ∧ (z = true ↔ RgtP gs)) ∧ Below w.heap.size w w'
set_option maxHeartbeats 2000000 in
theorem rright8_any (A : Option Addr) (c : Nat) (gs : List Gd) (w : World) (hx : Nds w w.heap.size A gs) (hl : gs.length ≤ 2000) (hsm : Small gs) :
    Calls Try.prog 11 #[.slice A gs.length c] w fun e w' => RgR gs w e w' := by
  have hP := plain_any A c gs w hx hl hsm
  have HX := hidd hx
  by_cases hpg : PlainG gs
  · obtain ⟨ns0, hg0, -⟩ := hpg.2
    obtain ⟨ns, hg, ht, hp⟩ := tree_of hg0 hpg
    have hpos : 0 < gs.length := by rw [hg.1]; exact ht.pos
    obtain ⟨b1, o1, rfl, hb1, -⟩ := hx.at_ (k := 0) hpos
    have HPG := hidd hpg
    have HRG : Hid (RgtP gs ↔ ∀ k, k < gs.length → badB ns (ns.getD k nd0) = false) := by
      show _ ↔ _
      rw [hg.1, ← rp_iff]
      exact ⟨fun ⟨ms, g1, g2, g3, g4⟩ => rp_same g1 hg g4, fun h => ⟨ns, hg, ht, hp, h⟩⟩
    have HOP : Hid (∀ k, k < gs.length → (gs.getD k gd0).op = ((ns.getD k nd0).op : Int) ∧ (gs.getD k gd0).lo = (ns.getD k nd0).lo ∧ (gs.getD k gd0).hi = (ns.getD k nd0).hi) := fun k hk => ⟨(hg.2 k hk).op, (hg.2 k hk).lo, (hg.2 k hk).hi⟩
    have HCL : Hid (∀ k, k < gs.length → ∀ wr, Below w.heap.size w wr → ∃ A3 c3, wr.rangeAt b1 (o1 + k * 9) (gdL (gs.getD k gd0) A3 c3) ∧ ((ns.getD k nd0).op = 5 → ∀ u, Below wr.heap.size wr u → Calls Try.prog 24 #[.slice (some ⟨b1, o1, none⟩) gs.length c, .agg (ndA (gs.getD k gd0) A3 (gs.getD k gd0).l.length c3)] u fun e w' => e = .returned (.bool (ctB ns (ns.getD k nd0))) ∧ Below u.heap.size u w')) := fun k hk wr hb => by
      have hx2 := (HX.out.below hb).more hb.size
      obtain ⟨b2, o2, e2, hb2, A3, c3, hI, r1⟩ := hx2.at_ (k := k) hk
      injection e2 with e2
      injection e2 with e3 e4
      subst e3 e4
      exact ⟨A3, c3, r1, fun h5 u hu => rcnt_nd hg ht hk h5 hx2 hu hI⟩
    clear hx hg0 hg ht hp hpos HX hpg hsm
    generalize hn : gs.length = n at *
    clear hn
    go_enter Try.func11, Try.ntmps11
    go_wp2_with fail
    refine hP.mono ?_
    rintro e w1 ⟨z, rfl, hz, b1'⟩
    have hzt : z = true := hz.2 HPG.out
    subst hzt
    have HB1 := hidd b1'
    clear hP b1' hz
    go_wp2
    go_loopw [3] (fun s3 wr => ∃ k : Nat, k ≤ n ∧ s3 = .int .i64 (k : Int) ∧ (∀ i, i < k → badB ns (ns.getD i nd0) = false) ∧ Below w.heap.size w wr) (fun s3 _ => n - (intOf s3).toNat)
    case atStart => exact ⟨0, Nat.zero_le _, rfl, fun i hi => absurd hi (Nat.not_lt_zero _), HB1.out⟩
    case round =>
      obtain ⟨k, hk0, rfl, hp, hb⟩ := hrel
      have HB := hidd hb
      have HPV := hidd hp
      clear hp
      by_cases hlt : k < n
      · obtain ⟨A3, c3, r1, hcl⟩ := HCL.out k hlt wr hb
        obtain ⟨ho, hlo, hhi⟩ := HOP.out k hlt
        have hki : (k : Int) < (n : Int) := by omega
        have HCL2 := hidd hcl
        have HPK : Hid (badB ns (ns.getD k nd0) = false → ∀ i, i < k + 1 → badB ns (ns.getD i nd0) = false) := fun q i hi => by
          by_cases e : i = k
          · subst e; exact q
          · exact HPV.out i (by omega)
        have HNP : Hid (badB ns (ns.getD k nd0) = true → ¬ RgtP gs) := fun q h => by
          have := HRG.out.1 h k hlt
          rw [q] at this
          cases this
        have HBD : Hid (badB ns (ns.getD k nd0) = ((ns.getD k nd0).op == 5 && !((ns.getD k nd0).op == 5 && (ns.getD k nd0).lo == 0 && (ns.getD k nd0).hi == -1) && !ctB ns (ns.getD k nd0))) := rfl
        clear hcl hb
        generalize badB ns (ns.getD k nd0) = bb at *
        generalize ctB ns (ns.getD k nd0) = cb at *
        generalize gs.getD k gd0 = g at *
        generalize ns.getD k nd0 = nd at *
        generalize hm : g.l.length = m at *
        have HO := hidd ho
        have Z1 := RowA.new wr 39 zeroC
        have hW1 : Below wr.heap.size wr ((wr.alloc (.cells zeroC 39)).setRow wr.heap.size (gdL g A3 c3).toArray) := bel_setRow ((Below.refl _ _).alloc (Nat.le_refl _) _) _ _ (Nat.le_refl _)
        have R1 := Z1.row (gdL g A3 c3).toArray
        clear ho
        have HLH := hidd (And.intro hlo hhi)
        clear hlo hhi
        go_upto_region 7 with (first
          | refine wpList_load_mid rfl 39 (.tmp 16) rfl b1 (o1 + k * 9) rfl (gdL g A3 c3) _ r1 Try.underlying39 rfl (gdL_info g A3 c3) ?_
          | refine wpList_store_row rfl 39 (.tmp 4) (.tmp 17) rfl wr.heap.size (gdL g A3 c3).toArray rfl rfl 39 zeroC Z1 (gdL_infoA g A3 c3) rfl (gdL_one g A3 c3) ?_)
        have hrow : (gdL g A3 c3).toArray = ndA g A3 m c3 := by unfold gdL; rw [hm]
        have HC3 := hidd (fun h5 => HCL2.out h5 _ hW1)
        have HB2 := hidd (HB.out.trans (hW1.mono HB.out.size))
        change RowA ((wr.alloc (.cells zeroC 39)).setRow wr.heap.size (gdL g A3 c3).toArray) _ _ _ at R1
        generalize (wr.alloc (.cells zeroC 39)).setRow wr.heap.size (gdL g A3 c3).toArray = w2 at *
        rw [hrow] at R1
        rw [put_non]
        obtain ⟨q, hq⟩ : ∃ q, wr.heap.size = q := ⟨_, rfl⟩
        rw [hq] at R1
        rw [hq]
        obtain ⟨y0, y1, y2, y3, y4, y5, y6, y7, y8⟩ : w2.cell? ⟨q, 0, none⟩ = some (.int .u8 g.op) ∧ w2.cell? ⟨q, 1, none⟩ = some (.int .u64 (W g.s 0)) ∧ w2.cell? ⟨q, 2, none⟩ = some (.int .u64 (W g.s 1)) ∧ w2.cell? ⟨q, 3, none⟩ = some (.int .u64 (W g.s 2)) ∧ w2.cell? ⟨q, 4, none⟩ = some (.int .u64 (W g.s 3)) ∧ w2.cell? ⟨q, 5, none⟩ = some (.slice A3 m c3) ∧ w2.cell? ⟨q, 6, none⟩ = some (.int .i64 g.lo) ∧ w2.cell? ⟨q, 7, none⟩ = some (.int .i64 g.hi) ∧ w2.cell? ⟨q, 8, none⟩ = some (.string g.nm) := ⟨R1.at_ rfl, R1.at_ rfl, R1.at_ rfl, R1.at_ rfl, R1.at_ rfl, R1.at_ rfl, R1.at_ rfl, R1.at_ rfl, R1.at_ rfl⟩
        clear Z1 r1 hq hW1 R1 hrow HCL2 hm
        by_cases h5 : nd.op = 5
        · have h5b : (g.op == 5) = true := by rw [HO.out, h5]; rfl
          have h5n : (nd.op == 5) = true := by rw [h5]; rfl
          have HNC : Hid (∀ (h : ¬ (nd.lo = 0 ∧ nd.hi = -1)), bb = !cb) := fun h => by
            rw [HBD.out, h5n]
            have : (true && nd.lo == 0 && nd.hi == -1) = false := by
              rw [Bool.true_and]
              cases q1 : (nd.lo == 0 && nd.hi == -1) with
              | false => rfl
              | true =>
                rw [Bool.and_eq_true, beq_iff_eq, beq_iff_eq] at q1
                exact absurd q1 h
            rw [this]
            rfl
          have HSC : Hid (nd.lo = 0 ∧ nd.hi = -1 → bb = false) := fun h => by
            rw [HBD.out, h5n, h.1, h.2]
            rfl
          have hc := HC3.out h5
          by_cases hlo : g.lo = 0
          · have hlo2 : nd.lo = 0 := by rw [← HLH.out.1]; exact hlo
            have hlob : (g.lo != 0) = false := by simp [hlo]
            by_cases hhi : g.hi = -1
            · have hhi2 : nd.hi = -1 := by rw [← HLH.out.2]; exact hhi
              have hhib : (g.hi != -1) = false := by simp [hhi]
              have HF := hidd (HSC.out ⟨hlo2, hhi2⟩)
              clear hc h5 HC3 hlo hhi HNC HSC hlo2 hhi2
              go_wp2
              exact ⟨⟨k + 1, by omega, rfl, HPK.out HF.out, HB2.out⟩, by simp [intOf]; omega⟩
            · have HF := hidd (HNC.out (fun q => hhi (by rw [HLH.out.2]; exact q.2)))
              have hhib : (g.hi != -1) = true := by simp [hhi]
              clear h5 HC3 hlo hhi HNC HSC hlo2
              go_wp2_with fail
              refine hc.mono ?_
              rintro e w3 ⟨rfl, b3⟩
              have HB3 := hidd (HB2.out.trans (b3.mono HB2.out.size))
              clear hc b3 y0 y1 y2 y3 y4 y5 y6 y7 y8
              cases cb with
              | true =>
                have HB2 := HB3
                go_wp2
                exact ⟨⟨k + 1, by omega, rfl, HPK.out HF.out, HB3.out⟩, by simp [intOf]; omega⟩
              | false =>
                have HN := hidd (HNP.out HF.out)
                go_wp2
                go_ret
                exact ⟨⟨false, rfl, (fun q => by cases q), fun q => absurd q HN.out⟩, HB3.out⟩
          · have HF := hidd (HNC.out (fun q => hlo (by rw [HLH.out.1]; exact q.1)))
            have hlob : (g.lo != 0) = true := by simp [hlo]
            clear h5 HC3 hlo HNC HSC
            go_wp2_with fail
            refine hc.mono ?_
            rintro e w3 ⟨rfl, b3⟩
            have HB3 := hidd (HB2.out.trans (b3.mono HB2.out.size))
            clear hc b3 y0 y1 y2 y3 y4 y5 y6 y7 y8
            cases cb with
            | true =>
              have HB2 := HB3
              go_wp2
              exact ⟨⟨k + 1, by omega, rfl, HPK.out HF.out, HB3.out⟩, by simp [intOf]; omega⟩
            | false =>
              have HN := hidd (HNP.out HF.out)
              go_wp2
              go_ret
              exact ⟨⟨false, rfl, (fun q => by cases q), fun q => absurd q HN.out⟩, HB3.out⟩
        · have h5b : (g.op == 5) = false := by rw [HO.out]; exact beq_eq_false_iff_ne.2 (by omega)
          have HF : Hid (bb = false) := by
            show _ = _
            rw [HBD.out, beq_eq_false_iff_ne.2 h5]
            rfl
          clear h5 HC3
          go_wp2
          exact ⟨⟨k + 1, by omega, rfl, HPK.out HF.out, HB2.out⟩, by simp [intOf]; omega⟩
      · have hke : k = n := by omega
        subst hke
        have HN : Hid (RgtP gs) := HRG.out.2 HPV.out
        go_wp2
        go_ret
        exact ⟨⟨true, rfl, fun _ => HN.out, fun _ => rfl⟩, HB.out⟩
  · have HNR : Hid (¬ RgtP gs) := fun ⟨ms, g1, g2, g3, g4⟩ => hpg (plain_of g1 g2 g3)
    clear hx HX
    generalize gs.length = n at *
    go_enter Try.func11, Try.ntmps11
    go_wp2_with fail
    refine hP.mono ?_
    rintro e w1 ⟨z, rfl, hz, b1'⟩
    have hzf : z = false := by
      cases z with
      | false => rfl
      | true => exact absurd (hz.1 rfl) hpg
    subst hzf
    have HB1 := hidd b1'
    clear hP b1' hz hpg
    go_wp2
    go_ret
    exact ⟨⟨false, rfl, (fun q => by cases q), fun q => absurd q HNR.out⟩, HB1.out⟩
end Go.Proofs.Ytaagkfiaccmepaa.Sy.Pl

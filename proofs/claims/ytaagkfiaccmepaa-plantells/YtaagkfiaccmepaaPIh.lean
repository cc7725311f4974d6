/- The reference's Counted of plans. -/
import Derived.Test.YtaagkfiaccmepaaPIc
namespace Go.Proofs.Ytaagkfiaccmepaa.Sy.Pl
open Go.RowKit Go.Proofs.Ytaagkfiaccmepaa.Sy.Ap Go.Proofs.Ytaagkfiaccmepaa.Sy.Lg
set_option maxRecDepth 100000
set_option linter.unusedVariables false

/-- Of a plan a Rep is counted just if it has an end. -/
theorem rp_ct {ns : List Nd} (h : Rp ns) {k : Nat} (hk : k < ns.length) : ctB ns (ns.getD k nd0) = ((ns.getD k nd0).op == 5 && (ns.getD k nd0).hi != -1) := by
  have hb := rp_iff.1 h k hk
  unfold badB starB at hb
  by_cases h5 : (ns.getD k nd0).op = 5
  · have e5 : ((ns.getD k nd0).op == 5) = true := by rw [h5]; rfl
    rw [e5] at hb ⊢
    by_cases hh : (ns.getD k nd0).hi = -1
    · have eh : ((ns.getD k nd0).hi != -1) = false := by rw [hh]; rfl
      rw [eh]
      unfold ctB
      have : decide (2 ≤ (ns.getD k nd0).hi) = false := decide_eq_false (by omega)
      rw [this, Bool.and_false, Bool.and_false]
    · have eh : ((ns.getD k nd0).hi == -1) = false := beq_eq_false_iff_ne.2 hh
      have eh2 : ((ns.getD k nd0).hi != -1) = true := by unfold bne; rw [eh]; rfl
      rw [eh, Bool.and_false, Bool.not_false, Bool.and_true, Bool.true_and] at hb
      rw [eh2]
      cases hc : ctB ns (ns.getD k nd0) with
      | true => rfl
      | false => rw [hc] at hb; cases hb
  · have e5 : ((ns.getD k nd0).op == 5) = false := beq_eq_false_iff_ne.2 h5
    rw [e5, Bool.false_and]
    unfold ctB
    rw [e5]
    rfl
set_option maxHeartbeats 700000 in
theorem rcounted8_any (A : Option Addr) (c : Nat) (gs : List Gd) (w : World) (hx : Nds w w.heap.size A gs) (hl : gs.length ≤ 2000) (hsm : Small gs) :
    Calls Try.prog 13 #[.slice A gs.length c] w fun e w' => CntR gs w e w' := by
  have HR : Hid (∀ u, Below w.heap.size w u → Calls Try.prog 11 #[.slice A gs.length c] u fun e w' => RgR gs u e w') := fun u hb => rright8_any A c gs u ((hx.below hb).more hb.size) hl hsm
  by_cases hr : RgtP gs
  · obtain ⟨ns, hg, ht, hp, hrp⟩ := hr
    have hpos : 0 < gs.length := by rw [hg.1]; exact ht.pos
    obtain ⟨b1, o1, rfl, hb1, -⟩ := hx.at_ (k := 0) hpos
    have HRG : Hid (RgtP gs) := ⟨ns, hg, ht, hp, hrp⟩
    have HCN : Hid (∀ ms, GN gs ms → ctN ms = ctN ns) := fun ms hm => ctN_same hm hg
    have HLN : Hid (ctN ns = cntK ns gs.length) := by show _ = _; unfold ctN cntK; rw [hg.1]
    have HCE : Hid (∀ k, k < gs.length → ∀ u, Below w.heap.size w u → u.cell? ⟨b1, o1 + k * 9, none⟩ = some (.int .u8 ((ns.getD k nd0).op : Int)) ∧ u.cell? ⟨b1, o1 + k * 9 + 7, none⟩ = some (.int .i64 (ns.getD k nd0).hi) ∧ ctB ns (ns.getD k nd0) = ((ns.getD k nd0).op == 5 && (ns.getD k nd0).hi != -1)) := fun k hk u hb => by
      obtain ⟨b2, o2, e2, hb2, A3, c3, hI, r1⟩ := ((hx.below hb).more hb.size).at_ (k := k) hk
      injection e2 with e2
      injection e2 with e3 e4
      subst e3 e4
      have h1 := hg.2 k hk
      refine ⟨?_, ?_, rp_ct hrp (by rw [← hg.1]; exact hk)⟩
      · rw [← h1.op]; exact r1 0 _ rfl
      · rw [← h1.hi]; exact r1 7 _ rfl
    clear hx hg ht hp hrp hpos hsm
    generalize hn : gs.length = n at *
    clear hn
    go_enter Try.func13, Try.ntmps13
    go_wp2
    go_loopw [3, 4] (fun s3 s4 wr => ∃ k : Nat, k ≤ n ∧ s4 = .int .i64 (k : Int) ∧ s3 = .int .i64 ((cntK ns k : Nat) : Int) ∧ Below w.heap.size w wr) (fun _ s4 _ => n - (intOf s4).toNat)
    case atStart => exact ⟨0, Nat.zero_le _, rfl, rfl, Below.refl _ _⟩
    case round =>
      obtain ⟨k, hk0, rfl, rfl, hb⟩ := hrel
      have HB := hidd hb
      by_cases hlt : k < n
      · have hki : (k : Int) < (n : Int) := by omega
        have hrt := HR.out wr hb
        have HS := hidd (cntK_succ ns k)
        have hle := cntK_le ns k
        generalize cntK ns k = ck at *
        clear hb
        go_wp2_with fail
        refine hrt.mono ?_
        rintro e w2 ⟨⟨z, rfl, hz⟩, b2⟩
        have hzt : z = true := hz.2 HRG.out
        subst hzt
        have hb2 := HB.out.trans (b2.mono HB.out.size)
        obtain ⟨q0, q7, qc⟩ := HCE.out k hlt w2 hb2
        have HB2 := hidd hb2
        have HQC := hidd qc
        clear hrt hz b2 hb2 qc
        generalize ctB ns (ns.getD k nd0) = cb at *
        generalize ns.getD k nd0 = nd at *
        by_cases h5 : nd.op = 5
        · have h5n : (nd.op == 5) = true := by rw [h5]; rfl
          rw [h5] at q0
          by_cases hh : nd.hi = -1
          · have hhb : (nd.hi != -1) = false := by rw [hh]; rfl
            have HF : Hid (cb = false) := by show _ = _; rw [HQC.out, h5n, hhb]; rfl
            clear h5 h5n hh
            go_wp2
            exact ⟨⟨k + 1, by omega, rfl, by rw [HS.out, HF.out]; rfl, HB2.out⟩, by simp [intOf]; omega⟩
          · have hhb : (nd.hi != -1) = true := by unfold bne; rw [beq_eq_false_iff_ne.2 hh]; rfl
            have HF : Hid (cb = true) := by show _ = _; rw [HQC.out, h5n, hhb]; rfl
            clear h5 h5n hh
            go_wp2
            exact ⟨⟨k + 1, by omega, rfl, by rw [HS.out, HF.out]; rfl, HB2.out⟩, by simp [intOf]; omega⟩
        · have h5n : (nd.op == 5) = false := beq_eq_false_iff_ne.2 h5
          have HF : Hid (cb = false) := by show _ = _; rw [HQC.out, h5n]; rfl
          obtain ⟨x, hx⟩ : ∃ x : Int, (nd.op : Int) = x := ⟨_, rfl⟩
          have hxb : (x == 5) = false := beq_eq_false_iff_ne.2 (by omega)
          rw [hx] at q0
          clear h5 h5n hx
          go_wp2
          exact ⟨⟨k + 1, by omega, rfl, by rw [HS.out, HF.out]; rfl, HB2.out⟩, by simp [intOf]; omega⟩
      · have hke : k = n := by omega
        subst hke
        clear hb
        go_wp2
        go_ret
        exact ⟨HB.out, cntK ns k, rfl, fun q => absurd HRG.out q, fun ms h1 _ _ _ => by rw [HCN.out ms h1, HLN.out]⟩
  · have HNR := hidd hr
    clear hsm
    obtain ⟨n, hn⟩ : ∃ n, gs.length = n := ⟨_, rfl⟩
    rw [hn] at HR hl ⊢
    clear hn hx hr
    go_enter Try.func13, Try.ntmps13
    go_wp2
    go_loopw [3, 4] (fun s3 s4 wr => s4 = .int .i64 0 ∧ s3 = .int .i64 0 ∧ Below w.heap.size w wr) (fun _ s4 _ => 0)
    case atStart => exact ⟨rfl, rfl, Below.refl _ _⟩
    case round =>
      obtain ⟨rfl, rfl, hb⟩ := hrel
      have HB := hidd hb
      by_cases hlt : 0 < n
      · have hki : (0 : Int) < (n : Int) := by omega
        have hrt := HR.out wr hb
        clear hb
        go_wp2_with fail
        refine hrt.mono ?_
        rintro e w2 ⟨⟨z, rfl, hz⟩, b2⟩
        have hzf : z = false := by
          cases z with
          | false => rfl
          | true => exact absurd (hz.1 rfl) HNR.out
        subst hzf
        have HB2 := hidd (HB.out.trans (b2.mono HB.out.size))
        clear hrt hz b2
        go_wp2
        go_ret
        exact ⟨HB2.out, 0, rfl, fun _ => rfl, fun ns h1 h2 h3 h4 => absurd ⟨ns, h1, h2, h3, h4⟩ HNR.out⟩
      · have hn0 : n = 0 := by omega
        subst hn0
        clear hb
        go_wp2
        go_ret
        exact ⟨HB.out, 0, rfl, fun _ => rfl, fun ns h1 h2 h3 h4 => absurd ⟨ns, h1, h2, h3, h4⟩ HNR.out⟩
end Go.Proofs.Ytaagkfiaccmepaa.Sy.Pl

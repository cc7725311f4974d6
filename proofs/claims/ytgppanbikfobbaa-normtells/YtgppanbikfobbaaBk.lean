/- NormTells: its walk. -/
import Derived.Test.YtgppanbikfobbaaBj
import Derived.Test.YtgppanbikfobbaaAu
namespace Go.Proofs.Ytgppanbikfobbaa.Sy.Ap.Tl
open Go.RowKit
set_option maxRecDepth 100000
set_option linter.unusedVariables false

theorem nds_no (w : World) (B : Nat) (A : Option Addr) : Nds w B A [] := fun h => absurd rfl h
/-- What both tell, of the same nodes and Defs. -/
theorem tl_R (g4 : List Gd) (d6 : List DG) (hl : g4.length ≤ 2000) (hsm : Small g4) (hok : DOk d6) : ∃ R : Except Nat (List Nd),
    (∀ (A : Option Addr) (c : Nat) (A2 : Option Addr) (c2 : Nat) (u : World), Nds u u.heap.size A g4 → g4.length ≤ c → Dfs u u.heap.size A2 d6 →
      Calls Try.prog 6 #[.slice A g4.length c, .slice A2 d6.length c2] u fun e w' => XpR u R e w') ∧
    (∀ (A : Option Addr) (c : Nat) (A2 : Option Addr) (c2 : Nat) (u : World), Nds u u.heap.size A g4 → Dfs u u.heap.size A2 d6 →
      Calls Try.prog 9 #[.slice A g4.length c, .slice A2 d6.length c2] u fun e w' => XpR u R e w') ∧
    ∀ o, R = .ok o → TreeN o := by
  by_cases hr : RightG g4 ∧ RightDs d6
  · obtain ⟨ns, hg, ht⟩ := gn_tree hr.1
    obtain ⟨D, hD⟩ := gd_of hr.2
    exact ⟨expN ns D, fun A c A2 c2 u hN hc hx => xpand_ok A c g4 ns A2 c2 d6 D u hN hc hsm hx hok hg ht hr.2 hD, fun A c A2 c2 u hN hx => Wk.rxpand_ok A c g4 ns A2 c2 d6 D u hN hsm hx hok hg ht hr.2 hD, fun o he => (expN_tree hD.trs ht he).1⟩
  · exact ⟨.error 1, fun A c A2 c2 u hN hc hx => xpand_bad A c g4 A2 c2 d6 u hN hl hsm hx hok hr, fun A c A2 c2 u hN hx => Wk.rxpand_bad A c g4 A2 c2 d6 u hN hl hsm hx hok hr, fun o he => by cases he⟩
/-- Two lists of nodes that read as one tree, or are both empty. -/
def SmT (u : World) (A A' : Option Addr) (k k' : Nat) : Prop := ∀ (w : World) (c c' : Nat), Below u.heap.size u w → Calls Try.prog 11 #[.slice A k c, .slice A' k' c'] w fun e w' => e = .returned (.bool true) ∧ Below w.heap.size w w'
theorem same_none (w : World) (A A' : Option Addr) (c c' : Nat) : Calls Try.prog 11 #[.slice A 0 c, .slice A' 0 c'] w fun e w' => e = .returned (.bool true) ∧ Below w.heap.size w w' :=
  same_any A A' c c' [] [] w (nds_no _ _ _) (nds_no _ _ _) (leq_refl _) (by simp) (fun g hg => absurd hg List.not_mem_nil)
/-- Both Folds. -/
theorem both_folds (A : Option Addr) (c : Nat) (g4 : List Gd) (hl : g4.length ≤ 2000) (hsm : Small g4) : ∃ (k k' : Nat),
    (∀ u, Nds u u.heap.size A g4 → Calls Try.prog 12 #[.slice A g4.length c] u fun e w' => Below u.heap.size u w' ∧ ∃ A1 c1, e = .returned (.slice A1 k c1) ∧
      ∀ u1, Below w'.heap.size w' u1 → Nds u1 u1.heap.size A g4 → Calls Try.prog 13 #[.slice A g4.length c] u1 fun e w2 => Below u1.heap.size u1 w2 ∧ ∃ A2 c2, e = .returned (.slice A2 k' c2) ∧
        Calls Try.prog 11 #[.slice A1 k c1, .slice A2 k' c2] w2 fun e w' => e = .returned (.bool true) ∧ Below w2.heap.size w2 w') := by
  by_cases hr : RightG g4
  · obtain ⟨ns, hg, ht⟩ := gn_tree hr
    refine ⟨g4.length, (g4.map foldH).length, fun u hN => (fold_ok A c g4 ns u hN hg ht).mono ?_⟩
    rintro e w' ⟨b1, A1, rfl, N1⟩
    refine ⟨b1, A1, _, rfl, fun u1 hu1 hN1 => (rfold_ok A c g4 ns u1 hN1 hg ht).mono ?_⟩
    rintro e w2 ⟨b2, A2, c2, rfl, N2⟩
    refine ⟨b2, A2, c2, rfl, ?_⟩
    have b12 := hu1.trans (b2.mono hu1.size)
    have h := same_tree (c := g4.length) (c' := c2) ((N1.below b12).more b12.size) N2 (gn_fold hg ht.shp) (gn_foldH hg) ht.fold
    rw [List.length_map] at h
    exact h
  · refine ⟨0, 0, fun u hN => (fold_bad A c g4 u hN hl hsm hr).mono ?_⟩
    rintro e w' ⟨b1, rfl⟩
    refine ⟨b1, none, 0, rfl, fun u1 hu1 hN1 => (rfold_bad A c g4 u1 hN1 hl hsm hr).mono ?_⟩
    rintro e w2 ⟨b2, rfl⟩
    exact ⟨b2, none, 0, rfl, same_none _ _ _ _ _⟩
theorem both_nulls (A : Option Addr) (c : Nat) (g4 : List Gd) (hl : g4.length ≤ 2000) (hsm : Small g4) : ∃ z : Bool,
    (∀ u, Nds u u.heap.size A g4 → Calls Try.prog 14 #[.slice A g4.length c] u fun e w' => NulR u z e w') ∧
    (∀ u, Nds u u.heap.size A g4 → Calls Try.prog 15 #[.slice A g4.length c] u fun e w' => NulR u z e w') := by
  by_cases hr : RightG g4
  · obtain ⟨ns, hg, ht⟩ := gn_tree hr
    exact ⟨nulN ns, fun u hN => null_ok A c g4 ns u hN hg ht, fun u hN => rnull_ok A c g4 ns u hN hg ht⟩
  · exact ⟨false, fun u hN => null_bad A c g4 u hN hl hsm hr, fun u hN => rnull_bad A c g4 u hN hl hsm hr⟩
theorem both_rights (d6 : List DG) (hok : DOk d6) : ∃ z : Bool,
    (∀ (A : Option Addr) (c : Nat) (u : World), Dfs u u.heap.size A d6 → Calls Try.prog 16 #[.slice A d6.length c] u fun e w' => e = .returned (.bool z) ∧ Below u.heap.size u w') ∧
    (∀ (A : Option Addr) (c : Nat) (u : World), Dfs u u.heap.size A d6 → Calls Try.prog 17 #[.slice A d6.length c] u fun e w' => e = .returned (.bool z) ∧ Below u.heap.size u w') := by
  have key : ∀ (b : Bool), (b = true ↔ RightDs d6) → ∀ (b' : Bool), (b' = true ↔ RightDs d6) → b = b' := fun b h b' h' => by
    rw [Bool.eq_iff_iff, h, h']
  by_cases hr : RightDs d6
  · refine ⟨true, fun A c u hx => (dright_any A c d6 u hx hok).mono ?_, fun A c u hx => (refDRight_any A c d6 u hx hok).mono ?_⟩
    · rintro e w' ⟨b, rfl, h1, h2⟩
      rw [h1.2 hr]
      exact ⟨rfl, h2⟩
    · rintro e w' ⟨b, rfl, h1, h2⟩
      rw [h1.2 hr]
      exact ⟨rfl, h2⟩
  · have hn : ∀ b : Bool, (b = true ↔ RightDs d6) → b = false := fun b h => by
      cases b with
      | false => rfl
      | true => exact absurd (h.1 rfl) hr
    refine ⟨false, fun A c u hx => (dright_any A c d6 u hx hok).mono ?_, fun A c u hx => (refDRight_any A c d6 u hx hok).mono ?_⟩
    · rintro e w' ⟨b, rfl, h1, h2⟩
      rw [hn b h1]
      exact ⟨rfl, h2⟩
    · rintro e w' ⟨b, rfl, h1, h2⟩
      rw [hn b h1]
      exact ⟨rfl, h2⟩
set_option maxHeartbeats 4000000 in
theorem lawTells_any (A : Option Addr) (c : Nat) (gs : List Gd) (A2 : Option Addr) (c2 : Nat) (ds : List DG) (w : World) (hN : Nds w w.heap.size A gs) (hc : gs.length ≤ c) (hm : gs.length ≤ maxLen) (hsm : Small gs) (hx : Dfs w w.heap.size A2 ds) (hdm : ds.length ≤ maxLen) (hds : ∀ d ∈ ds, d.1.size ≤ maxLen ∧ d.2.length ≤ maxLen ∧ Small d.2) :
    Calls Try.prog 3 #[.slice A gs.length c, .slice A2 ds.length c2] w fun e w' => e = .returned (.bool true) ∧ Below w.heap.size w w' := by
  have hok : DOk (someL ds) := some_dok (fun d hd => (hds d hd).1) (fun d hd => (hds d hd).2.2)
  have HF : Hid (∀ u, Calls Try.prog 7 #[.slice A gs.length c] u fun e w' => e = .returned (.slice A (gs.take 400).length c) ∧ w' = u) := fun u => few_nds A c gs u hc hm
  have HS : Hid (∀ u, Below w.heap.size w u → Calls Try.prog 8 #[.slice A2 ds.length c2] u fun e w' => Below u.heap.size u w' ∧ ∃ A3 c3, e = .returned (.slice A3 (someL ds).length c3) ∧ Dfs w' w'.heap.size A3 (someL ds)) := fun u hu => some_any A2 c2 ds u ((hx.below hu).more hu.size) hdm (fun d hd => (hds d hd).2.1)
  have hN4 := nds_take hN 400
  have hs4 := small_take hsm 400
  have hc4 : (gs.take 400).length ≤ c := by rw [List.length_take]; omega
  have hl4 : (gs.take 400).length ≤ 2000 := by rw [List.length_take]; omega
  clear hN hc hm hsm hx hdm hds
  generalize gs.length = n at *
  generalize gs.take 400 = g4 at *
  generalize ds.length = m at *
  generalize someL ds = d6 at *
  clear gs ds
  obtain ⟨R, HX, HY, HO⟩ := tl_R g4 d6 hl4 hs4 hok
  obtain ⟨k1, k2, HFO⟩ := both_folds A c g4 hl4 hs4
  obtain ⟨z, HNA, HNB⟩ := both_nulls A c g4 hl4 hs4
  obtain ⟨y, HRA, HRB⟩ := both_rights d6 hok
  replace HX := hidd HX
  replace HY := hidd HY
  replace HO := hidd HO
  replace HFO := hidd HFO
  replace HNA := hidd HNA
  replace HNB := hidd HNB
  replace HRA := hidd HRA
  replace HRB := hidd HRB
  have HN : Hid (∀ u, Below w.heap.size w u → Nds u u.heap.size A g4) := fun u hu => (hN4.below hu).more hu.size
  have HC4 := hidd hc4
  clear hN4 hs4 hc4 hl4 hok
  have hf := HF.out w
  go_enter Try.func3, Try.ntmps3
  go_wp2_with fail
  refine hf.mono ?_
  rintro e w1 ⟨rfl, rfl⟩
  have hs := HS.out w1 (Below.refl _ _)
  clear hf
  go_wp2_with fail
  refine hs.mono ?_
  rintro e w2 ⟨b2, A3, c3, rfl, D3⟩
  have hx := HX.out A c A3 c3 w2 (HN.out w2 b2) HC4.out D3
  have HB2 := hidd b2
  clear hs b2 D3
  go_wp2_with fail
  refine hx.mono ?_
  rintro e w3 ⟨b3, h3⟩
  have B3 := HB2.out.trans (b3.mono HB2.out.size)
  have hf := HF.out w3
  have HB3 := hidd B3
  clear hx b3 B3
  have hg3 : ∃ (A5 : Option Addr) (k c5 : Nat) (er : Nat), e = .returned (.tuple #[.slice A5 k c5, .int .i64 (er : Int)]) ∧ ∀ u, Below w3.heap.size w3 u → ∀ e' u', XpR u R e' u' → Below u.heap.size u u' ∧ ∃ A6 k' c6, e' = .returned (.tuple #[.slice A6 k' c6, .int .i64 (er : Int)]) ∧ ∀ v, Below u'.heap.size u' v → Calls Try.prog 11 #[.slice A5 k c5, .slice A6 k' c6] v fun e w' => e = .returned (.bool true) ∧ Below v.heap.size v w' := by
    rcases R with er | o
    · refine ⟨none, 0, 0, er, h3, fun u hu e' u' h => ⟨h.1, none, 0, 0, h.2, fun v hv => same_none _ _ _ _ _⟩⟩
    · obtain ⟨A5, c5, go, h1, N5, G5, -⟩ := h3
      refine ⟨A5, go.length, c5, 0, h1, fun u hu e' u' h => ?_⟩
      obtain ⟨bu, A6, c6, gy, h2, N6, G6, -⟩ := h
      refine ⟨bu, A6, gy.length, c6, h2, fun v hv => ?_⟩
      have b5 := (hu.trans (bu.mono hu.size)).trans (hv.mono (hu.trans (bu.mono hu.size)).size)
      exact same_tree ((N5.below b5).more b5.size) ((N6.below hv).more hv.size) G5 G6 (HO.out o rfl)
  obtain ⟨A5, k5, c5, er, rfl, HG3⟩ := hg3
  replace HG3 := hidd HG3
  clear h3
  go_wp2_with fail
  refine hf.mono ?_
  rintro e w4 ⟨rfl, rfl⟩
  have hs := HS.out w4 HB3.out
  clear hf
  go_wp2_with fail
  refine hs.mono ?_
  rintro e w5 ⟨b5, A7, c7, rfl, D7⟩
  have B5 := HB3.out.trans (b5.mono HB3.out.size)
  have hy := HY.out A c A7 c7 w5 (HN.out w5 B5) D7
  have HB5 := hidd B5
  have Hb5 := hidd b5
  clear hs b5 D7 B5
  go_wp2_with fail
  refine hy.mono ?_
  rintro e w6 h6
  obtain ⟨b6, A6, k6, c6, rfl, hsm⟩ := HG3.out w5 Hb5.out e w6 h6
  have HSM := hidd hsm
  have B6 := HB5.out.trans (b6.mono HB5.out.size)
  have hsh := shown_any w6
  have HB6 := hidd B6
  clear hy h6 b6 B6 hsm HB3 HB5 Hb5 HG3
  go_wp2_with fail
  refine hsh.mono ?_
  rintro e w7 ⟨rfl, b7⟩
  have hsa := HSM.out w7 b7
  have B7 := HB6.out.trans (b7.mono HB6.out.size)
  have HB7 := hidd B7
  clear hsh b7 B7 HB6 HSM
  go_wp2_with fail
  refine hsa.mono ?_
  rintro e w8 ⟨rfl, b8⟩
  have B8 := HB7.out.trans (b8.mono HB7.out.size)
  have HB8 := hidd B8
  have hf := HF.out w8
  have hee : (((er : Nat) : Int) == (er : Int)) = true := by simp
  have hfo := HFO.out w8 (HN.out w8 B8)
  clear hsa b8 B8 HB7
  go_wp2_with fail
  refine hf.mono ?_
  rintro e w9 ⟨rfl, rfl⟩
  clear hf
  go_wp2_with fail
  refine hfo.mono ?_
  rintro e w10 ⟨b10, A1, c1, rfl, h10⟩
  have B10 := HB8.out.trans (b10.mono HB8.out.size)
  have HB10 := hidd B10
  have hf := HF.out w10
  have hrf := h10 w10 (Below.refl _ _) (HN.out w10 B10)
  clear hfo b10 B10 HB8 h10
  go_wp2_with fail
  refine hf.mono ?_
  rintro e w11 ⟨rfl, rfl⟩
  clear hf
  go_wp2_with fail
  refine hrf.mono ?_
  rintro e w12 ⟨b12, A12, c12, rfl, hsa⟩
  have HB12 := hidd (HB10.out.trans (b12.mono HB10.out.size))
  clear hrf b12 HB10
  go_wp2_with fail
  refine hsa.mono ?_
  rintro e w13 ⟨rfl, b13⟩
  have B13 := HB12.out.trans (b13.mono HB12.out.size)
  have HB13 := hidd B13
  have hf := HF.out w13
  have hna := HNA.out w13 (HN.out w13 B13)
  clear hsa b13 B13 HB12
  go_wp2_with fail
  refine hf.mono ?_
  rintro e w14 ⟨rfl, rfl⟩
  clear hf
  go_wp2_with fail
  refine hna.mono ?_
  rintro e w15 ⟨rfl, b15⟩
  have B15 := HB13.out.trans (b15.mono HB13.out.size)
  have HB15 := hidd B15
  have hf := HF.out w15
  have hnb := HNB.out w15 (HN.out w15 B15)
  clear hna b15 B15 HB13
  go_wp2_with fail
  refine hf.mono ?_
  rintro e w16 ⟨rfl, rfl⟩
  clear hf
  go_wp2_with fail
  refine hnb.mono ?_
  rintro e w17 ⟨rfl, b17⟩
  have B17 := HB15.out.trans (b17.mono HB15.out.size)
  have HB17 := hidd B17
  have hs := HS.out w17 B17
  have hzz : (z == z) = true := by simp
  have hyy : (y == y) = true := by simp
  clear hnb b17 B17 HB15
  go_wp2_with fail
  refine hs.mono ?_
  rintro e w18 ⟨b18, A18, c18, rfl, D18⟩
  have HB18 := hidd (HB17.out.trans (b18.mono HB17.out.size))
  have hra := HRA.out A18 c18 w18 D18
  clear hs b18 HB17 D18
  go_wp2_with fail
  refine hra.mono ?_
  rintro e w19 ⟨rfl, b19⟩
  have B19 := HB18.out.trans (b19.mono HB18.out.size)
  have HB19 := hidd B19
  have hs := HS.out w19 B19
  clear hra b19 B19 HB18
  go_wp2_with fail
  refine hs.mono ?_
  rintro e w20 ⟨b20, A20, c20, rfl, D20⟩
  have HB20 := hidd (HB19.out.trans (b20.mono HB19.out.size))
  have hrb := HRB.out A20 c20 w20 D20
  clear hs b20 HB19 D20
  go_wp2_with fail
  refine hrb.mono ?_
  rintro e w21 ⟨rfl, b21⟩
  have HBE := hidd (HB20.out.trans (b21.mono HB20.out.size))
  clear hrb b21 HB20
  go_wp2
  go_ret
  exact ⟨rfl, HBE.out⟩
end Go.Proofs.Ytgppanbikfobbaa.Sy.Ap.Tl

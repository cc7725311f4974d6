/- The plan of a tree, whether one is a plan, and how many repetitions it counts, are the document's: the statement's walk. -/
import Derived.Test.YtaagkfiaccmepaaPIo
import Derived.Test.YtaagkfiaccmepaaPIh
namespace Go.Proofs.Ytaagkfiaccmepaa.Sy.Pl.Qr
open Go.RowKit Go.Proofs.Ytaagkfiaccmepaa.Sy.Ap Go.Proofs.Ytaagkfiaccmepaa.Sy.Lg
set_option maxRecDepth 100000
set_option linter.unusedVariables false

theorem cnt_eq {gs : List Gd} {w w2 u u2 : World} {e e' : Ending} (h : CntR gs w e u) (h' : CntR gs w2 e' u2) : ∃ r : Nat, e = .returned (.int .i64 (r : Int)) ∧ e' = .returned (.int .i64 (r : Int)) := by
  obtain ⟨-, r, rfl, h1, h2⟩ := h
  obtain ⟨-, r', rfl, h1', h2'⟩ := h'
  refine ⟨r, rfl, ?_⟩
  by_cases hp : RgtP gs
  · obtain ⟨ms, g1, g2, g3, g4⟩ := hp
    rw [h2 ms g1 g2 g3 g4, h2' ms g1 g2 g3 g4]
  · rw [h1 hp, h1' hp]
theorem nds_nil (w : World) (B : Nat) (A : Option Addr) : Nds w B A [] := fun h => absurd rfl h
set_option maxHeartbeats 4000000 in
theorem lawTells_any (A : Option Addr) (c : Nat) (gs : List Gd) (x : Int) (w : World) (hN : Nds w w.heap.size A gs) (hc : gs.length ≤ c) (hm : gs.length ≤ maxLen) (hsm : Small gs) :
    Calls Try.prog 3 #[.slice A gs.length c, .int .i64 x] w fun e w' => e = .returned (.bool true) ∧ Below w.heap.size w w' := by
  have HSH : Hid (∀ u : World, Calls Try.prog 8 #[] u fun e w' => e = .returned (.bool true) ∧ Below u.heap.size u w') := fun u => shown8_any u
  have HF : Hid (∀ u, Calls Try.prog 6 #[.slice A gs.length c] u fun e w' => e = .returned (.slice A (gs.take 60).length c) ∧ w' = u) := fun u => few8_any A c gs u hc hm
  have hN4 := nds_take hN 60
  have hs4 := small_take hsm 60
  have hl4 : (gs.take 60).length ≤ 2000 := by rw [List.length_take]; omega
  clear hN hc hm hsm
  generalize gs.length = n at *
  generalize gs.take 60 = g4 at *
  clear gs
  have HNB : Hid (∀ u, Below w.heap.size w u → Nds u u.heap.size A g4) := fun u hb => (hN4.below hb).more hb.size
  have HR1 : Hid (∀ u, Below w.heap.size w u → Calls Try.prog 10 #[.slice A g4.length c] u fun e w' => (∃ z, e = .returned (.bool z) ∧ (z = true ↔ RgtP g4)) ∧ Below u.heap.size u w') := fun u hb => rightP_any A c g4 u (HNB.out u hb) hl4 hs4
  have HR2 : Hid (∀ u, Below w.heap.size w u → Calls Try.prog 11 #[.slice A g4.length c] u fun e w' => RgR g4 u e w') := fun u hb => rright8_any A c g4 u (HNB.out u hb) hl4 hs4
  have HC1 : Hid (∀ u, Below w.heap.size w u → Calls Try.prog 12 #[.slice A g4.length c] u fun e w' => CntR g4 u e w') := fun u hb => counted_any A c g4 u (HNB.out u hb) hl4 hs4
  have HC2 : Hid (∀ u, Below w.heap.size w u → Calls Try.prog 13 #[.slice A g4.length c] u fun e w' => CntR g4 u e w') := fun u hb => rcounted8_any A c g4 u (HNB.out u hb) hl4 hs4
  by_cases h : PlainG g4 ∧ 1 ≤ x ∧ x ≤ 4096
  · obtain ⟨hp, h1, h2⟩ := h
    obtain ⟨ns0, hg0, -⟩ := hp.2
    obtain ⟨ns, hg, ht, hpn⟩ := tree_of hg0 hp
    obtain ⟨m, rfl⟩ : ∃ m : Nat, x = m := ⟨x.toNat, by omega⟩
    have HT1 : Hid (∀ u, Below w.heap.size w u → Calls Try.prog 5 #[.slice A g4.length c, .int .i64 (m : Int)] u fun e w' => TrR (planN ns m) u e w') := fun u hb => tree_ok A c g4 ns m (by omega) (by omega) u (HNB.out u hb) hg ht hpn
    have HT2 : Hid (∀ u, Below w.heap.size w u → Calls Try.prog 7 #[.slice A g4.length c, .int .i64 (m : Int)] u fun e w' => TrR (planN ns m) u e w') := fun u hb => rtree_ok A c g4 ns m (by omega) (by omega) u (HNB.out u hb) hg ht hpn
    have HTO : Hid (∀ o, planN ns m = some o → TreeN o) := fun o ho => (plan_means ht hpn ho).1
    obtain ⟨RES, hRES⟩ : ∃ RES, planN ns m = RES := ⟨_, rfl⟩
    rw [hRES] at HT1 HT2 HTO
    obtain ⟨n4, hn4⟩ : ∃ n4, g4.length = n4 := ⟨_, rfl⟩
    rw [hn4] at HF HT1 HT2 HR1 HR2 HC1 HC2
    clear hN4 hs4 hl4 HNB hp hg0 hg ht hpn hRES hn4 h1 h2
    cases RES with
    | none =>
      go_enter Try.func3, Try.ntmps3
      go_wp2_with fail
      refine (HF.out w).mono ?_
      rintro e u ⟨rfl, hu⟩
      replace hu := hu.symm
      subst hu
      have hc := HT1.out w (Below.refl _ _)
      go_wp2_with fail
      refine hc.mono ?_
      rintro e w2 ⟨b2, rfl⟩
      clear hc
      have HB2 := hidd b2
      have hc := HT2.out w2 b2
      clear b2 HT1 HT2
      go_wp2_with fail
      refine (HF.out w2).mono ?_
      rintro e w2' ⟨rfl, hw2⟩
      replace hw2 := hw2.symm
      subst hw2
      go_wp2_with fail
      refine hc.mono ?_
      rintro e w3 ⟨b3, rfl⟩
      have HB3 := hidd (HB2.out.trans (b3.mono HB2.out.size))
      clear hc b3 HB2 HTO
      have HSM : Hid (∀ u, Below w3.heap.size w3 u → Calls Try.prog 9 #[.slice none 0 0, .slice none 0 0] u fun e w' => e = .returned (.bool true) ∧ Below u.heap.size u w') := fun u hb => same_any none none 0 0 [] [] u (nds_nil _ _ _) (nds_nil _ _ _) ⟨rfl, fun i hi => absurd hi (Nat.not_lt_zero _)⟩ (Nat.zero_le _) (fun g hg => absurd hg List.not_mem_nil)
      have HD1 : Hid (∀ u, Below w3.heap.size w3 u → Calls Try.prog 12 #[.slice none 0 0] u fun e w' => CntR [] u e w') := fun u hb => counted_any none 0 [] u (nds_nil _ _ _) (Nat.zero_le _) (fun g hg => absurd hg List.not_mem_nil)
      have HD2 : Hid (∀ u, Below w3.heap.size w3 u → Calls Try.prog 13 #[.slice none 0 0] u fun e w' => CntR [] u e w') := fun u hb => rcounted8_any none 0 [] u (nds_nil _ _ _) (Nat.zero_le _) (fun g hg => absurd hg List.not_mem_nil)
      have HX : Hid (∀ u, Below w3.heap.size w3 u → Below w.heap.size w u) := fun u hb => HB3.out.trans (hb.mono HB3.out.size)
      have hsh := HSH.out w3
      clear HSH
      go_wp2_with fail
      refine hsh.mono ?_
      rintro e w4a ⟨rfl, b4⟩
      have HB4a := hidd b4
      have hsm := HSM.out w4a b4
      clear hsh b4 HSM
      go_wp2_with fail
      refine hsm.mono ?_
      rintro e w4 ⟨rfl, b4⟩
      have HB4 := hidd (HB4a.out.trans (b4.mono HB4a.out.size))
      clear hsm b4 HB4a
      go_wp2_with fail
      refine (HF.out w4).mono ?_
      rintro e w4' ⟨rfl, hw4⟩
      replace hw4 := hw4.symm
      subst hw4
      have hc := HR1.out w4 (HX.out _ HB4.out)
      go_wp2_with fail
      refine hc.mono ?_
      rintro e w5 ⟨⟨z5, rfl, hz5⟩, b5⟩
      have HB5 := hidd (HB4.out.trans (b5.mono HB4.out.size))
      have HZ5 := hidd hz5
      clear hc b5 HB4 hz5
      go_wp2_with fail
      refine (HF.out w5).mono ?_
      rintro e w5' ⟨rfl, hw5⟩
      replace hw5 := hw5.symm
      subst hw5
      have hc := HR2.out w5 (HX.out _ HB5.out)
      go_wp2_with fail
      refine hc.mono ?_
      rintro e w6 ⟨⟨z6, rfl, hz6⟩, b6⟩
      have HB6 := hidd (HB5.out.trans (b6.mono HB5.out.size))
      have hzz : z6 = z5 := Bool.eq_iff_iff.2 (hz6.trans HZ5.out.symm)
      subst hzz
      clear hc b6 HB5 hz6 HZ5
      go_wp2_with fail
      refine (HF.out w6).mono ?_
      rintro e w6' ⟨rfl, hw6⟩
      replace hw6 := hw6.symm
      subst hw6
      have hc := HC1.out w6 (HX.out _ HB6.out)
      go_wp2_with fail
      refine hc.mono ?_
      intro e w7 hq7
      have hq7' := hq7
      obtain ⟨b7, r7, rfl, -, -⟩ := hq7'
      have HQ7 := hidd hq7
      have HB7 := hidd (HB6.out.trans (b7.mono HB6.out.size))
      clear hc b7 HB6 hq7
      go_wp2_with fail
      refine (HF.out w7).mono ?_
      rintro e w7' ⟨rfl, hw7⟩
      replace hw7 := hw7.symm
      subst hw7
      have hc := HC2.out w7 (HX.out _ HB7.out)
      go_wp2_with fail
      refine hc.mono ?_
      intro e w8 hq8
      have hq8' := hq8
      obtain ⟨b8, r8, rfl, -, -⟩ := hq8'
      have hrr : r8 = r7 := by
        obtain ⟨r, h1, h2⟩ := cnt_eq HQ7.out hq8
        injection h1 with h1
        injection h1 with _ h1
        injection h2 with h2
        injection h2 with _ h2
        omega
      subst hrr
      have HB8 := hidd (HB7.out.trans (b8.mono HB7.out.size))
      clear hc b8 HB7 hq8 HQ7
      have hc := HD1.out w8 HB8.out
      go_wp2_with fail
      refine hc.mono ?_
      intro e w9 hq7
      have hq7' := hq7
      obtain ⟨b7, r9, rfl, -, -⟩ := hq7'
      have HQ7 := hidd hq7
      have HB9 := hidd (HB8.out.trans (b7.mono HB8.out.size))
      clear hc b7 HB8 hq7
      have hc := HD2.out w9 HB9.out
      go_wp2_with fail
      refine hc.mono ?_
      intro e w10 hq8
      have hq8' := hq8
      obtain ⟨b8, r10, rfl, -, -⟩ := hq8'
      have hrr : r10 = r9 := by
        obtain ⟨r, h1, h2⟩ := cnt_eq HQ7.out hq8
        injection h1 with h1
        injection h1 with _ h1
        injection h2 with h2
        injection h2 with _ h2
        omega
      subst hrr
      have HB10 := hidd (HB9.out.trans (b8.mono HB9.out.size))
      clear hc b8 HB9 hq8 HQ7
      go_wp2
      go_ret
      exact ⟨rfl, HB3.out.trans (HB10.out.mono HB3.out.size)⟩
    | some o =>
      go_enter Try.func3, Try.ntmps3
      go_wp2_with fail
      refine (HF.out w).mono ?_
      rintro e u ⟨rfl, hu⟩
      replace hu := hu.symm
      subst hu
      have hc := HT1.out w (Below.refl _ _)
      go_wp2_with fail
      refine hc.mono ?_
      rintro e w2 ⟨b2, A2, c2, go, rfl, N2, G2, -⟩
      have HN2 := hidd N2
      have HG2 := hidd G2
      clear hc N2 G2
      obtain ⟨L2, hL2⟩ : ∃ L2, go.length = L2 := ⟨_, rfl⟩
      have HL2 := hidd hL2
      rw [hL2]
      clear hL2
      have HB2 := hidd b2
      have hc := HT2.out w2 b2
      clear b2 HT1 HT2
      go_wp2_with fail
      refine (HF.out w2).mono ?_
      rintro e w2' ⟨rfl, hw2⟩
      replace hw2 := hw2.symm
      subst hw2
      go_wp2_with fail
      refine hc.mono ?_
      rintro e w3 ⟨b3, A2', c2', go', rfl, N2', G2', -⟩
      have HB3 := hidd (HB2.out.trans (b3.mono HB2.out.size))
      have t5 := HTO.out o rfl
      have N3 := (HN2.out.below b3).more b3.size
      have hsm2 : Small go' := gn_sm G2' t5
      have hl2 : go'.length ≤ 2000 := by have := G2'.1; have := t5.few; omega
      have HSM : Hid (∀ u, Below w3.heap.size w3 u → Calls Try.prog 9 #[.slice A2 L2 c2, .slice A2' go'.length c2'] u fun e w' => e = .returned (.bool true) ∧ Below u.heap.size u w') := fun u hb => by
        rw [← HL2.out]
        exact same_tree ((N3.below hb).more hb.size) ((N2'.below hb).more hb.size) HG2.out G2' t5
      have HD1 : Hid (∀ u, Below w3.heap.size w3 u → Calls Try.prog 12 #[.slice A2' go'.length c2'] u fun e w' => CntR go' u e w') := fun u hb => counted_any A2' c2' go' u ((N2'.below hb).more hb.size) hl2 hsm2
      have HD2 : Hid (∀ u, Below w3.heap.size w3 u → Calls Try.prog 13 #[.slice A2' go'.length c2'] u fun e w' => CntR go' u e w') := fun u hb => rcounted8_any A2' c2' go' u ((N2'.below hb).more hb.size) hl2 hsm2
      obtain ⟨L3, hL3⟩ : ∃ L3, go'.length = L3 := ⟨_, rfl⟩
      rw [hL3] at HSM HD1 HD2
      rw [hL3]
      clear hc b3 HB2 N3 N2' G2' hsm2 hl2 hL3 HTO HN2 HG2 HL2 t5
      have HX : Hid (∀ u, Below w3.heap.size w3 u → Below w.heap.size w u) := fun u hb => HB3.out.trans (hb.mono HB3.out.size)
      have hsh := HSH.out w3
      clear HSH
      go_wp2_with fail
      refine hsh.mono ?_
      rintro e w4a ⟨rfl, b4⟩
      have HB4a := hidd b4
      have hsm := HSM.out w4a b4
      clear hsh b4 HSM
      go_wp2_with fail
      refine hsm.mono ?_
      rintro e w4 ⟨rfl, b4⟩
      have HB4 := hidd (HB4a.out.trans (b4.mono HB4a.out.size))
      clear hsm b4 HB4a
      go_wp2_with fail
      refine (HF.out w4).mono ?_
      rintro e w4' ⟨rfl, hw4⟩
      replace hw4 := hw4.symm
      subst hw4
      have hc := HR1.out w4 (HX.out _ HB4.out)
      go_wp2_with fail
      refine hc.mono ?_
      rintro e w5 ⟨⟨z5, rfl, hz5⟩, b5⟩
      have HB5 := hidd (HB4.out.trans (b5.mono HB4.out.size))
      have HZ5 := hidd hz5
      clear hc b5 HB4 hz5
      go_wp2_with fail
      refine (HF.out w5).mono ?_
      rintro e w5' ⟨rfl, hw5⟩
      replace hw5 := hw5.symm
      subst hw5
      have hc := HR2.out w5 (HX.out _ HB5.out)
      go_wp2_with fail
      refine hc.mono ?_
      rintro e w6 ⟨⟨z6, rfl, hz6⟩, b6⟩
      have HB6 := hidd (HB5.out.trans (b6.mono HB5.out.size))
      have hzz : z6 = z5 := Bool.eq_iff_iff.2 (hz6.trans HZ5.out.symm)
      subst hzz
      clear hc b6 HB5 hz6 HZ5
      go_wp2_with fail
      refine (HF.out w6).mono ?_
      rintro e w6' ⟨rfl, hw6⟩
      replace hw6 := hw6.symm
      subst hw6
      have hc := HC1.out w6 (HX.out _ HB6.out)
      go_wp2_with fail
      refine hc.mono ?_
      intro e w7 hq7
      have hq7' := hq7
      obtain ⟨b7, r7, rfl, -, -⟩ := hq7'
      have HQ7 := hidd hq7
      have HB7 := hidd (HB6.out.trans (b7.mono HB6.out.size))
      clear hc b7 HB6 hq7
      go_wp2_with fail
      refine (HF.out w7).mono ?_
      rintro e w7' ⟨rfl, hw7⟩
      replace hw7 := hw7.symm
      subst hw7
      have hc := HC2.out w7 (HX.out _ HB7.out)
      go_wp2_with fail
      refine hc.mono ?_
      intro e w8 hq8
      have hq8' := hq8
      obtain ⟨b8, r8, rfl, -, -⟩ := hq8'
      have hrr : r8 = r7 := by
        obtain ⟨r, h1, h2⟩ := cnt_eq HQ7.out hq8
        injection h1 with h1
        injection h1 with _ h1
        injection h2 with h2
        injection h2 with _ h2
        omega
      subst hrr
      have HB8 := hidd (HB7.out.trans (b8.mono HB7.out.size))
      clear hc b8 HB7 hq8 HQ7
      have hc := HD1.out w8 HB8.out
      go_wp2_with fail
      refine hc.mono ?_
      intro e w9 hq7
      have hq7' := hq7
      obtain ⟨b7, r9, rfl, -, -⟩ := hq7'
      have HQ7 := hidd hq7
      have HB9 := hidd (HB8.out.trans (b7.mono HB8.out.size))
      clear hc b7 HB8 hq7
      have hc := HD2.out w9 HB9.out
      go_wp2_with fail
      refine hc.mono ?_
      intro e w10 hq8
      have hq8' := hq8
      obtain ⟨b8, r10, rfl, -, -⟩ := hq8'
      have hrr : r10 = r9 := by
        obtain ⟨r, h1, h2⟩ := cnt_eq HQ7.out hq8
        injection h1 with h1
        injection h1 with _ h1
        injection h2 with h2
        injection h2 with _ h2
        omega
      subst hrr
      have HB10 := hidd (HB9.out.trans (b8.mono HB9.out.size))
      clear hc b8 HB9 hq8 HQ7
      go_wp2
      go_ret
      exact ⟨rfl, HB3.out.trans (HB10.out.mono HB3.out.size)⟩
  · have hno : PlainG g4 → x < 1 ∨ 4096 < x := fun q => by
      rcases Int.lt_or_le x 1 with r | r
      · exact .inl r
      · rcases Int.lt_or_le 4096 x with r2 | r2
        · exact .inr r2
        · exact absurd ⟨q, r, r2⟩ h
    have HT1 : Hid (∀ u, Below w.heap.size w u → Calls Try.prog 5 #[.slice A g4.length c, .int .i64 x] u fun e w' => e = .returned (.tuple #[.slice none 0 0, .int .i64 1]) ∧ Below u.heap.size u w') := fun u hb => tree_bad A c g4 x u (HNB.out u hb) hl4 hs4 hno
    have HT2 : Hid (∀ u, Below w.heap.size w u → Calls Try.prog 7 #[.slice A g4.length c, .int .i64 x] u fun e w' => e = .returned (.tuple #[.slice none 0 0, .int .i64 1]) ∧ Below u.heap.size u w') := fun u hb => rtree_bad A c g4 x u (HNB.out u hb) hl4 hs4 hno
    obtain ⟨n4, hn4⟩ : ∃ n4, g4.length = n4 := ⟨_, rfl⟩
    rw [hn4] at HF HT1 HT2 HR1 HR2 HC1 HC2
    clear hN4 hs4 hl4 HNB hn4 hno h
    go_enter Try.func3, Try.ntmps3
    go_wp2_with fail
    refine (HF.out w).mono ?_
    rintro e u ⟨rfl, hu⟩
    replace hu := hu.symm
    subst hu
    have hc := HT1.out w (Below.refl _ _)
    go_wp2_with fail
    refine hc.mono ?_
    rintro e w2 ⟨rfl, b2⟩
    clear hc
    have HB2 := hidd b2
    have hc := HT2.out w2 b2
    clear b2 HT1 HT2
    go_wp2_with fail
    refine (HF.out w2).mono ?_
    rintro e w2' ⟨rfl, hw2⟩
    replace hw2 := hw2.symm
    subst hw2
    go_wp2_with fail
    refine hc.mono ?_
    rintro e w3 ⟨rfl, b3⟩
    have HB3 := hidd (HB2.out.trans (b3.mono HB2.out.size))
    clear hc b3 HB2
    have HSM : Hid (∀ u, Below w3.heap.size w3 u → Calls Try.prog 9 #[.slice none 0 0, .slice none 0 0] u fun e w' => e = .returned (.bool true) ∧ Below u.heap.size u w') := fun u hb => same_any none none 0 0 [] [] u (nds_nil _ _ _) (nds_nil _ _ _) ⟨rfl, fun i hi => absurd hi (Nat.not_lt_zero _)⟩ (Nat.zero_le _) (fun g hg => absurd hg List.not_mem_nil)
    have HD1 : Hid (∀ u, Below w3.heap.size w3 u → Calls Try.prog 12 #[.slice none 0 0] u fun e w' => CntR [] u e w') := fun u hb => counted_any none 0 [] u (nds_nil _ _ _) (Nat.zero_le _) (fun g hg => absurd hg List.not_mem_nil)
    have HD2 : Hid (∀ u, Below w3.heap.size w3 u → Calls Try.prog 13 #[.slice none 0 0] u fun e w' => CntR [] u e w') := fun u hb => rcounted8_any none 0 [] u (nds_nil _ _ _) (Nat.zero_le _) (fun g hg => absurd hg List.not_mem_nil)
    have HX : Hid (∀ u, Below w3.heap.size w3 u → Below w.heap.size w u) := fun u hb => HB3.out.trans (hb.mono HB3.out.size)
    have hsh := HSH.out w3
    clear HSH
    go_wp2_with fail
    refine hsh.mono ?_
    rintro e w4a ⟨rfl, b4⟩
    have HB4a := hidd b4
    have hsm := HSM.out w4a b4
    clear hsh b4 HSM
    go_wp2_with fail
    refine hsm.mono ?_
    rintro e w4 ⟨rfl, b4⟩
    have HB4 := hidd (HB4a.out.trans (b4.mono HB4a.out.size))
    clear hsm b4 HB4a
    go_wp2_with fail
    refine (HF.out w4).mono ?_
    rintro e w4' ⟨rfl, hw4⟩
    replace hw4 := hw4.symm
    subst hw4
    have hc := HR1.out w4 (HX.out _ HB4.out)
    go_wp2_with fail
    refine hc.mono ?_
    rintro e w5 ⟨⟨z5, rfl, hz5⟩, b5⟩
    have HB5 := hidd (HB4.out.trans (b5.mono HB4.out.size))
    have HZ5 := hidd hz5
    clear hc b5 HB4 hz5
    go_wp2_with fail
    refine (HF.out w5).mono ?_
    rintro e w5' ⟨rfl, hw5⟩
    replace hw5 := hw5.symm
    subst hw5
    have hc := HR2.out w5 (HX.out _ HB5.out)
    go_wp2_with fail
    refine hc.mono ?_
    rintro e w6 ⟨⟨z6, rfl, hz6⟩, b6⟩
    have HB6 := hidd (HB5.out.trans (b6.mono HB5.out.size))
    have hzz : z6 = z5 := Bool.eq_iff_iff.2 (hz6.trans HZ5.out.symm)
    subst hzz
    clear hc b6 HB5 hz6 HZ5
    go_wp2_with fail
    refine (HF.out w6).mono ?_
    rintro e w6' ⟨rfl, hw6⟩
    replace hw6 := hw6.symm
    subst hw6
    have hc := HC1.out w6 (HX.out _ HB6.out)
    go_wp2_with fail
    refine hc.mono ?_
    intro e w7 hq7
    have hq7' := hq7
    obtain ⟨b7, r7, rfl, -, -⟩ := hq7'
    have HQ7 := hidd hq7
    have HB7 := hidd (HB6.out.trans (b7.mono HB6.out.size))
    clear hc b7 HB6 hq7
    go_wp2_with fail
    refine (HF.out w7).mono ?_
    rintro e w7' ⟨rfl, hw7⟩
    replace hw7 := hw7.symm
    subst hw7
    have hc := HC2.out w7 (HX.out _ HB7.out)
    go_wp2_with fail
    refine hc.mono ?_
    intro e w8 hq8
    have hq8' := hq8
    obtain ⟨b8, r8, rfl, -, -⟩ := hq8'
    have hrr : r8 = r7 := by
      obtain ⟨r, h1, h2⟩ := cnt_eq HQ7.out hq8
      injection h1 with h1
      injection h1 with _ h1
      injection h2 with h2
      injection h2 with _ h2
      omega
    subst hrr
    have HB8 := hidd (HB7.out.trans (b8.mono HB7.out.size))
    clear hc b8 HB7 hq8 HQ7
    have hc := HD1.out w8 HB8.out
    go_wp2_with fail
    refine hc.mono ?_
    intro e w9 hq7
    have hq7' := hq7
    obtain ⟨b7, r9, rfl, -, -⟩ := hq7'
    have HQ7 := hidd hq7
    have HB9 := hidd (HB8.out.trans (b7.mono HB8.out.size))
    clear hc b7 HB8 hq7
    have hc := HD2.out w9 HB9.out
    go_wp2_with fail
    refine hc.mono ?_
    intro e w10 hq8
    have hq8' := hq8
    obtain ⟨b8, r10, rfl, -, -⟩ := hq8'
    have hrr : r10 = r9 := by
      obtain ⟨r, h1, h2⟩ := cnt_eq HQ7.out hq8
      injection h1 with h1
      injection h1 with _ h1
      injection h2 with h2
      injection h2 with _ h2
      omega
    subst hrr
    have HB10 := hidd (HB9.out.trans (b8.mono HB9.out.size))
    clear hc b8 HB9 hq8 HQ7
    go_wp2
    go_ret
    exact ⟨rfl, HB3.out.trans (HB10.out.mono HB3.out.size)⟩
end Go.Proofs.Ytaagkfiaccmepaa.Sy.Pl.Qr

/- The reference's Expand; NormTells: its walk. -/
import Derived.Test.YtgppanbikfobbaaBi
import Derived.Test.YtgppanbikfobbaaAu
namespace Go.Proofs.Ytgppanbikfobbaa.Sy.Ap.Wk
open Go.RowKit
set_option maxRecDepth 100000
set_option linter.unusedVariables false

set_option maxHeartbeats 1000000 in
theorem rxpand_bad (A : Option Addr) (c : Nat) (gs : List Gd) (A2 : Option Addr) (c2 : Nat) (ds : List DG) (w : World) (hN : Nds w w.heap.size A gs) (hl : gs.length ≤ 2000) (hsm : Small gs) (hx : Dfs w w.heap.size A2 ds) (hok : DOk ds) (hno : ¬ (RightG gs ∧ RightDs ds)) :
    Calls Try.prog 9 #[.slice A gs.length c, .slice A2 ds.length c2] w fun e w' => XpR w (.error 1) e w' := by
  have hR := refRight_any A c gs w hN hl hsm
  have HDR : Hid (∀ u, Below w.heap.size w u → Calls Try.prog 17 #[.slice A2 ds.length c2] u fun e w' => DRgt ds u e w') := fun u hu => refDRight_any A2 c2 ds u ((hx.below hu).more hu.size) hok
  have HNO := hidd hno
  clear hN hl hsm hx hok hno
  generalize gs.length = n at *
  generalize ds.length = m at *
  go_enter Try.func9, Try.ntmps9
  go_wp2_with fail
  refine hR.mono ?_
  rintro e w1 ⟨z, rfl, hz, b1⟩
  clear hR
  cases z with
  | false =>
    have HB := hidd b1
    clear hz b1
    go_wp2
    go_ret2
    exact ⟨HB.out, rfl⟩
  | true =>
    have hd := HDR.out w1 b1
    have HZ := hidd (hz.1 rfl)
    have HB := hidd b1
    clear hz b1
    go_wp2_with fail
    refine hd.mono ?_
    rintro e w2 ⟨y, rfl, hy, b2⟩
    have hy2 : y = false := by
      cases y with
      | false => rfl
      | true => exact absurd ⟨HZ.out, hy.1 rfl⟩ HNO.out
    subst hy2
    have HB2 := hidd (HB.out.trans (b2.mono HB.out.size))
    clear hy b2 hd
    go_wp2
    go_ret2
    exact ⟨HB2.out, rfl⟩
theorem fn_false (n : Nat) : fnC n (fun _ => Value.bool false) = ((List.replicate n false).map Value.bool).toArray := by
  unfold fnC
  congr 1
  apply List.ext_getElem?
  intro i
  rw [List.getElem?_map, List.getElem?_map, List.getElem?_replicate]
  rcases Nat.lt_or_ge i n with q | q
  · rw [List.getElem?_range q, if_pos q]
    rfl
  · rw [List.getElem?_eq_none (by simp; exact q), if_neg (by omega)]
    rfl
set_option maxHeartbeats 4000000 in
theorem rxpand_ok (A : Option Addr) (c : Nat) (gs : List Gd) (ns : List Nd) (A2 : Option Addr) (c2 : Nat) (ds : List DG) (D : List Df) (w : World) (hN : Nds w w.heap.size A gs) (hsm : Small gs) (hx : Dfs w w.heap.size A2 ds) (hok : DOk ds) (hg : GN gs ns) (ht : TreeN ns) (hr : RightDs ds) (hG : GD ds D) :
    Calls Try.prog 9 #[.slice A gs.length c, .slice A2 ds.length c2] w fun e w' => XpR w (expN ns D) e w' := by
  have hgl2 : gs.length ≤ 2000 := by have := hg.1; have := ht.few; omega
  have hR := refRight_any A c gs w hN hgl2 hsm
  have HDR : Hid (∀ u, Below w.heap.size w u → Calls Try.prog 17 #[.slice A2 ds.length c2] u fun e w' => DRgt ds u e w') := fun u hu => refDRight_any A2 c2 ds u ((hx.below hu).more hu.size) hok
  have HRG := hidd (tree_rg hg ht)
  have HRD := hidd hr
  have hdl := hok.len
  have hmk := make_bools6 ds.length (by omega)
  have hpos := ht.pos
  have hln := hg.1
  have HC : Hid (∀ (u : World) (b ob : Nat), Below w.heap.size w u → WK w.heap.size u b ob ds.length A2 c2 (.slice none 0 0) [] (List.replicate ds.length false) 0 →
      Calls Try.prog 22 #[.pointer (some ⟨b, 0, none⟩), .slice A gs.length c, .int .i64 ((gs.length : Int) - 1)] u fun e u' => WkQ w.heap.size u b ob ds.length A2 c2 (.slice none 0 0) [] (List.replicate ds.length false) (exF (allD D) D ns x0) e u') := fun u b ob hu hW => by
    have h := Rw.walk_any ds D hG (hG.apart hr) rfl hdl (shut (List.replicate ds.length false) + 1) (List.replicate ds.length false) (Nat.lt_succ_self _) gs ns A c hg ht (ns.length - 1) 0 (by rw [show ns.length - 1 + 1 = ns.length from by omega]; exact ht.frs) u (.slice none 0 0) [] [] (hN.below hu) (hx.below hu) hW ⟨rfl, fun i hi => absurd hi (Nat.not_lt_zero _)⟩ (Nat.zero_le _)
    rw [show ns.length - 1 + 1 = ns.length from by omega, seg_all, hG.len, opD_all, ← hG.len, show ((ns.length - 1 : Nat) : Int) = (gs.length : Int) - 1 from by omega] at h
    exact h
  clear hN hsm hx hok hg ht hr hG
  have hn1 : 1 ≤ gs.length := by omega
  clear hpos hln
  generalize gs.length = n at *
  generalize ds.length = m at *
  go_enter Try.func9, Try.ntmps9
  go_wp2_with fail
  refine hR.mono ?_
  rintro e w1 ⟨z, rfl, hz, b1⟩
  have hz2 : z = true := hz.2 HRG.out
  subst hz2
  have hd := HDR.out w1 b1
  have HB := hidd b1
  clear hz b1 hR
  go_wp2_with fail
  refine hd.mono ?_
  rintro e w2 ⟨y, rfl, hy, b2⟩
  have hy2 : y = true := hy.2 HRD.out
  subst hy2
  have B2 := HB.out.trans (b2.mono HB.out.size)
  clear hy b2 hd HB
  have b3 : Below w.heap.size w ((w2.alloc (.cells (fnC m (fun _ => .bool false)) 4)).alloc (.cells #[.slice A2 m c2, .slice (some ⟨w2.heap.size, 0, none⟩) m m, .slice none 0 0, .int .i64 0] 53)) := (B2.alloc B2.size _).alloc (by have := B2.size; simp; omega) _
  have hs : (w2.alloc (.cells (fnC m (fun _ => .bool false)) 4)).heap.size = w2.heap.size + 1 := World.size_alloc ..
  have W3 : WK w.heap.size ((w2.alloc (.cells (fnC m (fun _ => .bool false)) 4)).alloc (.cells #[.slice A2 m c2, .slice (some ⟨w2.heap.size, 0, none⟩) m m, .slice none 0 0, .int .i64 0] 53)) (w2.heap.size + 1) w2.heap.size m A2 c2 (.slice none 0 0) [] (List.replicate m false) 0 := by
    have R := RowA.new (w2.alloc (.cells (fnC m (fun _ => .bool false)) 4)) 53 #[.slice A2 m c2, .slice (some ⟨w2.heap.size, 0, none⟩) m m, .slice none 0 0, .int .i64 0]
    rw [hs] at R
    have O := (RowA.new w2 4 (fnC m (fun _ => .bool false))).alloc (.cells #[.slice A2 m c2, .slice (some ⟨w2.heap.size, 0, none⟩) m m, .slice none 0 0, .int .i64 0] 53)
    have O2 : RowA ((w2.alloc (.cells (fnC m (fun _ => .bool false)) 4)).alloc (.cells #[.slice A2 m c2, .slice (some ⟨w2.heap.size, 0, none⟩) m m, .slice none 0 0, .int .i64 0] 53)) w2.heap.size 4 ((List.replicate m false).map Value.bool).toArray := by rw [← fn_false]; exact O
    have := B2.size
    exact ⟨R, O2, List.length_replicate, World.ownsRow_nil _ _ _ _, fun x hx => absurd hx List.not_mem_nil, by omega, this⟩
  have hcall := HC.out _ _ _ b3 W3
  have HB3 := hidd b3
  have HW3 := hidd W3
  clear b3 W3 HC HDR hs
  go_wp2_with fail
  refine hcall.mono ?_
  rintro e w4 ⟨nv', new, er, r, rfl, W4, L4, F4, K4, hres⟩
  rw [List.nil_append] at W4 hres
  have hb4 := K4.below HW3.out.size HW3.out.wr
  have HB4 := hidd (HB3.out.trans hb4)
  have d3 : w4.cell? ⟨w2.heap.size + 1, 3, none⟩ = some (.int .i64 er) := W4.row.at_ rfl
  cases hr : exF (allD D) D ns x0 with
  | error q =>
    rw [hr] at hres
    obtain ⟨he, hq⟩ := hres
    subst he
    have hne : (((q : Nat) : Int) != 0) = true := by simp; omega
    have HXP : Hid (expN ns D = .error q) := by show _ = _; unfold expN; rw [hr]
    clear hr hq hb4 hcall HB3 HW3 L4 F4 K4 W4
    go_wp2
    go_quiet (fail)
    go_wp2
    go_ret2
    unfold XpR
    rw [HXP.out]
    exact ⟨bel_drewN HB4.out _, rfl⟩
  | ok x =>
    rw [hr] at hres
    obtain ⟨he, hgn, hfw, jj, hr1, hrt⟩ := hres
    subst he
    have HXP : Hid (expN ns D = .ok x.out) := by show _ = _; unfold expN; rw [hr]
    obtain ⟨A5, c5, rfl, N5, hc5⟩ := own_nds W4.nodes (fun y hy => its_own (W4.kids y hy) rfl)
    have d2 : w4.cell? ⟨w2.heap.size + 1, 2, none⟩ = some (.slice A5 new.length c5) := W4.row.at_ rfl
    have HN5 := hidd N5
    have HG4 := hidd hgn
    have HC5 := hidd hc5
    have HLM : Hid ((new.map (·.1)).length = new.length) := List.length_map ..
    clear hr hgn hfw hr1 hrt hb4 hcall HB3 HW3 L4 F4 K4 W4 N5 hc5
    go_wp2
    go_ret2
    unfold XpR
    rw [HXP.out]
    exact ⟨HB4.out, A5, c5, new.map (·.1), by rw [HLM.out]; rfl, HN5.out, HG4.out, by rw [HLM.out]; exact HC5.out⟩
end Go.Proofs.Ytgppanbikfobbaa.Sy.Ap.Wk

namespace Go.Proofs.Ytgppanbikfobbaa.Sy.Ap.Tl
open Go.RowKit
set_option maxRecDepth 100000
set_option linter.unusedVariables false

theorem nds_no (w : World) (B : Nat) (A : Option Addr) : Nds w B A [] := fun h => absurd rfl h
/-- What both tell, of the same nodes and Defs. -/
theorem tl_R (g4 : List Gd) (d6 : List DG) (hl : g4.length ≤ 2000) (hsm : Small g4) (hok : DOk d6) : ∃ R : Except Nat (List Nd),
    (∀ (A : Option Addr) (c : Nat) (A2 : Option Addr) (c2 : Nat) (u : World), Nds u u.heap.size A g4 → g4.length ≤ c → Dfs u u.heap.size A2 d6 →
      Calls Try.prog 6 #[.slice A g4.length c, .slice A2 d6.length c2] u fun e w' => XpR u R e w') ∧
    (∀ (A : Option Addr) (c : Nat) (A2 : Option Addr) (c2 : Nat) (u : World), Nds u u.heap.size A g4 → Dfs u u.heap.size A2 d6 →
      Calls Try.prog 9 #[.slice A g4.length c, .slice A2 d6.length c2] u fun e w' => XpR u R e w') ∧
    ∀ o, R = .ok o → TreeN o := by
  by_cases hr : RightG g4 ∧ RightDs d6
  · obtain ⟨ns, hg, ht⟩ := gn_tree hr.1
    obtain ⟨D, hD⟩ := gd_of hr.2
    exact ⟨expN ns D, fun A c A2 c2 u hN hc hx => xpand_ok A c g4 ns A2 c2 d6 D u hN hc hsm hx hok hg ht hr.2 hD, fun A c A2 c2 u hN hx => Wk.rxpand_ok A c g4 ns A2 c2 d6 D u hN hsm hx hok hg ht hr.2 hD, fun o he => (expN_tree hD.trs ht he).1⟩
  · exact ⟨.error 1, fun A c A2 c2 u hN hc hx => xpand_bad A c g4 A2 c2 d6 u hN hl hsm hx hok hr, fun A c A2 c2 u hN hx => Wk.rxpand_bad A c g4 A2 c2 d6 u hN hl hsm hx hok hr, fun o he => by cases he⟩
/-- Two lists of nodes that read as one tree, or are both empty. -/
def SmT (u : World) (A A' : Option Addr) (k k' : Nat) : Prop := ∀ (w : World) (c c' : Nat), Below u.heap.size u w → Calls Try.prog 11 #[.slice A k c, .slice A' k' c'] w fun e w' => e = .returned (.bool true) ∧ Below w.heap.size w w'
theorem same_none (w : World) (A A' : Option Addr) (c c' : Nat) : Calls Try.prog 11 #[.slice A 0 c, .slice A' 0 c'] w fun e w' => e = .returned (.bool true) ∧ Below w.heap.size w w' :=
  same_any A A' c c' [] [] w (nds_no _ _ _) (nds_no _ _ _) (leq_refl _) (by simp) (fun g hg => absurd hg List.not_mem_nil)
/-- Both Folds. -/
theorem both_folds (A : Option Addr) (c : Nat) (g4 : List Gd) (hl : g4.length ≤ 2000) (hsm : Small g4) : ∃ (k k' : Nat),
    (∀ u, Nds u u.heap.size A g4 → Calls Try.prog 12 #[.slice A g4.length c] u fun e w' => Below u.heap.size u w' ∧ ∃ A1 c1, e = .returned (.slice A1 k c1) ∧
      ∀ u1, Below w'.heap.size w' u1 → Nds u1 u1.heap.size A g4 → Calls Try.prog 13 #[.slice A g4.length c] u1 fun e w2 => Below u1.heap.size u1 w2 ∧ ∃ A2 c2, e = .returned (.slice A2 k' c2) ∧
        Calls Try.prog 11 #[.slice A1 k c1, .slice A2 k' c2] w2 fun e w' => e = .returned (.bool true) ∧ Below w2.heap.size w2 w') := by
  by_cases hr : RightG g4
  · obtain ⟨ns, hg, ht⟩ := gn_tree hr
    refine ⟨g4.length, (g4.map foldH).length, fun u hN => (fold_ok A c g4 ns u hN hg ht).mono ?_⟩
    rintro e w' ⟨b1, A1, rfl, N1⟩
    refine ⟨b1, A1, _, rfl, fun u1 hu1 hN1 => (rfold_ok A c g4 ns u1 hN1 hg ht).mono ?_⟩
    rintro e w2 ⟨b2, A2, c2, rfl, N2⟩
    refine ⟨b2, A2, c2, rfl, ?_⟩
    have b12 := hu1.trans (b2.mono hu1.size)
    have h := same_tree (c := g4.length) (c' := c2) ((N1.below b12).more b12.size) N2 (gn_fold hg ht.shp) (gn_foldH hg) ht.fold
    rw [List.length_map] at h
    exact h
  · refine ⟨0, 0, fun u hN => (fold_bad A c g4 u hN hl hsm hr).mono ?_⟩
    rintro e w' ⟨b1, rfl⟩
    refine ⟨b1, none, 0, rfl, fun u1 hu1 hN1 => (rfold_bad A c g4 u1 hN1 hl hsm hr).mono ?_⟩
    rintro e w2 ⟨b2, rfl⟩
    exact ⟨b2, none, 0, rfl, same_none _ _ _ _ _⟩
theorem both_nulls (A : Option Addr) (c : Nat) (g4 : List Gd) (hl : g4.length ≤ 2000) (hsm : Small g4) : ∃ z : Bool,
    (∀ u, Nds u u.heap.size A g4 → Calls Try.prog 14 #[.slice A g4.length c] u fun e w' => NulR u z e w') ∧
    (∀ u, Nds u u.heap.size A g4 → Calls Try.prog 15 #[.slice A g4.length c] u fun e w' => NulR u z e w') := by
  by_cases hr : RightG g4
  · obtain ⟨ns, hg, ht⟩ := gn_tree hr
    exact ⟨nulN ns, fun u hN => null_ok A c g4 ns u hN hg ht, fun u hN => rnull_ok A c g4 ns u hN hg ht⟩
  · exact ⟨false, fun u hN => null_bad A c g4 u hN hl hsm hr, fun u hN => rnull_bad A c g4 u hN hl hsm hr⟩
theorem both_rights (d6 : List DG) (hok : DOk d6) : ∃ z : Bool,
    (∀ (A : Option Addr) (c : Nat) (u : World), Dfs u u.heap.size A d6 → Calls Try.prog 16 #[.slice A d6.length c] u fun e w' => e = .returned (.bool z) ∧ Below u.heap.size u w') ∧
    (∀ (A : Option Addr) (c : Nat) (u : World), Dfs u u.heap.size A d6 → Calls Try.prog 17 #[.slice A d6.length c] u fun e w' => e = .returned (.bool z) ∧ Below u.heap.size u w') := by
  have key : ∀ (b : Bool), (b = true ↔ RightDs d6) → ∀ (b' : Bool), (b' = true ↔ RightDs d6) → b = b' := fun b h b' h' => by
    rw [Bool.eq_iff_iff, h, h']
  by_cases hr : RightDs d6
  · refine ⟨true, fun A c u hx => (dright_any A c d6 u hx hok).mono ?_, fun A c u hx => (refDRight_any A c d6 u hx hok).mono ?_⟩
    · rintro e w' ⟨b, rfl, h1, h2⟩
      rw [h1.2 hr]
      exact ⟨rfl, h2⟩
    · rintro e w' ⟨b, rfl, h1, h2⟩
      rw [h1.2 hr]
      exact ⟨rfl, h2⟩
  · have hn : ∀ b : Bool, (b = true ↔ RightDs d6) → b = false := fun b h => by
      cases b with
      | false => rfl
      | true => exact absurd (h.1 rfl) hr
    refine ⟨false, fun A c u hx => (dright_any A c d6 u hx hok).mono ?_, fun A c u hx => (refDRight_any A c d6 u hx hok).mono ?_⟩
    · rintro e w' ⟨b, rfl, h1, h2⟩
      rw [hn b h1]
      exact ⟨rfl, h2⟩
    · rintro e w' ⟨b, rfl, h1, h2⟩
      rw [hn b h1]
      exact ⟨rfl, h2⟩
set_option maxHeartbeats 4000000 in
theorem lawTells_any (A : Option Addr) (c : Nat) (gs : List Gd) (A2 : Option Addr) (c2 : Nat) (ds : List DG) (w : World) (hN : Nds w w.heap.size A gs) (hc : gs.length ≤ c) (hm : gs.length ≤ maxLen) (hsm : Small gs) (hx : Dfs w w.heap.size A2 ds) (hdm : ds.length ≤ maxLen) (hds : ∀ d ∈ ds, d.1.size ≤ maxLen ∧ d.2.length ≤ maxLen ∧ Small d.2) :
    Calls Try.prog 3 #[.slice A gs.length c, .slice A2 ds.length c2] w fun e w' => e = .returned (.bool true) ∧ Below w.heap.size w w' := by
  have hok : DOk (someL ds) := some_dok (fun d hd => (hds d hd).1) (fun d hd => (hds d hd).2.2)
  have HF : Hid (∀ u, Calls Try.prog 7 #[.slice A gs.length c] u fun e w' => e = .returned (.slice A (gs.take 400).length c) ∧ w' = u) := fun u => few_nds A c gs u hc hm
  have HS : Hid (∀ u, Below w.heap.size w u → Calls Try.prog 8 #[.slice A2 ds.length c2] u fun e w' => Below u.heap.size u w' ∧ ∃ A3 c3, e = .returned (.slice A3 (someL ds).length c3) ∧ Dfs w' w'.heap.size A3 (someL ds)) := fun u hu => some_any A2 c2 ds u ((hx.below hu).more hu.size) hdm (fun d hd => (hds d hd).2.1)
  have hN4 := nds_take hN 400
  have hs4 := small_take hsm 400
  have hc4 : (gs.take 400).length ≤ c := by rw [List.length_take]; omega
  have hl4 : (gs.take 400).length ≤ 2000 := by rw [List.length_take]; omega
  clear hN hc hm hsm hx hdm hds
  generalize gs.length = n at *
  generalize gs.take 400 = g4 at *
  generalize ds.length = m at *
  generalize someL ds = d6 at *
  clear gs ds
  obtain ⟨R, HX, HY, HO⟩ := tl_R g4 d6 hl4 hs4 hok
  obtain ⟨k1, k2, HFO⟩ := both_folds A c g4 hl4 hs4
  obtain ⟨z, HNA, HNB⟩ := both_nulls A c g4 hl4 hs4
  obtain ⟨y, HRA, HRB⟩ := both_rights d6 hok
  replace HX := hidd HX
  replace HY := hidd HY
  replace HO := hidd HO
  replace HFO := hidd HFO
  replace HNA := hidd HNA
  replace HNB := hidd HNB
  replace HRA := hidd HRA
  replace HRB := hidd HRB
  have HN : Hid (∀ u, Below w.heap.size w u → Nds u u.heap.size A g4) := fun u hu => (hN4.below hu).more hu.size
  have HC4 := hidd hc4
  clear hN4 hs4 hc4 hl4 hok
  have hf := HF.out w
  go_enter Try.func3, Try.ntmps3
  go_wp2_with fail
  refine hf.mono ?_
  rintro e w1 ⟨rfl, rfl⟩
  have hs := HS.out w1 (Below.refl _ _)
  clear hf
  go_wp2_with fail
  refine hs.mono ?_
  rintro e w2 ⟨b2, A3, c3, rfl, D3⟩
  have hx := HX.out A c A3 c3 w2 (HN.out w2 b2) HC4.out D3
  have HB2 := hidd b2
  clear hs b2 D3
  go_wp2_with fail
  refine hx.mono ?_
  rintro e w3 ⟨b3, h3⟩
  have B3 := HB2.out.trans (b3.mono HB2.out.size)
  have hf := HF.out w3
  have HB3 := hidd B3
  clear hx b3 B3
  have hg3 : ∃ (A5 : Option Addr) (k c5 : Nat) (er : Nat), e = .returned (.tuple #[.slice A5 k c5, .int .i64 (er : Int)]) ∧ ∀ u, Below w3.heap.size w3 u → ∀ e' u', XpR u R e' u' → Below u.heap.size u u' ∧ ∃ A6 k' c6, e' = .returned (.tuple #[.slice A6 k' c6, .int .i64 (er : Int)]) ∧ ∀ v, Below u'.heap.size u' v → Calls Try.prog 11 #[.slice A5 k c5, .slice A6 k' c6] v fun e w' => e = .returned (.bool true) ∧ Below v.heap.size v w' := by
    rcases R with er | o
    · refine ⟨none, 0, 0, er, h3, fun u hu e' u' h => ⟨h.1, none, 0, 0, h.2, fun v hv => same_none _ _ _ _ _⟩⟩
    · obtain ⟨A5, c5, go, h1, N5, G5, -⟩ := h3
      refine ⟨A5, go.length, c5, 0, h1, fun u hu e' u' h => ?_⟩
      obtain ⟨bu, A6, c6, gy, h2, N6, G6, -⟩ := h
      refine ⟨bu, A6, gy.length, c6, h2, fun v hv => ?_⟩
      have b5 := (hu.trans (bu.mono hu.size)).trans (hv.mono (hu.trans (bu.mono hu.size)).size)
      exact same_tree ((N5.below b5).more b5.size) ((N6.below hv).more hv.size) G5 G6 (HO.out o rfl)
  obtain ⟨A5, k5, c5, er, rfl, HG3⟩ := hg3
  replace HG3 := hidd HG3
  clear h3
  go_wp2_with fail
  refine hf.mono ?_
  rintro e w4 ⟨rfl, rfl⟩
  have hs := HS.out w4 HB3.out
  clear hf
  go_wp2_with fail
  refine hs.mono ?_
  rintro e w5 ⟨b5, A7, c7, rfl, D7⟩
  have B5 := HB3.out.trans (b5.mono HB3.out.size)
  have hy := HY.out A c A7 c7 w5 (HN.out w5 B5) D7
  have HB5 := hidd B5
  have Hb5 := hidd b5
  clear hs b5 D7 B5
  go_wp2_with fail
  refine hy.mono ?_
  rintro e w6 h6
  obtain ⟨b6, A6, k6, c6, rfl, hsm⟩ := HG3.out w5 Hb5.out e w6 h6
  have HSM := hidd hsm
  have B6 := HB5.out.trans (b6.mono HB5.out.size)
  have hsh := shown_any w6
  have HB6 := hidd B6
  clear hy h6 b6 B6 hsm HB3 HB5 Hb5 HG3
  go_wp2_with fail
  refine hsh.mono ?_
  rintro e w7 ⟨rfl, b7⟩
  have hsa := HSM.out w7 b7
  have B7 := HB6.out.trans (b7.mono HB6.out.size)
  have HB7 := hidd B7
  clear hsh b7 B7 HB6 HSM
  go_wp2_with fail
  refine hsa.mono ?_
  rintro e w8 ⟨rfl, b8⟩
  have B8 := HB7.out.trans (b8.mono HB7.out.size)
  have HB8 := hidd B8
  have hf := HF.out w8
  have hee : (((er : Nat) : Int) == (er : Int)) = true := by simp
  have hfo := HFO.out w8 (HN.out w8 B8)
  clear hsa b8 B8 HB7
  go_wp2_with fail
  refine hf.mono ?_
  rintro e w9 ⟨rfl, rfl⟩
  clear hf
  go_wp2_with fail
  refine hfo.mono ?_
  rintro e w10 ⟨b10, A1, c1, rfl, h10⟩
  have B10 := HB8.out.trans (b10.mono HB8.out.size)
  have HB10 := hidd B10
  have hf := HF.out w10
  have hrf := h10 w10 (Below.refl _ _) (HN.out w10 B10)
  clear hfo b10 B10 HB8 h10
  go_wp2_with fail
  refine hf.mono ?_
  rintro e w11 ⟨rfl, rfl⟩
  clear hf
  go_wp2_with fail
  refine hrf.mono ?_
  rintro e w12 ⟨b12, A12, c12, rfl, hsa⟩
  have HB12 := hidd (HB10.out.trans (b12.mono HB10.out.size))
  clear hrf b12 HB10
  go_wp2_with fail
  refine hsa.mono ?_
  rintro e w13 ⟨rfl, b13⟩
  have B13 := HB12.out.trans (b13.mono HB12.out.size)
  have HB13 := hidd B13
  have hf := HF.out w13
  have hna := HNA.out w13 (HN.out w13 B13)
  clear hsa b13 B13 HB12
  go_wp2_with fail
  refine hf.mono ?_
  rintro e w14 ⟨rfl, rfl⟩
  clear hf
  go_wp2_with fail
  refine hna.mono ?_
  rintro e w15 ⟨rfl, b15⟩
  have B15 := HB13.out.trans (b15.mono HB13.out.size)
  have HB15 := hidd B15
  have hf := HF.out w15
  have hnb := HNB.out w15 (HN.out w15 B15)
  clear hna b15 B15 HB13
  go_wp2_with fail
  refine hf.mono ?_
  rintro e w16 ⟨rfl, rfl⟩
  clear hf
  go_wp2_with fail
  refine hnb.mono ?_
  rintro e w17 ⟨rfl, b17⟩
  have B17 := HB15.out.trans (b17.mono HB15.out.size)
  have HB17 := hidd B17
  have hs := HS.out w17 B17
  have hzz : (z == z) = true := by simp
  have hyy : (y == y) = true := by simp
  clear hnb b17 B17 HB15
  go_wp2_with fail
  refine hs.mono ?_
  rintro e w18 ⟨b18, A18, c18, rfl, D18⟩
  have HB18 := hidd (HB17.out.trans (b18.mono HB17.out.size))
  have hra := HRA.out A18 c18 w18 D18
  clear hs b18 HB17 D18
  go_wp2_with fail
  refine hra.mono ?_
  rintro e w19 ⟨rfl, b19⟩
  have B19 := HB18.out.trans (b19.mono HB18.out.size)
  have HB19 := hidd B19
  have hs := HS.out w19 B19
  clear hra b19 B19 HB18
  go_wp2_with fail
  refine hs.mono ?_
  rintro e w20 ⟨b20, A20, c20, rfl, D20⟩
  have HB20 := hidd (HB19.out.trans (b20.mono HB19.out.size))
  have hrb := HRB.out A20 c20 w20 D20
  clear hs b20 HB19 D20
  go_wp2_with fail
  refine hrb.mono ?_
  rintro e w21 ⟨rfl, b21⟩
  have HBE := hidd (HB20.out.trans (b21.mono HB20.out.size))
  clear hrb b21 HB20
  go_wp2
  go_ret
  exact ⟨rfl, HBE.out⟩
end Go.Proofs.Ytgppanbikfobbaa.Sy.Ap.Tl

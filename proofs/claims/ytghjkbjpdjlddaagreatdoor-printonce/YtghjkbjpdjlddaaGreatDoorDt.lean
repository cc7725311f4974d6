/- PrintOnce: its walk. -/
import Derived.Test.YtghjkbjpdjlddaaGreatDoorDs
import Derived.Test.YtghjkbjpdjlddaaGreatDoorDl
namespace Go.Proofs.YtghjkbjpdjlddaaGreatDoor.Sy.Pn
open Go.RowKit
set_option maxRecDepth 100000
set_option linter.unusedVariables false

/-- What Parse tells of a tree's pattern that is not too deep. -/
theorem parse_again2 {gs : List Gd} {ns : List Nd} (h : RN gs ns) (h64 : Dp.dN ns ns.length (ns.getD (ns.length - 1) nd0) ≤ 64) (hlen : (treeT ns).length ≤ 1024) (w : World) (hE : EV w) :
    Calls Tryz.prog 10 #[.string (txt (treeT ns))] w fun e w' => ∃ A c gs', e = .returned (.tuple #[.slice A gs'.length c, .int .i64 0, .int .i64 0]) ∧ Nds w' w'.heap.size A gs' ∧ GN gs' ns ∧ Below w.heap.size w w' := by
  have hp : parse (bs (txt (treeT ns))) = .ok (ns.map cN) := by
    rw [bs_txt (treeT_lt h.shp h.pos)]
    exact Dp.parse_deep h.shp h.pos h.len h.tree h64 hlen
  refine (parseC.ok (by rw [txt_size]; omega) hp w hE).mono ?_
  rintro e w' ⟨A, c, gs', h1, h2, h3, h4⟩
  exact ⟨A, c, gs', h1, h2, gn_ne h3 (ne_map h.shp), h4⟩
set_option maxHeartbeats 1000000 in
theorem parse_far (s : ByteArray) (w : World) (hs : s.size ≤ 100000000) (hlong : 1024 < s.size) :
    Calls Tryz.prog 10 #[.string s] w fun e w' => e = .returned (.tuple #[.slice none 0 0, .int .i64 0, .int .i64 3]) ∧ Below w.heap.size w w' := by
  have hl2 : (1024 : Int) < (s.size : Int) := by omega
  go_enter Tryz.func10, Tryz.ntmps10
  go_wp2
  go_ret3
  exact ⟨rfl, Below.refl _ _⟩
theorem tree_none (A : Option Addr) (c : Nat) (w : World) (hT : TV w) :
    Calls Tryz.prog 8 #[.slice A 0 c] w fun e w' => e = .returned (.tuple #[.string { data := #[] }, .bool false]) ∧ Below w.heap.size w w' := by
  refine (tree_any A c [] w (fun h => absurd rfl h) (by simp) (fun g hg => by cases hg) hT).mono ?_
  rintro e w' ⟨⟨ns, hn, rfl⟩ | ⟨_, rfl⟩, hb⟩
  · have h1 := hn.gn.1
    have h2 := hn.pos
    simp at h1
    omega
  · exact ⟨rfl, hb⟩
set_option maxHeartbeats 1000000 in
theorem once_any (t : ByteArray) (w : World) (hE : EV w) (hT : TV w) (hs : t.size ≤ maxLen) :
    Calls Tryz.prog 4 #[.string t] w fun e w' => e = .returned (.bool true) ∧ Below w.heap.size w w' := by
  have HY := fun h => hidd (cutS_yes (n := 300) (s := t) h)
  have HN := fun h => hidd (cutS_no (n := 300) (s := t) h)
  have hxs := cutS_size 300 t
  have HPX := hidd (fun (w1 : World) (hE1 : EV w1) => parseC (cutS 300 t) w1 hE1 (by omega))
  unfold maxLen at hs
  by_cases h : 300 < t.size
  · rw [(HY h).out] at HPX
    have hti : (300 : Int) < (t.size : Int) := by omega
    have hmi : min (t.size : Int) 300 = 300 := by omega
    clear HY HN hxs h
    go_enter Tryz.func4, Tryz.ntmps4
    go_wp2_with fail
    refine (shown5_any w hT).mono ?_
    rintro e w1 ⟨rfl, b1⟩
    have hpc := HPX.out w1 (hE.below b1)
    have HT1 := hidd (hT.below b1)
    have HE1 := hidd (hE.below b1)
    have HB1 := hidd b1
    clear b1 HPX hE hT
    go_wp2_with fail
    refine hpc.mono ?_
    rintro e w2 ⟨hr, b2⟩
    have D2 := hidd (HB1.out.trans (b2.mono HB1.out.size))
    have HE2 := hidd (HE1.out.below b2)
    have HT2 := hidd (HT1.out.below b2)
    clear hpc b2 HB1 HE1 HT1
    unfold ParseR at hr
    cases hp : parse (bs (t.extract 0 300)) with
    | error e1 =>
      obtain ⟨er, p⟩ := e1
      rw [hp] at hr
      obtain ⟨A, c, rfl⟩ := hr
      have hne : ¬ (er : Int) = 0 := by
        rcases parse_bad hp with h | h
        · cases h; decide
        · have := h.2.2.1
          simp only at this
          omega
      clear hp
      go_wp2
      go_ret
      exact ⟨rfl, D2.out⟩
    | ok ns =>
      rw [hp] at hr
      obtain ⟨A, c, gs, rfl, hN, hG⟩ := hr
      have HRN := hidd (rn_parse hp hG)
      have HSH := hidd (Dp.parse_shallow (bs_lt _) hp)
      have htr := tree_rn A c gs ns w2 hN HRN.out HT2.out
      have HN := hidd hN
      have hsz : (txt (treeT ns)).size ≤ 4000000 := by rw [txt_size]; exact HRN.out.size
      have HPA := hidd (fun (hl : (treeT ns).length ≤ 1024) => parse_again2 HRN.out HSH.out hl)
      have HTR := hidd (fun (A' : Option Addr) (c' : Nat) (gs' : List Gd) (w' : World) (hx : Nds w' w'.heap.size A' gs') (hg : GN gs' ns) (hT' : TV w') => tree_rn A' c' gs' ns w' hx ⟨hg, HRN.out.shp, HRN.out.pos, HRN.out.len, HRN.out.tree⟩ hT')
      have HLN : Hid ((txt (treeT ns)).size = (treeT ns).length) := txt_size _
      clear hp hG hN HSH
      generalize txt (treeT ns) = s at *
      go_wp2_with fail
      refine htr.mono ?_
      rintro e w3 ⟨rfl, b3⟩
      have D3 := hidd (D2.out.trans (b3.mono D2.out.size))
      have HE3 := hidd (HE2.out.below b3)
      have HT3 := hidd (HT2.out.below b3)
      have HB3 := hidd b3
      clear htr b3 D2 HE2 HT2
      by_cases hlong : 1024 < s.size
      · have hpf := parse_far s w3 (by omega) hlong
        have hli : (1024 : Int) < (s.size : Int) := by omega
        clear hlong HPA HTR HLN hsz
        go_wp2_with fail
        refine hpf.mono ?_
        rintro e w4 ⟨rfl, b4⟩
        have D4 := hidd (D3.out.trans (b4.mono D3.out.size))
        have htn := tree_none none 0 w4 (HT3.out.below b4)
        clear hpf b4 D3
        go_wp2_with fail
        refine htn.mono ?_
        rintro e w5 ⟨rfl, b5⟩
        have D5 := hidd (D4.out.trans (b5.mono D4.out.size))
        clear htn b5 D4
        go_wp2
        go_ret
        exact ⟨rfl, D5.out⟩
      · have hpa := HPA.out (by rw [← HLN.out]; omega) w3 HE3.out
        have hli : ¬ (1024 : Int) < (s.size : Int) := by omega
        clear hlong HPA HLN
        go_wp2_with fail
        refine hpa.mono ?_
        rintro e w4 ⟨A4, c4, gs4, rfl, hN4, hG4, b4⟩
        have D4 := hidd (D3.out.trans (b4.mono D3.out.size))
        have HB4 := hidd (HB3.out.trans (b4.mono HB3.out.size))
        have htn := HTR.out A4 c4 gs4 w4 hN4 hG4 (HT3.out.below b4)
        have HN4 := hidd hN4
        have HG4 := hidd hG4
        clear hpa b4 D3 HB3 HTR hN4 hG4
        go_wp2_with fail
        refine htn.mono ?_
        rintro e w5 ⟨rfl, b5⟩
        have D5 := hidd (D4.out.trans (b5.mono D4.out.size))
        have b25 := HB4.out.trans (b5.mono HB4.out.size)
        have hsm := same_gn HRN.out HG4.out A A4 c c4 w5 ((HN.out.below b25).more b25.size) ((HN4.out.below b5).more b5.size)
        clear htn b5 D4 b25 HB4
        go_wp2_with fail
        refine hsm.mono ?_
        rintro e w6 ⟨rfl, b6⟩
        have D6 := hidd (D5.out.trans (b6.mono D5.out.size))
        clear hsm b6 D5
        go_wp2
        go_ret
        exact ⟨rfl, D6.out⟩
  · rw [(HN h).out] at HPX
    have hti : ¬ (300 : Int) < (t.size : Int) := by omega
    have hmi : min (t.size : Int) 300 = (t.size : Int) := by omega
    clear HY HN hxs h
    go_enter Tryz.func4, Tryz.ntmps4
    go_wp2_with fail
    refine (shown5_any w hT).mono ?_
    rintro e w1 ⟨rfl, b1⟩
    have hpc := HPX.out w1 (hE.below b1)
    have HT1 := hidd (hT.below b1)
    have HE1 := hidd (hE.below b1)
    have HB1 := hidd b1
    clear b1 HPX hE hT
    go_wp2_with fail
    refine hpc.mono ?_
    rintro e w2 ⟨hr, b2⟩
    have D2 := hidd (HB1.out.trans (b2.mono HB1.out.size))
    have HE2 := hidd (HE1.out.below b2)
    have HT2 := hidd (HT1.out.below b2)
    clear hpc b2 HB1 HE1 HT1
    unfold ParseR at hr
    cases hp : parse (bs t) with
    | error e1 =>
      obtain ⟨er, p⟩ := e1
      rw [hp] at hr
      obtain ⟨A, c, rfl⟩ := hr
      have hne : ¬ (er : Int) = 0 := by
        rcases parse_bad hp with h | h
        · cases h; decide
        · have := h.2.2.1
          simp only at this
          omega
      clear hp
      go_wp2
      go_ret
      exact ⟨rfl, D2.out⟩
    | ok ns =>
      rw [hp] at hr
      obtain ⟨A, c, gs, rfl, hN, hG⟩ := hr
      have HRN := hidd (rn_parse hp hG)
      have HSH := hidd (Dp.parse_shallow (bs_lt _) hp)
      have htr := tree_rn A c gs ns w2 hN HRN.out HT2.out
      have HN := hidd hN
      have hsz : (txt (treeT ns)).size ≤ 4000000 := by rw [txt_size]; exact HRN.out.size
      have HPA := hidd (fun (hl : (treeT ns).length ≤ 1024) => parse_again2 HRN.out HSH.out hl)
      have HTR := hidd (fun (A' : Option Addr) (c' : Nat) (gs' : List Gd) (w' : World) (hx : Nds w' w'.heap.size A' gs') (hg : GN gs' ns) (hT' : TV w') => tree_rn A' c' gs' ns w' hx ⟨hg, HRN.out.shp, HRN.out.pos, HRN.out.len, HRN.out.tree⟩ hT')
      have HLN : Hid ((txt (treeT ns)).size = (treeT ns).length) := txt_size _
      clear hp hG hN HSH
      generalize txt (treeT ns) = s at *
      go_wp2_with fail
      refine htr.mono ?_
      rintro e w3 ⟨rfl, b3⟩
      have D3 := hidd (D2.out.trans (b3.mono D2.out.size))
      have HE3 := hidd (HE2.out.below b3)
      have HT3 := hidd (HT2.out.below b3)
      have HB3 := hidd b3
      clear htr b3 D2 HE2 HT2
      by_cases hlong : 1024 < s.size
      · have hpf := parse_far s w3 (by omega) hlong
        have hli : (1024 : Int) < (s.size : Int) := by omega
        clear hlong HPA HTR HLN hsz
        go_wp2_with fail
        refine hpf.mono ?_
        rintro e w4 ⟨rfl, b4⟩
        have D4 := hidd (D3.out.trans (b4.mono D3.out.size))
        have htn := tree_none none 0 w4 (HT3.out.below b4)
        clear hpf b4 D3
        go_wp2_with fail
        refine htn.mono ?_
        rintro e w5 ⟨rfl, b5⟩
        have D5 := hidd (D4.out.trans (b5.mono D4.out.size))
        clear htn b5 D4
        go_wp2
        go_ret
        exact ⟨rfl, D5.out⟩
      · have hpa := HPA.out (by rw [← HLN.out]; omega) w3 HE3.out
        have hli : ¬ (1024 : Int) < (s.size : Int) := by omega
        clear hlong HPA HLN
        go_wp2_with fail
        refine hpa.mono ?_
        rintro e w4 ⟨A4, c4, gs4, rfl, hN4, hG4, b4⟩
        have D4 := hidd (D3.out.trans (b4.mono D3.out.size))
        have HB4 := hidd (HB3.out.trans (b4.mono HB3.out.size))
        have htn := HTR.out A4 c4 gs4 w4 hN4 hG4 (HT3.out.below b4)
        have HN4 := hidd hN4
        have HG4 := hidd hG4
        clear hpa b4 D3 HB3 HTR hN4 hG4
        go_wp2_with fail
        refine htn.mono ?_
        rintro e w5 ⟨rfl, b5⟩
        have D5 := hidd (D4.out.trans (b5.mono D4.out.size))
        have b25 := HB4.out.trans (b5.mono HB4.out.size)
        have hsm := same_gn HRN.out HG4.out A A4 c c4 w5 ((HN.out.below b25).more b25.size) ((HN4.out.below b5).more b5.size)
        clear htn b5 D4 b25 HB4
        go_wp2_with fail
        refine hsm.mono ?_
        rintro e w6 ⟨rfl, b6⟩
        have D6 := hidd (D5.out.trans (b6.mono D5.out.size))
        clear hsm b6 D5
        go_wp2
        go_ret
        exact ⟨rfl, D6.out⟩
end Go.Proofs.YtghjkbjpdjlddaaGreatDoor.Sy.Pn

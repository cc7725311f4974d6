/- NormPlain: what Expand tells is plain, and stays. -/
import Derived.Test.YtnajcigfgniflaaAt
namespace Go.Proofs.Ytnajcigfgniflaa.Sy.Ap
open Go.RowKit
set_option maxRecDepth 100000
set_option linter.unusedVariables false

theorem dfs_nil (w : World) (B : Nat) (A : Option Addr) : Dfs w B A [] := fun h => absurd rfl h
theorem dok_nil : DOk [] := ⟨Nat.zero_le _, fun d hd => absurd hd List.not_mem_nil, fun d hd => absurd hd List.not_mem_nil, fun d hd => absurd hd List.not_mem_nil⟩
theorem rds_nil : RightDs [] := ⟨fun d hd => absurd hd List.not_mem_nil, List.Pairwise.nil⟩
/-- What Expand tells of anything. -/
def XpA (w : World) (gs : List Gd) (ds : List DG) (e : Ending) (w' : World) : Prop :=
  Below w.heap.size w w' ∧ ((∃ er : Nat, 1 ≤ er ∧ e = .returned (.tuple #[.slice none 0 0, .int .i64 (er : Int)])) ∨
    ∃ A c go o, e = .returned (.tuple #[.slice A go.length c, .int .i64 0]) ∧ Nds w' w'.heap.size A go ∧ GN go o ∧ go.length ≤ c ∧ TreeN o ∧ PlainN o ∧ RightDs ds ∧ (PlainG gs → GN gs o))
theorem xpand_any (A : Option Addr) (c : Nat) (gs : List Gd) (A2 : Option Addr) (c2 : Nat) (ds : List DG) (w : World) (hN : Nds w w.heap.size A gs) (hl : gs.length ≤ 2000) (hc : gs.length ≤ c) (hsm : Small gs) (hx : Dfs w w.heap.size A2 ds) (hok : DOk ds) :
    Calls Try.prog 10 #[.slice A gs.length c, .slice A2 ds.length c2] w fun e w' => XpA w gs ds e w' := by
  by_cases hr : RightG gs ∧ RightDs ds
  · obtain ⟨ns, hg, ht⟩ := gn_tree hr.1
    obtain ⟨D, hD⟩ := gd_of hr.2
    refine (xpand_ok A c gs ns A2 c2 ds D w hN hc hsm hx hok hg ht hr.2 hD).mono ?_
    rintro e w' ⟨hb, h⟩
    refine ⟨hb, ?_⟩
    cases he : expN ns D with
    | error er =>
      rw [he] at h
      refine .inl ⟨er, ?_, h⟩
      unfold expN at he
      cases h2 : exF (allD D) D ns x0 with
      | error q => rw [h2] at he; cases he; exact exF_err h2
      | ok q => rw [h2] at he; cases he
    | ok o =>
      rw [he] at h
      obtain ⟨A', c', go, h1, h2, h3, h4⟩ := h
      have h5 := expN_tree hD.trs ht he
      refine .inr ⟨A', c', go, o, h1, h2, h3, h4, h5.1, h5.2, hr.2, fun hp => ?_⟩
      have := expN_stays (D := D) ht ((plain_tree hg ht).1 hp)
      rw [he] at this
      cases this
      exact hg
  · refine (xpand_bad A c gs A2 c2 ds w hN hl hsm hx hok hr).mono ?_
    rintro e w' ⟨hb, h⟩
    exact ⟨hb, .inl ⟨1, Nat.le_refl _, h⟩⟩
theorem xpand_stay (A : Option Addr) (c : Nat) (gs : List Gd) (ns : List Nd) (A2 : Option Addr) (c2 : Nat) (ds : List DG) (w : World) (hN : Nds w w.heap.size A gs) (hc : gs.length ≤ c) (hg : GN gs ns) (ht : TreeN ns) (hp : PlainN ns) (hx : Dfs w w.heap.size A2 ds) (hok : DOk ds) (hr : RightDs ds) :
    Calls Try.prog 10 #[.slice A gs.length c, .slice A2 ds.length c2] w fun e w' => Below w.heap.size w w' ∧ ∃ A' c' go, e = .returned (.tuple #[.slice A' go.length c', .int .i64 0]) ∧ Nds w' w'.heap.size A' go ∧ GN go ns := by
  obtain ⟨D, hD⟩ := gd_of hr
  refine (xpand_ok A c gs ns A2 c2 ds D w hN hc (gn_sm hg ht) hx hok hg ht hr hD).mono ?_
  rintro e w' ⟨hb, h⟩
  rw [expN_stays ht hp] at h
  obtain ⟨A', c', go, h1, h2, h3, h4⟩ := h
  exact ⟨hb, A', c', go, h1, h2, h3⟩
theorem same_tree {A A' : Option Addr} {c c' : Nat} {gs gs' : List Gd} {ns : List Nd} {w : World} (hN : Nds w w.heap.size A gs) (hN' : Nds w w.heap.size A' gs') (hg : GN gs ns) (hg' : GN gs' ns) (ht : TreeN ns) :
    Calls Try.prog 15 #[.slice A gs.length c, .slice A' gs'.length c'] w fun e w' => e = .returned (.bool true) ∧ Below w.heap.size w w' :=
  same_any A A' c c' gs gs' w hN hN' (hg.leq hg') (by have := gn_few hg ht; omega) (fun g h => by have := gn_kids hg ht g h; omega)
set_option maxHeartbeats 4000000 in
theorem lawPlain_any (A : Option Addr) (c : Nat) (gs : List Gd) (A2 : Option Addr) (c2 : Nat) (ds : List DG) (w : World) (hN : Nds w w.heap.size A gs) (hc : gs.length ≤ c) (hm : gs.length ≤ maxLen) (hsm : Small gs) (hx : Dfs w w.heap.size A2 ds) (hdm : ds.length ≤ maxLen) (hds : ∀ d ∈ ds, d.1.size ≤ maxLen ∧ d.2.length ≤ maxLen ∧ Small d.2) :
    Calls Try.prog 4 #[.slice A gs.length c, .slice A2 ds.length c2] w fun e w' => e = .returned (.bool true) ∧ Below w.heap.size w w' := by
  have hok : DOk (someL ds) := some_dok (fun d hd => (hds d hd).1) (fun d hd => (hds d hd).2.2)
  have hsh := shown_any w
  have HF : Hid (∀ u, Calls Try.prog 11 #[.slice A gs.length c] u fun e w' => e = .returned (.slice A (gs.take 400).length c) ∧ w' = u) := fun u => few_nds A c gs u hc hm
  have HS : Hid (∀ u, Below w.heap.size w u → Calls Try.prog 12 #[.slice A2 ds.length c2] u fun e w' => Below u.heap.size u w' ∧ ∃ A3 c3, e = .returned (.slice A3 (someL ds).length c3) ∧ Dfs w' w'.heap.size A3 (someL ds)) := fun u hu => some_any A2 c2 ds u ((hx.below hu).more hu.size) hdm (fun d hd => (hds d hd).2.1)
  have hN4 := nds_take hN 400
  have hs4 := small_take hsm 400
  have hc4 : (gs.take 400).length ≤ c := by rw [List.length_take]; omega
  have hl4 : (gs.take 400).length ≤ 2000 := by rw [List.length_take]; omega
  clear hN hc hm hsm hx hdm hds
  generalize gs.length = n at *
  generalize gs.take 400 = g4 at *
  generalize ds.length = m at *
  generalize someL ds = d6 at *
  clear gs ds
  have HN4 := hidd hN4
  have HS4 := hidd hs4
  have HC4 := hidd hc4
  have HL4 := hidd hl4
  have HOK := hidd hok
  clear hN4 hs4 hc4 hl4 hok
  go_enter Try.func4, Try.ntmps4
  go_wp2_with fail
  refine hsh.mono ?_
  rintro e w1 ⟨rfl, b1⟩
  have hf := HF.out w1
  clear hsh
  go_wp2_with fail
  refine hf.mono ?_
  rintro e w2 ⟨rfl, rfl⟩
  have hs := HS.out w2 b1
  clear hf
  go_wp2_with fail
  refine hs.mono ?_
  rintro e w3 ⟨b3, A3, c3, rfl, D3⟩
  have B3 := b1.trans (b3.mono b1.size)
  have hxp := xpand_any A c g4 A3 c3 d6 w3 ((HN4.out.below B3).more B3.size) HL4.out HC4.out HS4.out D3 HOK.out
  have HB3 := hidd B3
  clear hs b1 b3 B3 D3
  go_wp2_with fail
  refine hxp.mono ?_
  rintro e w4 ⟨b4, h4⟩
  have B4 := HB3.out.trans (b4.mono HB3.out.size)
  clear hxp b4 HB3
  rcases h4 with ⟨er, h1, rfl⟩ | ⟨A5, c5, go, o, rfl, N5, G5, k5, T5, P5, R5, Q5⟩
  · have hne : (((er : Nat) : Int) != 0) = true := by simp; omega
    have HB4 := hidd B4
    clear B4 h1
    go_wp2
    go_ret
    exact ⟨rfl, HB4.out⟩
  · have hy := xpand_stay A5 c5 go o none 0 [] w4 N5 k5 G5 T5 P5 (dfs_nil _ _ _) dok_nil rds_nil
    have HB4 := hidd B4
    have HN5 := hidd N5
    have HH : Hid (GN go o ∧ go.length ≤ c5 ∧ TreeN o ∧ PlainN o ∧ RightDs d6 ∧ (PlainG g4 → GN g4 o)) := ⟨G5, k5, T5, P5, R5, Q5⟩
    clear B4 N5 G5 k5 T5 P5 R5 Q5
    go_wp2_with fail
    refine hy.mono ?_
    rintro e w5 ⟨b5, A6, c6, gy, rfl, N6, G6⟩
    have B5 := HB4.out.trans (b5.mono HB4.out.size)
    have hs := HS.out w5 B5
    have HN6 := hidd N6
    have HG6 := hidd G6
    have HB5 := hidd b5
    have HBB5 := hidd B5
    clear hy N6 G6 b5 B5
    go_wp2_with fail
    refine hs.mono ?_
    rintro e w6 ⟨b6, A7, c7, rfl, D7⟩
    have b46 := HB5.out.trans (b6.mono HB5.out.size)
    have hz := xpand_stay A5 c5 go o A7 c7 d6 w6 ((HN5.out.below b46).more b46.size) HH.out.2.1 HH.out.1 HH.out.2.2.1 HH.out.2.2.2.1 D7 HOK.out HH.out.2.2.2.2.1
    have HB6 := hidd b6
    have HB46 := hidd b46
    clear hs D7 b6 b46
    go_wp2_with fail
    refine hz.mono ?_
    rintro e w7 ⟨b7, A8, c8, gz, rfl, N8, G8⟩
    have b47 := HB46.out.trans (b7.mono HB46.out.size)
    have b57 := HB6.out.trans (b7.mono HB6.out.size)
    have N5 := (HN5.out.below b47).more b47.size
    have N6 := (HN6.out.below b57).more b57.size
    have B7 := HBB5.out.trans (b57.mono HBB5.out.size)
    have hp := plain_any A5 c5 go w7 N5 (by have := gn_few HH.out.1 HH.out.2.2.1; omega) (gn_sm HH.out.1 HH.out.2.2.1)
    have HN5 := hidd N5
    have HN6 := hidd N6
    have HN8 := hidd N8
    have HG8 := hidd G8
    have HB7 := hidd B7
    clear hz b47 b57 N5 N6 N8 G8 b7 HB6 HB46 HB5 B7 HBB5
    go_wp2_with fail
    refine hp.mono ?_
    rintro e w8 ⟨z, rfl, hz, b8⟩
    have hzt : z = true := hz.2 ((plain_tree HH.out.1 HH.out.2.2.1).2 HH.out.2.2.2.1)
    subst hzt
    have N5 := (HN5.out.below b8).more b8.size
    have N6 := (HN6.out.below b8).more b8.size
    have hsa := same_tree (c := c5) (c' := c6) N5 N6 HH.out.1 HG6.out HH.out.2.2.1
    have HB8 := hidd b8
    clear hp hz N5 N6 b8
    go_wp2_with fail
    refine hsa.mono ?_
    rintro e w9 ⟨rfl, b9⟩
    have b79 := HB8.out.trans (b9.mono HB8.out.size)
    have N5 := (HN5.out.below b79).more b79.size
    have N8 := (HN8.out.below b79).more b79.size
    have hsb := same_tree (c := c5) (c' := c8) N5 N8 HH.out.1 HG8.out HH.out.2.2.1
    have HB9 := hidd b79
    clear hsa N5 N8 b9 b79 HB8
    go_wp2_with fail
    refine hsb.mono ?_
    rintro e w10 ⟨rfl, b10⟩
    have b710 := HB9.out.trans (b10.mono HB9.out.size)
    have hf := HF.out w10
    have HB10 := hidd b710
    clear hsb b10 b710 HB9
    go_wp2_with fail
    refine hf.mono ?_
    rintro e w11 ⟨rfl, rfl⟩
    have B11 := HB7.out.trans (HB10.out.mono HB7.out.size)
    have hp := plain_any A c g4 w11 ((HN4.out.below B11).more B11.size) HL4.out HS4.out
    have HB11 := hidd B11
    clear hf B11
    go_wp2_with fail
    refine hp.mono ?_
    rintro e w12 ⟨z, rfl, hz, b12⟩
    have B12 := HB11.out.trans (b12.mono HB11.out.size)
    cases z with
    | false =>
      have HBE := hidd B12
      clear hp hz b12 B12
      go_wp2
      go_ret
      exact ⟨rfl, HBE.out⟩
    | true =>
      have b712 := HB10.out.trans (b12.mono HB10.out.size)
      have hf := HF.out w12
      have HB12 := hidd B12
      have HB712 := hidd b712
      have HGP := hidd (HH.out.2.2.2.2.2 (hz.1 rfl))
      clear hp hz b12 b712 B12
      go_wp2_with fail
      refine hf.mono ?_
      rintro e w13 ⟨rfl, rfl⟩
      have hsc := same_tree (c := c5) (c' := c) ((HN5.out.below HB712.out).more HB712.out.size) ((HN4.out.below HB12.out).more HB12.out.size) HH.out.1 HGP.out HH.out.2.2.1
      clear hf
      go_wp2_with fail
      refine hsc.mono ?_
      rintro e w14 ⟨rfl, b14⟩
      have HBE := hidd (HB12.out.trans (b14.mono HB12.out.size))
      clear hsc b14
      go_wp2
      go_ret
      exact ⟨rfl, HBE.out⟩
end Go.Proofs.Ytnajcigfgniflaa.Sy.Ap

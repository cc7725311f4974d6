/- The reference's Expand. -/
import Derived.Test.YtgppanbikfobbaaBi
namespace Go.Proofs.Ytgppanbikfobbaa.Sy.Ap.Wk
open Go.RowKit
set_option maxRecDepth 100000
set_option linter.unusedVariables false

set_option maxHeartbeats 1000000 in
theorem rxpand_bad (A : Option Addr) (c : Nat) (gs : List Gd) (A2 : Option Addr) (c2 : Nat) (ds : List DG) (w : World) (hN : Nds w w.heap.size A gs) (hl : gs.length ≤ 2000) (hsm : Small gs) (hx : Dfs w w.heap.size A2 ds) (hok : DOk ds) (hno : ¬ (RightG gs ∧ RightDs ds)) :
    Calls Try.prog 9 #[.slice A gs.length c, .slice A2 ds.length c2] w fun e w' => XpR w (.error 1) e w' := by
  have hR := refRight_any A c gs w hN hl hsm
  have HDR : Hid (∀ u, Below w.heap.size w u → Calls Try.prog 17 #[.slice A2 ds.length c2] u fun e w' => DRgt ds u e w') := fun u hu => refDRight_any A2 c2 ds u ((hx.below hu).more hu.size) hok
  have HNO := hidd hno
  clear hN hl hsm hx hok hno
  generalize gs.length = n at *
  generalize ds.length = m at *
  go_enter Try.func9, Try.ntmps9
  go_wp2_with fail
  refine hR.mono ?_
  rintro e w1 ⟨z, rfl, hz, b1⟩
  clear hR
  cases z with
  | false =>
    have HB := hidd b1
    clear hz b1
    go_wp2
    go_ret2
    exact ⟨HB.out, rfl⟩
  | true =>
    have hd := HDR.out w1 b1
    have HZ := hidd (hz.1 rfl)
    have HB := hidd b1
    clear hz b1
    go_wp2_with fail
    refine hd.mono ?_
    rintro e w2 ⟨y, rfl, hy, b2⟩
    have hy2 : y = false := by
      cases y with
      | false => rfl
      | true => exact absurd ⟨HZ.out, hy.1 rfl⟩ HNO.out
    subst hy2
    have HB2 := hidd (HB.out.trans (b2.mono HB.out.size))
    clear hy b2 hd
    go_wp2
    go_ret2
    exact ⟨HB2.out, rfl⟩
theorem fn_false (n : Nat) : fnC n (fun _ => Value.bool false) = ((List.replicate n false).map Value.bool).toArray := by
  unfold fnC
  congr 1
  apply List.ext_getElem?
  intro i
  rw [List.getElem?_map, List.getElem?_map, List.getElem?_replicate]
  rcases Nat.lt_or_ge i n with q | q
  · rw [List.getElem?_range q, if_pos q]
    rfl
  · rw [List.getElem?_eq_none (by simp; exact q), if_neg (by omega)]
    rfl
set_option maxHeartbeats 4000000 in
theorem rxpand_ok (A : Option Addr) (c : Nat) (gs : List Gd) (ns : List Nd) (A2 : Option Addr) (c2 : Nat) (ds : List DG) (D : List Df) (w : World) (hN : Nds w w.heap.size A gs) (hsm : Small gs) (hx : Dfs w w.heap.size A2 ds) (hok : DOk ds) (hg : GN gs ns) (ht : TreeN ns) (hr : RightDs ds) (hG : GD ds D) :
    Calls Try.prog 9 #[.slice A gs.length c, .slice A2 ds.length c2] w fun e w' => XpR w (expN ns D) e w' := by
  have hgl2 : gs.length ≤ 2000 := by have := hg.1; have := ht.few; omega
  have hR := refRight_any A c gs w hN hgl2 hsm
  have HDR : Hid (∀ u, Below w.heap.size w u → Calls Try.prog 17 #[.slice A2 ds.length c2] u fun e w' => DRgt ds u e w') := fun u hu => refDRight_any A2 c2 ds u ((hx.below hu).more hu.size) hok
  have HRG := hidd (tree_rg hg ht)
  have HRD := hidd hr
  have hdl := hok.len
  have hmk := make_bools6 ds.length (by omega)
  have hpos := ht.pos
  have hln := hg.1
  have HC : Hid (∀ (u : World) (b ob : Nat), Below w.heap.size w u → WK w.heap.size u b ob ds.length A2 c2 (.slice none 0 0) [] (List.replicate ds.length false) 0 →
      Calls Try.prog 22 #[.pointer (some ⟨b, 0, none⟩), .slice A gs.length c, .int .i64 ((gs.length : Int) - 1)] u fun e u' => WkQ w.heap.size u b ob ds.length A2 c2 (.slice none 0 0) [] (List.replicate ds.length false) (exF (allD D) D ns x0) e u') := fun u b ob hu hW => by
    have h := Rw.walk_any ds D hG (hG.apart hr) rfl hdl (shut (List.replicate ds.length false) + 1) (List.replicate ds.length false) (Nat.lt_succ_self _) gs ns A c hg ht (ns.length - 1) 0 (by rw [show ns.length - 1 + 1 = ns.length from by omega]; exact ht.frs) u (.slice none 0 0) [] [] (hN.below hu) (hx.below hu) hW ⟨rfl, fun i hi => absurd hi (Nat.not_lt_zero _)⟩ (Nat.zero_le _)
    rw [show ns.length - 1 + 1 = ns.length from by omega, seg_all, hG.len, opD_all, ← hG.len, show ((ns.length - 1 : Nat) : Int) = (gs.length : Int) - 1 from by omega] at h
    exact h
  clear hN hsm hx hok hg ht hr hG
  have hn1 : 1 ≤ gs.length := by omega
  clear hpos hln
  generalize gs.length = n at *
  generalize ds.length = m at *
  go_enter Try.func9, Try.ntmps9
  go_wp2_with fail
  refine hR.mono ?_
  rintro e w1 ⟨z, rfl, hz, b1⟩
  have hz2 : z = true := hz.2 HRG.out
  subst hz2
  have hd := HDR.out w1 b1
  have HB := hidd b1
  clear hz b1 hR
  go_wp2_with fail
  refine hd.mono ?_
  rintro e w2 ⟨y, rfl, hy, b2⟩
  have hy2 : y = true := hy.2 HRD.out
  subst hy2
  have B2 := HB.out.trans (b2.mono HB.out.size)
  clear hy b2 hd HB
  have b3 : Below w.heap.size w ((w2.alloc (.cells (fnC m (fun _ => .bool false)) 4)).alloc (.cells #[.slice A2 m c2, .slice (some ⟨w2.heap.size, 0, none⟩) m m, .slice none 0 0, .int .i64 0] 53)) := (B2.alloc B2.size _).alloc (by have := B2.size; simp; omega) _
  have hs : (w2.alloc (.cells (fnC m (fun _ => .bool false)) 4)).heap.size = w2.heap.size + 1 := World.size_alloc ..
  have W3 : WK w.heap.size ((w2.alloc (.cells (fnC m (fun _ => .bool false)) 4)).alloc (.cells #[.slice A2 m c2, .slice (some ⟨w2.heap.size, 0, none⟩) m m, .slice none 0 0, .int .i64 0] 53)) (w2.heap.size + 1) w2.heap.size m A2 c2 (.slice none 0 0) [] (List.replicate m false) 0 := by
    have R := RowA.new (w2.alloc (.cells (fnC m (fun _ => .bool false)) 4)) 53 #[.slice A2 m c2, .slice (some ⟨w2.heap.size, 0, none⟩) m m, .slice none 0 0, .int .i64 0]
    rw [hs] at R
    have O := (RowA.new w2 4 (fnC m (fun _ => .bool false))).alloc (.cells #[.slice A2 m c2, .slice (some ⟨w2.heap.size, 0, none⟩) m m, .slice none 0 0, .int .i64 0] 53)
    have O2 : RowA ((w2.alloc (.cells (fnC m (fun _ => .bool false)) 4)).alloc (.cells #[.slice A2 m c2, .slice (some ⟨w2.heap.size, 0, none⟩) m m, .slice none 0 0, .int .i64 0] 53)) w2.heap.size 4 ((List.replicate m false).map Value.bool).toArray := by rw [← fn_false]; exact O
    have := B2.size
    exact ⟨R, O2, List.length_replicate, World.ownsRow_nil _ _ _ _, fun x hx => absurd hx List.not_mem_nil, by omega, this⟩
  have hcall := HC.out _ _ _ b3 W3
  have HB3 := hidd b3
  have HW3 := hidd W3
  clear b3 W3 HC HDR hs
  go_wp2_with fail
  refine hcall.mono ?_
  rintro e w4 ⟨nv', new, er, r, rfl, W4, L4, F4, K4, hres⟩
  rw [List.nil_append] at W4 hres
  have hb4 := K4.below HW3.out.size HW3.out.wr
  have HB4 := hidd (HB3.out.trans hb4)
  have d3 : w4.cell? ⟨w2.heap.size + 1, 3, none⟩ = some (.int .i64 er) := W4.row.at_ rfl
  cases hr : exF (allD D) D ns x0 with
  | error q =>
    rw [hr] at hres
    obtain ⟨he, hq⟩ := hres
    subst he
    have hne : (((q : Nat) : Int) != 0) = true := by simp; omega
    have HXP : Hid (expN ns D = .error q) := by show _ = _; unfold expN; rw [hr]
    clear hr hq hb4 hcall HB3 HW3 L4 F4 K4 W4
    go_wp2
    go_quiet (fail)
    go_wp2
    go_ret2
    unfold XpR
    rw [HXP.out]
    exact ⟨bel_drewN HB4.out _, rfl⟩
  | ok x =>
    rw [hr] at hres
    obtain ⟨he, hgn, hfw, jj, hr1, hrt⟩ := hres
    subst he
    have HXP : Hid (expN ns D = .ok x.out) := by show _ = _; unfold expN; rw [hr]
    obtain ⟨A5, c5, rfl, N5, hc5⟩ := own_nds W4.nodes (fun y hy => its_own (W4.kids y hy) rfl)
    have d2 : w4.cell? ⟨w2.heap.size + 1, 2, none⟩ = some (.slice A5 new.length c5) := W4.row.at_ rfl
    have HN5 := hidd N5
    have HG4 := hidd hgn
    have HC5 := hidd hc5
    have HLM : Hid ((new.map (·.1)).length = new.length) := List.length_map ..
    clear hr hgn hfw hr1 hrt hb4 hcall HB3 HW3 L4 F4 K4 W4 N5 hc5
    go_wp2
    go_ret2
    unfold XpR
    rw [HXP.out]
    exact ⟨HB4.out, A5, c5, new.map (·.1), by rw [HLM.out]; rfl, HN5.out, HG4.out, by rw [HLM.out]; exact HC5.out⟩
end Go.Proofs.Ytgppanbikfobbaa.Sy.Ap.Wk

/- The landed expander: expand's loop. -/
import Derived.Test.YtgppanbikfobbaaAl
namespace Go.Proofs.Ytgppanbikfobbaa.Sy.Ap
open Go.RowKit
set_option maxRecDepth 100000
set_option linter.unusedVariables false

set_option maxHeartbeats 2000000 in
theorem expand_any {B : Nat} {w : World} {b bt bo nt : Nat} {f : ByteArray → Option Value} {D0 : List Df} (h : ES B w b bt bo nt 0 f (fun _ => none) (.slice none 0 0) (.slice none 0 0) (.slice none 0 0) [] [] []) (A : Option Addr) (c : Nat) (gs : List Gd) (ns : List Nd) (hN : Nds w B A gs) (hg : GN gs ns) (hc : gs.length ≤ c) (ht : TreeN ns) (hsm : Small gs) (hT : TrM w B D0 f) (hD : D0.length ≤ 1000) :
    Calls Try.prog 21 #[.pointer (some ⟨b, 0, none⟩), .slice A gs.length c] w fun e w' => ExpR B w b bt bo nt f (exF (allD D0) D0 ns x0) e w' := by
  rw [← res_one]
  obtain ⟨i0, hi0, hz0, hz1, hz2⟩ := info_parts walk_info
  obtain ⟨d0, d1, d2, d3, d4⟩ := h.cells
  have hbl := h.row.lt
  have h3 := h.below ((Below.refl _ _).alloc (Nat.le_refl _) (.cells #[.string { data := #[] }, .slice A gs.length c] 69))
  have b3 : Below B w (w.alloc (.cells #[.string { data := #[] }, .slice A gs.length c] 69)) := ((Below.refl _ _).alloc (Nat.le_refl _) _ : Below w.heap.size w _).mono h.size
  have hown := h3.walks
  have hnews : ∀ j u, ([.string { data := #[] }, .slice A gs.length c] : List Value)[j]? = some u → (w.alloc (.cells #[.string { data := #[] }, .slice A gs.length c] 69)).cell? ((⟨w.heap.size, 0, none⟩ : Addr).add j) = some u := World.news_of_block (RowA.new w 69 #[.string { data := #[] }, .slice A gs.length c])
  have hH : (w.alloc (.cells #[.string { data := #[] }, .slice A gs.length c] 69)).heap.size = w.heap.size + 1 := World.size_alloc ..
  have HH3 := hidd h3
  have HB3 := hidd b3
  have hsz := h3.size
  have HT := hidd hT
  have HF : Hid (∀ u, Below B w u → Frm u B ⟨{ data := #[] }, A, c, gs⟩ ns) := fun u hu => ⟨hN.below hu, hg, hc, ht.shp, hsm⟩
  have HHT := hidd ht.hts
  clear h h3 b3 hT hN hg hc hsm
  generalize hRES : res (allD D0) [(ns, D0)] x0 = RES
  have HRES := hidd hRES
  clear hRES
  go_enter Try.func21, Try.ntmps21
  go_wp2_with (at_builtin; refine wpList_append_lies _ rfl _ _ _ rfl B 69 i0 (.agg #[.string { data := #[] }, .slice none 0 0]) 2 40 Try.underlying46 hi0 hz0 hz1 hz2 rfl (by omega) _ 0 [] rfl hown ⟨w.heap.size, 0, none⟩ 1 1 [.string { data := #[] }, .slice A gs.length c] rfl rfl hnews (by simp [Value.oneCell']) (by omega) (by simp [maxLen]) (by omega) hsz (w.heap.size + 1) hH ?_; intro gg cap w6 hown6 hgrow hat hlt6; refine Hid.out ?_)
  have hown7 : w6.ownsRow B 69 2 (.slice (some ⟨gg, 0, none⟩) 1 cap) [WkE.mk { data := #[] } A c gs].length (wksC [WkE.mk { data := #[] } A c gs]) := hown6
  have hE7 := HH3.out.setWalks hgrow hown7
  have hB7 : Below B w (w6.setCell ⟨b, 2, none⟩ (.slice (some ⟨gg, 0, none⟩) 1 cap)) := bel_set (bel_row HB3.out HH3.out.size hgrow (fun k hk => (HH3.out.walks.lt k hk).1)) ⟨b, 2, none⟩ (.slice (some ⟨gg, 0, none⟩) 1 cap) HH3.out.hb
  have hbw : (Value.slice none 0 0).ownBlock ≠ some b := own_neR HH3.out.walks HH3.out.row (by decide)
  have R6 : RowA w6 b 48 (exC bt bo (.slice none 0 0) (.slice none 0 0) (.slice none 0 0)) := (hgrow.block b HH3.out.row.lt (fun q => hbw q.symm)).trans HH3.out.row
  have HS : Hid (ExL B w b bt bo nt f D0 RES (costs [(ns, D0)]) (w6.setCell ⟨b, 2, none⟩ (.slice (some ⟨gg, 0, none⟩) 1 cap))) :=
    ⟨[(⟨{ data := #[] }, A, c, gs⟩, ns, D0)], x0, _, _, _, _, _, _, _, hE7, rfl, ⟨rfl, fun i hi => absurd hi (Nat.not_lt_zero _)⟩, .base rfl (HF.out _ hB7), HRES.out, rfl, ⟨1, by rw [flat_cons]; show hts 0 (ns ++ []) = _; rw [List.append_nil]; exact HHT.out⟩, fun _ => Nat.le_refl _, hB7, Nat.zero_le _, Nat.le_refl _⟩
  have ht6 := R6.thawed
  have c2 := R6.at_ (k := 2) rfl
  clear hown6 hown7 hgrow hat hlt6 hown hnews hH hsz d0 d1 d2 d3 d4 HH3 HB3 R6 hbw hE7 hB7
  refine Lib.hid ?_
  go_wp2
  go_loopg [5] (costs [(ns, D0)]) (fun k _ wr => ExL B w b bt bo nt f D0 RES k wr)
  case atStart => exact HS.out
  case round =>
    clear HS c2 ht6 HF HHT HRES ht
    obtain ⟨fs, x, no, g, wv, nv, rv, wl, l, I⟩ := hrel
    obtain ⟨A9, c9, rfl⟩ := own_form I.es.walks
    cases fs with
    | nil =>
      have hwl : wl = [] := I.wls
      subst hwl
      obtain ⟨d0, d1, d2, d3, d4⟩ := I.es.cells
      have HR : Hid (RES = .ok x) := I.run.symm
      have HI := hidd I
      clear I
      go_wp2
      go_ret
      unfold ExpR
      rw [HR.out]
      exact ⟨HI.out.bel, rfl, _, _, _, _, _, _, _, HI.out.es, HI.out.gn⟩
    | cons fr r =>
      obtain ⟨e, ns1, D⟩ := fr
      have hwl : wl = (r.map (·.1)).reverse ++ [e] := by rw [I.wls]; simp
      subst hwl
      obtain ⟨k, hk⟩ : ∃ k, (r.map (·.1)).reverse.length = k := ⟨_, rfl⟩
      have hlen : ((r.map (·.1)).reverse ++ [e]).length = k + 1 := by rw [List.length_append, hk]; rfl
      have HK := hidd hk
      have I0 := I
      rw [hlen] at I
      have hw0 := I.es.walks
      rw [hlen] at hw0
      obtain ⟨gw, cw, hv9, hgB, hgl⟩ := own_pos hw0 (by omega)
      cases hv9
      obtain ⟨d0, d1, d2, d3, d4⟩ := I.es.cells
      obtain ⟨c0, c1⟩ := last_cells HK.out I.es.walks
      have hcap := own_cap hw0
      have hstl := I.stk.len'
      have hkr : k ≤ 100000 := by
        rw [List.length_cons] at hstl
        rw [List.length_reverse, List.length_map] at hk
        omega
      have hki : (k : Int) < (k : Int) + 1 := by omega
      have e1 : ((k + 1 : Nat) : Int) - 1 = (k : Int) := by omega
      have hpos : (0 : Int) < ((k + 1 : Nat) : Int) := by omega
      have HI := hidd I
      have hbl2 := I.es.row.lt
      obtain ⟨hFt, hnms⟩ := I.stk.top
      clear hk hlen hw0 I I0 hstl
      have HFT := hidd hFt
      cases hrest : e.rest with
      | nil =>
        rw [hrest] at c1
        have hns : ns1 = [] := by
          have := hFt.gn.1
          rw [hrest] at this
          exact List.eq_nil_of_length_eq_zero this.symm
        subst hns
        clear hFt
        go_wp2
        go_quiet (fail)
        go_wp2_with fail
        refine (Lv.leave_any (HI.out.es.drewN nq) hnms (by rw [HK.out]; exact hkr)).mono ?_
        rintro en w2 ⟨rfl, hb2, wv2, hE2⟩
        have hb3 : Below B wr w2 := (bel_drewN (Below.refl B wr) nq).trans hb2
        obtain ⟨i1, i2⟩ := HI.out.leave hb3 hE2 rfl
        have HI1 := hidd i1
        have HI2 := hidd i2
        clear i1 i2 hE2 hb2 hb3 c0 c1 d0 d1 d2 d3 d4
        go_wp2
        go_roundg (costs (r.map (·.2)))
        case measure => exact HI2.out
        case rel => exact ⟨_, _, _, _, _, _, _, _, _, HI1.out⟩
      | cons gx rest =>
        rw [hrest] at c1
        have hFt2 := hFt
        obtain ⟨n, ns', hns, hgx, hgn⟩ := gn_cons (by have := hFt.gn; rw [hrest] at this; exact this)
        subst hns
        have HGX := hidd hgx
        have HGN := hidd hgn
        have HSHP : Hid (Shp ns') := fun y hy => hFt.shp y (List.mem_cons_of_mem _ hy)
        have HSML : Hid (Small rest) := fun y hy => hFt.sml y (by rw [hrest]; exact List.mem_cons_of_mem _ hy)
        have HCAP : Hid (rest.length + 1 ≤ e.c) := by have := hFt.cap; rw [hrest] at this; exact this
        have hsx := (hFt.sml gx (by rw [hrest]; simp)).1
        have hnd := hFt.nds
        rw [hrest] at hnd
        obtain ⟨b1, o1, hA, hb1, hat⟩ := hnd (by simp)
        have hNT := nds_tail (by rw [hA] at hnd; exact hnd)
        obtain ⟨A3, c3, -, r1⟩ := hat 0 (by simp)
        have r1' : wr.rangeAt b1 o1 (gdL gx A3 c3) := by have := r1; rw [Nat.zero_mul, Nat.add_zero] at this; exact this
        have HNT := hidd hNT
        rw [hA] at c1
        have hcc : (0 : Int) < ((rest.length + 1 : Nat) : Int) := by omega
        have hcz : (((rest.length + 1 : Nat) : Int) == 0) = false := beq_eq_false_iff_ne.2 (by omega)
        rw [List.length_cons] at c1
        have HA := hidd hA
        have HREST := hidd hrest
        clear hFt hFt2 hgx hgn hnd hat r1 hNT hrest hA HFT
        go_wp2
        go_quiet (fail)
        go_upto_region 6 with fail
        have r2 : (wr.drewN nq).rangeAt b1 o1 (gdL gx A3 c3) := r1'
        have HE0 := hidd (HI.out.es.drewN nq)
        have HB0 : Hid (Below B wr (wr.drewN nq)) := bel_drewN (Below.refl B wr) nq
        generalize wr.drewN nq = w0 at *
        clear c0 c1 d0 d1 d2 d3 d4 r1'
        obtain ⟨d0, d1, d2, d3, d4⟩ := HE0.out.cells
        obtain ⟨c0, c1⟩ := last_cells HK.out HE0.out.walks
        have HC : Hid (∀ u : World, Below w0.heap.size w0 u → u.cell? ⟨gw, k * 2 + 1, none⟩ = some (.slice (some ⟨b1, o1, none⟩) (rest.length + 1) e.c) ∧ ∀ o, u.frozen? ⟨gw, o, none⟩ = false) := fun u hu => by
          have E := HE0.out.below hu
          have hc9 := (last_cells HK.out E.walks).2
          obtain ⟨cur, hcur⟩ := own_blk E.walks (k := gw) rfl
          refine ⟨?_, fun o => RowA.thawed (t := 69) (cs := cur) hcur o⟩
          rw [hc9, HA.out, HREST.out]
          rfl
        have Z1 := RowA.new w0 41 zeroC
        have hW1 : Below w0.heap.size w0 ((w0.alloc (.cells zeroC 41)).setRow w0.heap.size (gdL gx A3 c3).toArray) := bel_setRow ((Below.refl _ _).alloc (Nat.le_refl _) _) _ _ (Nat.le_refl _)
        have R1 := Z1.row (gdL gx A3 c3).toArray
        rw [HA.out, HREST.out, List.length_cons] at c1
        go_upto_region 7 with (first
          | refine wpList_load_mid rfl 41 (.tmp 48) rfl b1 o1 rfl (gdL gx A3 c3) _ r2 Try.underlying41 rfl (gdL_info gx A3 c3) ?_
          | refine wpList_store_row rfl 41 (.tmp 6) (.tmp 49) rfl w0.heap.size (gdL gx A3 c3).toArray rfl rfl 41 zeroC Z1 (gdL_infoA gx A3 c3) rfl (gdL_one gx A3 c3) ?_)
        have HE1 := hidd (HE0.out.below hW1)
        have HB1 := hidd (HB0.out.trans (hW1.mono HE0.out.size))
        obtain ⟨c1', ht1⟩ := HC.out _ hW1
        have HNT1 := hidd (HNT.out.below HB1.out)
        have hgq : gw < w0.heap.size := (HE0.out.walks.lt gw rfl).2
        change RowA ((w0.alloc (.cells zeroC 41)).setRow w0.heap.size (gdL gx A3 c3).toArray) _ _ _ at R1
        generalize (w0.alloc (.cells zeroC 41)).setRow w0.heap.size (gdL gx A3 c3).toArray = w1 at *
        generalize w0.heap.size = qb at *
        clear c0 c1 d0 d1 d2 d3 d4 Z1 hW1 HE0 HB0 HC r2
        have hri : (1 : Int) ≤ ((rest.length + 1 : Nat) : Int) := by omega
        by_cases hc1 : e.c = 1
        · have hr0 : rest = [] := by have := HCAP.out; exact List.eq_nil_of_length_eq_zero (by omega)
          -- the node's box in w1 (block q); the rest is written behind
          generalize hE2 : WkE.mk e.nm (some ⟨b1, o1, none⟩) 0 rest = e2
          have hn2 : e2.nm = e.nm := by rw [← hE2]
          have hr2 : e2.rest = rest := by rw [← hE2]
          obtain ⟨hE3, hB3⟩ := HE1.out.setRest (e2 := e2) HK.out hn2
          have hF2 : Frm w1 B e2 ns' := by
            rw [← hE2]
            exact ⟨(fun hne => absurd hr0 hne), HGN.out, by show rest.length ≤ 0; have := HCAP.out; omega, HSHP.out, HSML.out⟩
          have hb3 := HB1.out.trans hB3
          have hcall := take_any (A := A3) (c := c3) HI.out HT.out hD hb3 hn2 (hF2.below hB3) HGX.out hsx hE3
          have hval : Value.slice e2.A e2.rest.length e2.c = .slice (some ⟨b1, o1, none⟩) rest.length (0) := by rw [← hE2]
          rw [hval] at hcall hE3 hB3 hb3
          clear hE2 hn2 hr2 hF2
          clear hval
          have HE3 := hidd hE3
          have R3 := R1.far (a := ⟨gw, k * 2 + 1, none⟩) (fun q => by have q2 : qb = gw := q; omega) (.slice (some ⟨b1, o1, none⟩) rest.length (0))
          clear hE3 hB3 hb3 hr0
          unfold gdL at hcall
          go_upto_region 8 with fail
          generalize w1.setCell ⟨gw, k * 2 + 1, none⟩ (.slice (some ⟨b1, o1, none⟩) rest.length (0)) = w3 at *
          obtain ⟨f0, f1, f2, f3, f4, f5, f6, f7, f8⟩ := node_cells R3
          clear c1' ht1 R1
          have HCALL := hidd hcall
          clear hcall
          go_wp2_with fail
          refine HCALL.out.mono ?_
          rintro en w4 (⟨rfl, k', hk', hL⟩ | ⟨er, rfl, hR, hB⟩)
          · have HL := hidd hL
            have HKK := hidd hk'
            clear hL hk' f0 f1 f2 f3 f4 f5 f6 f7 f8 R3
            go_wp2
            go_roundg k'
            case measure => exact HKK.out
            case rel => exact HL.out
          · have HR := hidd hR
            have HB := hidd hB
            have her : (((er + 1 : Nat) : Int) != 0) = true := by simp; omega
            clear hR hB f0 f1 f2 f3 f4 f5 f6 f7 f8 R3
            generalize hER : ((er + 1 : Nat) : Int) = er1 at *
            have HER := hidd hER
            clear hER
            go_wp2
            go_ret
            unfold ExpR
            rw [HR.out]
            refine ⟨HB.out, ?_⟩
            show Ending.returned _ = .returned (.int .i64 ((er + 1 : Nat) : Int))
            rw [HER.out]
            rfl
        · have hr0 : True := trivial
          -- the node's box in w1 (block q); the rest is written behind
          generalize hE2 : WkE.mk e.nm (some ⟨b1, o1 + 9, none⟩) (e.c - 1) rest = e2
          have hn2 : e2.nm = e.nm := by rw [← hE2]
          have hr2 : e2.rest = rest := by rw [← hE2]
          obtain ⟨hE3, hB3⟩ := HE1.out.setRest (e2 := e2) HK.out hn2
          have hF2 : Frm w1 B e2 ns' := by
            rw [← hE2]
            exact ⟨HNT1.out, HGN.out, by show rest.length ≤ (e.c - 1); have := HCAP.out; omega, HSHP.out, HSML.out⟩
          have hb3 := HB1.out.trans hB3
          have hcall := take_any (A := A3) (c := c3) HI.out HT.out hD hb3 hn2 (hF2.below hB3) HGX.out hsx hE3
          have hval : Value.slice e2.A e2.rest.length e2.c = .slice (some ⟨b1, o1 + 9, none⟩) rest.length ((e.c - 1)) := by rw [← hE2]
          rw [hval] at hcall hE3 hB3 hb3
          clear hE2 hn2 hr2 hF2
          clear hval
          have HE3 := hidd hE3
          have R3 := R1.far (a := ⟨gw, k * 2 + 1, none⟩) (fun q => by have q2 : qb = gw := q; omega) (.slice (some ⟨b1, o1 + 9, none⟩) rest.length ((e.c - 1)))
          clear hE3 hB3 hb3 hr0
          unfold gdL at hcall
          go_upto_region 8 with fail
          generalize w1.setCell ⟨gw, k * 2 + 1, none⟩ (.slice (some ⟨b1, o1 + 9, none⟩) rest.length ((e.c - 1))) = w3 at *
          obtain ⟨f0, f1, f2, f3, f4, f5, f6, f7, f8⟩ := node_cells R3
          clear c1' ht1 R1
          have HCALL := hidd hcall
          clear hcall
          go_wp2_with fail
          refine HCALL.out.mono ?_
          rintro en w4 (⟨rfl, k', hk', hL⟩ | ⟨er, rfl, hR, hB⟩)
          · have HL := hidd hL
            have HKK := hidd hk'
            clear hL hk' f0 f1 f2 f3 f4 f5 f6 f7 f8 R3
            go_wp2
            go_roundg k'
            case measure => exact HKK.out
            case rel => exact HL.out
          · have HR := hidd hR
            have HB := hidd hB
            have her : (((er + 1 : Nat) : Int) != 0) = true := by simp; omega
            clear hR hB f0 f1 f2 f3 f4 f5 f6 f7 f8 R3
            generalize hER : ((er + 1 : Nat) : Int) = er1 at *
            have HER := hidd hER
            clear hER
            go_wp2
            go_ret
            unfold ExpR
            rw [HR.out]
            refine ⟨HB.out, ?_⟩
            show Ending.returned _ = .returned (.int .i64 ((er + 1 : Nat) : Int))
            rw [HER.out]
            rfl
end Go.Proofs.Ytgppanbikfobbaa.Sy.Ap

/- The landed builder: whether a node may be nothing. -/
import Derived.Test.YtahhiajliomcfaaPG9
namespace Go.Proofs.Ytahhiajliomcfaa.Sy.Gl
open Go.RowKit Go.Proofs.Ytahhiajliomcfaa.Sy.Ap Go.Proofs.Ytahhiajliomcfaa.Sy.Ap.Wk Go.Proofs.Ytahhiajliomcfaa.Sy.Lg Go.Proofs.Ytahhiajliomcfaa.Sy.Pl
set_option maxRecDepth 100000
set_option linter.unusedVariables false

abbrev lvL (zs : List Bool) : List NR := zs.map fun z => (leafG z, (none : Option Addr), 0)
theorem lvL_snoc (zs : List Bool) (z : Bool) : nodesC (lvL zs) ++ gdL (leafG z) none 0 = nodesC (lvL (zs ++ [z])) := by
  unfold lvL
  rw [List.map_append]
  exact nodesC_snoc _ (leafG z, none, 0)
theorem i64s_snoc' (l : List Nat) (k : Nat) : i64s l ++ [.int .i64 (k : Int)] = i64s (l ++ [k]) := by unfold i64s; rw [List.map_append]; rfl
abbrev zsOf (ks : List Tv) : List Bool := ks.map fun x => x.1.nul
theorem zs_take {ks : List Tv} {j : Nat} (h : j < ks.length) : zsOf (ks.take (j + 1)) = zsOf (ks.take j) ++ [ks[j].1.nul] := by
  unfold zsOf
  rw [List.take_succ_eq_append_getElem h, List.map_append]
  rfl
abbrev ndX (g : Gd) (A : Option Addr) (n c : Nat) : Array Value := #[.int .u8 g.op, .int .u64 (W g.s 0), .int .u64 (W g.s 1), .int .u64 (W g.s 2), .int .u64 (W g.s 3), .slice A n c, .int .i64 g.lo, .int .i64 g.hi, .string g.nm]
/-- The nodes that are asked. -/
theorem mbn_nodes {g : Gd} {nd : Nd} (hg : GN1 g nd) (zs : List Bool) : GN ((lvL zs).map (·.1) ++ [withG g ((List.range zs.length).map fun k : Nat => (k : Int))]) (zs.map leafN ++ [withL nd (List.range zs.length)]) := by
  refine gn_snoc ?_ ⟨hg.op, hg.s, rfl, hg.lo, hg.hi, hg.nm⟩
  refine ⟨by simp [lvL], fun i hi => ?_⟩
  have hi2 : i < zs.length := by simpa [lvL] using hi
  have e1 : ((lvL zs).map (·.1)).getD i gd0 = leafG zs[i] := by simp [lvL, List.getD_eq_getElem?_getD, hi2]
  have e2 : (zs.map leafN).getD i nd0 = leafN zs[i] := by simp [List.getD_eq_getElem?_getD, hi2]
  rw [e1, e2]
  exact leaf_gn _
theorem mbn_tree {nd : Nd} (zs : List Bool) (hn : zs.length < 1024) (hsh : shapeB nd = true) (hl : nd.l.length = zs.length) : TreeN (zs.map leafN ++ [withL nd (List.range zs.length)]) := by
  refine leaves_tree (fun m hm => ?_) (fun m hm => ?_) ?_ ?_ (by simpa using hn)
  · obtain ⟨z, -, rfl⟩ := List.mem_map.1 hm
    exact leaf_l z
  · obtain ⟨z, -, rfl⟩ := List.mem_map.1 hm
    exact leaf_shape z
  · rw [shape_with (by simp [hl])]
    exact hsh
  · show List.range zs.length = _
    rw [List.length_map]
theorem mbn_nul {nd : Nd} (zs : List Bool) : nulN (zs.map leafN ++ [withL nd (List.range zs.length)]) = may1 (withL nd (List.range zs.length)) zs := by
  unfold nulN
  rw [mayL_snoc, leaves_may _ zs rfl, List.length_append, List.length_singleton, List.length_map, Nat.add_sub_cancel, List.getD_eq_getElem?_getD, List.getElem?_append_right (Nat.le_refl _), Nat.sub_self]
  rfl
set_option maxHeartbeats 2000000 in
theorem mbn_any {B : Nat} {u : World} (g : Gd) (nd : Nd) (A0 : Option Addr) (n0 c0 : Nat) (hg : GN1 g nd) (Ak : Option Addr) (ck : Nat) (ks : List Tv) (hK : KR u B Ak ck ks) (hn : ks.length < 1024) (hsh : shapeB nd = true) (hl : nd.l.length = ks.length) :
    Calls Try.prog 46 #[.agg (ndX g A0 n0 c0), .slice Ak ks.length ck] u fun e u' => e = .returned (.bool (may1 (withL nd (List.range ks.length)) (zsOf ks))) ∧ Below u.heap.size u u' := by
  have R1 := RowA.new u 42 (ndX g A0 n0 c0)
  have b1 : Below u.heap.size u (u.alloc (.cells (ndX g A0 n0 c0) 42)) := (Below.refl _ _).alloc (Nat.le_refl _) _
  have x5 : (u.alloc (.cells (ndX g A0 n0 c0) 42)).cell? ⟨u.heap.size, 5, none⟩ = some (.slice A0 n0 c0) := R1.at_ rfl
  have t1 := R1.thawed
  have R2 := RowA.new u 42 (ndX g none 0 0)
  have b2 : Below u.heap.size u (u.alloc (.cells (ndX g none 0 0) 42)) := (Below.refl _ _).alloc (Nat.le_refl _) _
  have HK := hidd hK
  have HG := hidd hg
  have HSH := hidd hsh
  have HL := hidd hl
  obtain ⟨m, hm⟩ : ∃ m, ks.length = m := ⟨_, rfl⟩
  have HM := hidd hm
  rw [hm] at hn ⊢
  have HB2 := hidd b2
  clear hK hg hsh hl hm b1 R1 b2
  obtain ⟨RES, hRES⟩ : ∃ RES, may1 (withL nd (List.range m)) (zsOf ks) = RES := ⟨_, rfl⟩
  have HRES := hidd hRES
  rw [hRES]
  clear hRES
  unfold ndX at HB2 x5 t1 R2 ⊢
  go_enter Try.func46, Try.ntmps46
  go_upto_region 2 with fail
  generalize u.alloc (.cells #[.int .u8 g.op, .int .u64 (W g.s 0), .int .u64 (W g.s 1), .int .u64 (W g.s 2), .int .u64 (W g.s 3), .slice none 0 0, .int .i64 g.lo, .int .i64 g.hi, .string g.nm] 42) = w1 at *
  obtain ⟨q, hq⟩ : ∃ q, u.heap.size = q := ⟨_, rfl⟩
  have HQ := hidd hq
  rw [hq] at R2
  rw [hq]
  have hR2 : RowA w1 q 42 (ndX g none 0 0) := R2
  have HR2 := hidd hR2
  clear hq x5 t1 R2 hR2
  obtain ⟨i0, hi0, hz0, hz1, hz2⟩ := info_parts node_info
  obtain ⟨jf, hjf, hy0, hy1, hy2⟩ := info_parts int_info
  go_wp2
  go_loopw [5, 11] (fun s5 s11 wr => ∃ (j : Nat) (lA : Option Addr) (lc : Nat) (kA : Option Addr) (kc : Nat), j ≤ m ∧ s11 = .int .i64 (j : Int) ∧ s5 = .slice lA j lc ∧ wr.ownsRow (q + 1) 42 9 (.slice lA j lc) j (nodesC (lvL (zsOf (ks.take j)))) ∧ RowA wr q 42 (ndX g kA j kc) ∧ wr.ownsRow (q + 1) 3 1 (.slice kA j kc) j (i64s (List.range j)) ∧ Below u.heap.size u wr) (fun _ s11 _ => m - (intOf s11).toNat)
  case atStart => exact ⟨0, none, 0, none, 0, Nat.zero_le _, rfl, rfl, World.ownsRow_nil _ _ _ _, HR2.out, World.ownsRow_nil _ _ _ _, HB2.out⟩
  case round =>
    clear HR2 HB2
    obtain ⟨j, lA, lc, kA, kc, hj0, rfl, rfl, oL, Rq, oK, hb⟩ := hrel
    by_cases hlt : j < m
    · have hlt2 : j < ks.length := by rw [HM.out]; exact hlt
      obtain ⟨gk, rfl, hgk, r1, -⟩ := (HK.out.below hb).at_ hlt2
      have HZT := hidd (zs_take hlt2)
      have HOL := hidd oL
      have HRQ := hidd Rq
      have HOK := hidd oK
      have HB := hidd hb
      generalize ks[j] = x at *
      have hji : (j : Int) < (m : Int) := by omega
      clear hlt2 oL Rq oK hb
      have Z1 := RowA.new wr 57 ptZ
      have hW1 : Below wr.heap.size wr ((wr.alloc (.cells ptZ 57)).setRow wr.heap.size (ptL x).toArray) := bel_setRow ((Below.refl _ _).alloc (Nat.le_refl _) _) _ _ (Nat.le_refl _)
      have R1 := Z1.row (ptL x).toArray
      go_upto_region 6 with (first
        | refine wpList_load_mid rfl 57 (.tmp 14) rfl gk (j * 3) rfl (ptL x) _ r1 Try.underlying57 rfl (pt_infoL x) ?_
        | refine wpList_store_row rfl 57 (.tmp 7) (.tmp 15) rfl wr.heap.size (ptL x).toArray rfl rfl 57 ptZ Z1 (pt_info _ _ _) rfl (pt_ones _ _ _ _ _ _ _) ?_)
      change RowA ((wr.alloc (.cells ptZ 57)).setRow wr.heap.size (ptL x).toArray) _ _ _ at R1
      have hqs := R1.lt
      generalize (wr.alloc (.cells ptZ 57)).setRow wr.heap.size (ptL x).toArray = w2 at *
      obtain ⟨q5, hq5⟩ : ∃ q5, wr.heap.size = q5 := ⟨_, rfl⟩
      rw [hq5] at R1
      rw [hq5]
      rw [put_non]
      have HQ5 := hidd hq5
      have HR1 := hidd R1
      have HW1 := hidd hW1
      clear Z1 r1 hW1 R1 hq5
      have x2 : w2.cell? ⟨q5, 2, none⟩ = some (.bool x.1.nul) := HR1.out.at_ rfl
      have hlf := leaf_any x.1.nul w2
      have HOL2 := hidd (own_below HOL.out HW1.out (Nat.le_refl _))
      have HRQ2 := hidd (HRQ.out.below HW1.out HRQ.out.lt)
      have HOK2 := hidd (own_below HOK.out HW1.out (Nat.le_refl _))
      have HB2 : Hid (Below u.heap.size u w2) := HB.out.trans (HW1.out.mono HB.out.size)
      clear HOL HRQ HOK HB HW1 HR1 HQ5
      generalize x.1.nul = z at *
      have HLV := hidd (lvL_snoc (zsOf (ks.take j)) z)
      have hglen : (gdL (leafG z) none 0).length = 9 := gdL_len _ _ _
      have hgone := gdL_ones (leafG z) none 0
      obtain ⟨o9, a0, a1, a2, a3, hG9⟩ : ∃ o9 a0 a1 a2 a3 : Int, gdL (leafG z) none 0 = [.int .u8 o9, .int .u64 a0, .int .u64 a1, .int .u64 a2, .int .u64 a3, .slice none 0 0, .int .i64 0, .int .i64 0, .string ⟨#[]⟩] := by
        cases z with
        | true => exact ⟨_, _, _, _, _, rfl⟩
        | false => exact ⟨_, _, _, _, _, rfl⟩
      rw [hG9] at hlf HLV hglen hgone
      clear hG9
      go_wp2_with fail
      refine hlf.mono ?_
      rintro e w3 ⟨rfl, b3⟩
      have hown := (own_below HOL2.out b3 (Nat.le_refl _)).alloc (.cells #[.int .u8 o9, .int .u64 a0, .int .u64 a1, .int .u64 a2, .int .u64 a3, .slice none 0 0, .int .i64 0, .int .i64 0, .string ⟨#[]⟩] 42)
      have hnews : ∀ j v, ([.int .u8 o9, .int .u64 a0, .int .u64 a1, .int .u64 a2, .int .u64 a3, .slice none 0 0, .int .i64 0, .int .i64 0, .string ⟨#[]⟩] : List Value)[j]? = some v → (w3.alloc (.cells #[.int .u8 o9, .int .u64 a0, .int .u64 a1, .int .u64 a2, .int .u64 a3, .slice none 0 0, .int .i64 0, .int .i64 0, .string ⟨#[]⟩] 42)).cell? ((⟨w3.heap.size, 0, none⟩ : Addr).add j) = some v := by
        have h := World.news_of_block (RowA.new w3 42 #[.int .u8 o9, .int .u64 a0, .int .u64 a1, .int .u64 a2, .int .u64 a3, .slice none 0 0, .int .i64 0, .int .i64 0, .string ⟨#[]⟩])
        exact h
      have hH : (w3.alloc (.cells #[.int .u8 o9, .int .u64 a0, .int .u64 a1, .int .u64 a2, .int .u64 a3, .slice none 0 0, .int .i64 0, .int .i64 0, .string ⟨#[]⟩] 42)).heap.size = w3.heap.size + 1 := World.size_alloc ..
      have hbase : q + 1 ≤ (w3.alloc (.cells #[.int .u8 o9, .int .u64 a0, .int .u64 a1, .int .u64 a2, .int .u64 a3, .slice none 0 0, .int .i64 0, .int .i64 0, .string ⟨#[]⟩] 42)).heap.size := by
        rw [hH]
        have h1 := HRQ2.out.lt
        have h2 := b3.size
        omega
      have hbA : Below w3.heap.size w3 (w3.alloc (.cells #[.int .u8 o9, .int .u64 a0, .int .u64 a1, .int .u64 a2, .int .u64 a3, .slice none 0 0, .int .i64 0, .int .i64 0, .string ⟨#[]⟩] 42)) := (Below.refl _ _).alloc (Nat.le_refl _) _
      have HRQ3 := hidd ((HRQ2.out.below b3 HRQ2.out.lt).below hbA (by have h1 := HRQ2.out.lt; have h2 := b3.size; omega))
      have HOK3 := hidd (own_below (own_below HOK2.out b3 (Nat.le_refl _)) hbA (Nat.le_refl _))
      have HB3 : Hid (Below u.heap.size u (w3.alloc (.cells #[.int .u8 o9, .int .u64 a0, .int .u64 a1, .int .u64 a2, .int .u64 a3, .slice none 0 0, .int .i64 0, .int .i64 0, .string ⟨#[]⟩] 42))) := HB2.out.trans ((b3.trans (hbA.mono b3.size)).mono HB2.out.size)
      clear hlf b3 HOL2 HRQ2 HOK2 HB2 hbA
      go_upto_region 7 with (at_builtin; refine wpList_append_lies _ rfl (.tmp 16) (.tmp 20) 36 rfl (q + 1) 42 i0 _ 9 96 Try.underlying36 hi0 hz0 hz1 hz2 rfl (by omega) (.slice lA j lc) j _ rfl hown ⟨w3.heap.size, 0, none⟩ 1 1 [.int .u8 o9, .int .u64 a0, .int .u64 a1, .int .u64 a2, .int .u64 a3, .slice none 0 0, .int .i64 0, .int .i64 0, .string ⟨#[]⟩] rfl rfl hnews hgone (by omega) (by simp only [maxLen]; omega) (by omega) hbase (w3.heap.size + 1) hH ?_; intro g7 cap7 w7 hown7 hgrow hat hlt7; refine Hid.out ?_)
      have HRQ7 : Hid (RowA w7 q 42 (ndX g kA j kc)) := ((hgrow.block q HRQ3.out.lt (fun e => by have := (hown.lt q e.symm).1; omega)).trans HRQ3.out)
      have hok7 := own_kept HOK3.out hgrow (fun k hk e => own_apart hown HOK3.out (by decide) k hk e)
      have HB7 : Hid (Below u.heap.size u w7) := by
        have h1 := HB3.out
        have h2 := HQ.out
        exact ⟨hgrow.os.trans h1.os, hgrow.tape.trans h1.tape, hgrow.output.trans h1.output, Nat.le_trans h1.size hgrow.size, fun k hk => (hgrow.block k (Nat.lt_of_lt_of_le hk h1.size) (fun e => by have := (hown.lt k e.symm).1; omega)).trans (h1.block k hk)⟩
      have HO7 : Hid (w7.ownsRow (q + 1) 42 9 (.slice (some ⟨g7, 0, none⟩) (j + 1) cap7) (j + 1) (nodesC (lvL (zsOf (ks.take (j + 1)))))) := by
        show World.ownsRow _ _ _ _ _ _ _
        rw [HZT.out, ← HLV.out]
        exact hown7
      clear hown hnews hH hbase hown7 hgrow hat hlt7 HRQ3 HOK3 HB3 hglen hgone HLV HZT
      refine Lib.hid ?_
      have x5 : w7.cell? ⟨q, 5, none⟩ = some (.slice kA j kc) := HRQ7.out.at_ rfl
      have hown := hok7.alloc (.cells #[.int .i64 (j : Int)] 3)
      have hnews := int_news w7 (j : Int)
      have hH : (w7.alloc (.cells #[.int .i64 (j : Int)] 3)).heap.size = w7.heap.size + 1 := World.size_alloc ..
      have hbase : q + 1 ≤ (w7.alloc (.cells #[.int .i64 (j : Int)] 3)).heap.size := by
        rw [hH]
        have h1 := HRQ7.out.lt
        omega
      have hbA : Below w7.heap.size w7 (w7.alloc (.cells #[.int .i64 (j : Int)] 3)) := (Below.refl _ _).alloc (Nat.le_refl _) _
      have HRQ8 := hidd (HRQ7.out.below hbA HRQ7.out.lt)
      have HO8 := hidd (own_below HO7.out hbA (Nat.le_refl _))
      have HB8 : Hid (Below u.heap.size u (w7.alloc (.cells #[.int .i64 (j : Int)] 3))) := HB7.out.trans (hbA.mono HB7.out.size)
      clear HRQ7 HO7 HB7 hbA hok7
      go_upto_region 8 with (at_builtin; refine wpList_append_lies _ rfl (.tmp 23) (.tmp 25) 23 rfl (q + 1) 3 jf (.int .i64 0) 1 8 Try.underlying23 hjf hy0 hy1 hy2 rfl (by omega) (.slice kA j kc) j (i64s (List.range j)) rfl hown ⟨w7.heap.size, 0, none⟩ 1 1 [.int .i64 (j : Int)] rfl rfl hnews (by simp [Value.oneCell']) (by omega) (by simp only [maxLen]; omega) (by omega) hbase (w7.heap.size + 1) hH ?_; intro g9 cap9 w9 hown9 hgrow hat hlt9; have Rq9 : RowA w9 q 42 (ndX g kA j kc) := (hgrow.block q HRQ8.out.lt (fun e => own_neR hown HRQ8.out (by decide) e.symm)).trans HRQ8.out; have f5 : w9.cell? ⟨q, 5, none⟩ = some (.slice kA j kc) := RowA.at_ Rq9 rfl; have ht9 := RowA.thawed Rq9)
      have R10 : RowA (w9.setCell ⟨q, 5, none⟩ (.slice (some ⟨g9, 0, none⟩) (j + 1) cap9)) q 42 (ndX g (some ⟨g9, 0, none⟩) (j + 1) cap9) := RowA.set Rq9 5 _
      have oN9 := own_kept HO8.out hgrow (fun k hk e => own_apart hown HO8.out (by decide) k hk e)
      have O10 := own_sb (b := q) (k := 5) oN9 (fun e => by have := (oN9.lt q e).1; omega) (.slice (some ⟨g9, 0, none⟩) (j + 1) cap9)
      have oK9 : w9.ownsRow (q + 1) 3 1 (.slice (some ⟨g9, 0, none⟩) (j + 1) cap9) (j + 1) (i64s (List.range (j + 1))) := by
        rw [List.range_succ, ← i64s_snoc']
        exact hown9
      have K10 := own_sb (b := q) (k := 5) oK9 (fun e => by have := (oK9.lt q e).1; omega) (.slice (some ⟨g9, 0, none⟩) (j + 1) cap9)
      have B10 : Below u.heap.size u (w9.setCell ⟨q, 5, none⟩ (.slice (some ⟨g9, 0, none⟩) (j + 1) cap9)) := by
        have h1 := HB8.out
        have h2 := HQ.out
        refine bel_set ⟨hgrow.os.trans h1.os, hgrow.tape.trans h1.tape, hgrow.output.trans h1.output, Nat.le_trans h1.size hgrow.size, fun k hk => (hgrow.block k (Nat.lt_of_lt_of_le hk h1.size) (fun e => by have := (hown.lt k e.symm).1; omega)).trans (h1.block k hk)⟩ _ _ (by show u.heap.size ≤ q; omega)
      have HF := hidd (And.intro O10 (And.intro R10 (And.intro K10 B10)))
      clear oN9 O10 oK9 K10 B10 R10 hown hnews hH hbase hown9 hgrow hat hlt9 Rq9 HRQ8 HO8 HB8 f5 ht9
      go_wp2
      exact ⟨⟨j + 1, _, _, _, _, by omega, rfl, rfl, HF.out.1, HF.out.2.1, HF.out.2.2.1, HF.out.2.2.2⟩, by simp [intOf]; omega⟩
    · have hje : m = j := by omega
      subst hje
      rw [List.take_of_length_le (by rw [HM.out]; exact Nat.le_refl _)] at oL
      obtain ⟨y0, y1, y2, y3, y4, y5, y6, y7, y8⟩ : wr.cell? ⟨q, 0, none⟩ = some (.int .u8 g.op) ∧ wr.cell? ⟨q, 1, none⟩ = some (.int .u64 (W g.s 0)) ∧ wr.cell? ⟨q, 2, none⟩ = some (.int .u64 (W g.s 1)) ∧ wr.cell? ⟨q, 3, none⟩ = some (.int .u64 (W g.s 2)) ∧ wr.cell? ⟨q, 4, none⟩ = some (.int .u64 (W g.s 3)) ∧ wr.cell? ⟨q, 5, none⟩ = some (.slice kA m kc) ∧ wr.cell? ⟨q, 6, none⟩ = some (.int .i64 g.lo) ∧ wr.cell? ⟨q, 7, none⟩ = some (.int .i64 g.hi) ∧ wr.cell? ⟨q, 8, none⟩ = some (.string g.nm) := ⟨Rq.at_ rfl, Rq.at_ rfl, Rq.at_ rfl, Rq.at_ rfl, Rq.at_ rfl, Rq.at_ rfl, Rq.at_ rfl, Rq.at_ rfl, Rq.at_ rfl⟩
      have hzl : (zsOf ks).length = m := by unfold zsOf; rw [List.length_map]; exact HM.out
      have hrl : ((List.range m).map fun k : Nat => (k : Int)).length = m := by simp
      have hG9 : gdL (withG g ((List.range m).map fun k : Nat => (k : Int))) kA kc = [.int .u8 g.op, .int .u64 (W g.s 0), .int .u64 (W g.s 1), .int .u64 (W g.s 2), .int .u64 (W g.s 3), .slice kA m kc, .int .i64 g.lo, .int .i64 g.hi, .string g.nm] := by
        unfold gdL withG
        rw [hrl]
      have hgone := gdL_ones (withG g ((List.range m).map fun k : Nat => (k : Int))) kA kc
      rw [hG9] at hgone
      have hown := oL.alloc (.cells #[.int .u8 g.op, .int .u64 (W g.s 0), .int .u64 (W g.s 1), .int .u64 (W g.s 2), .int .u64 (W g.s 3), .slice kA m kc, .int .i64 g.lo, .int .i64 g.hi, .string g.nm] 42)
      have hnews : ∀ j v, ([.int .u8 g.op, .int .u64 (W g.s 0), .int .u64 (W g.s 1), .int .u64 (W g.s 2), .int .u64 (W g.s 3), .slice kA m kc, .int .i64 g.lo, .int .i64 g.hi, .string g.nm] : List Value)[j]? = some v → (wr.alloc (.cells #[.int .u8 g.op, .int .u64 (W g.s 0), .int .u64 (W g.s 1), .int .u64 (W g.s 2), .int .u64 (W g.s 3), .slice kA m kc, .int .i64 g.lo, .int .i64 g.hi, .string g.nm] 42)).cell? ((⟨wr.heap.size, 0, none⟩ : Addr).add j) = some v := by
        have h := World.news_of_block (RowA.new wr 42 #[.int .u8 g.op, .int .u64 (W g.s 0), .int .u64 (W g.s 1), .int .u64 (W g.s 2), .int .u64 (W g.s 3), .slice kA m kc, .int .i64 g.lo, .int .i64 g.hi, .string g.nm])
        exact h
      have hH : (wr.alloc (.cells #[.int .u8 g.op, .int .u64 (W g.s 0), .int .u64 (W g.s 1), .int .u64 (W g.s 2), .int .u64 (W g.s 3), .slice kA m kc, .int .i64 g.lo, .int .i64 g.hi, .string g.nm] 42)).heap.size = wr.heap.size + 1 := World.size_alloc ..
      have hbase : q + 1 ≤ (wr.alloc (.cells #[.int .u8 g.op, .int .u64 (W g.s 0), .int .u64 (W g.s 1), .int .u64 (W g.s 2), .int .u64 (W g.s 3), .slice kA m kc, .int .i64 g.lo, .int .i64 g.hi, .string g.nm] 42)).heap.size := by
        rw [hH]
        have h1 := Rq.lt
        omega
      have hbA : Below wr.heap.size wr (wr.alloc (.cells #[.int .u8 g.op, .int .u64 (W g.s 0), .int .u64 (W g.s 1), .int .u64 (W g.s 2), .int .u64 (W g.s 3), .slice kA m kc, .int .i64 g.lo, .int .i64 g.hi, .string g.nm] 42)) := (Below.refl _ _).alloc (Nat.le_refl _) _
      have hok := own_below oK hbA (Nat.le_refl _)
      have HBX : Hid (Below u.heap.size u (wr.alloc (.cells #[.int .u8 g.op, .int .u64 (W g.s 0), .int .u64 (W g.s 1), .int .u64 (W g.s 2), .int .u64 (W g.s 3), .slice kA m kc, .int .i64 g.lo, .int .i64 g.hi, .string g.nm] 42))) := hb.trans (hbA.mono hb.size)
      have HOK := hidd hok
      have HZL := hidd hzl
      have HRL := hidd hrl
      have HG9 := hidd hG9
      clear oL oK hb hbA hok Rq hzl hrl hG9
      go_wp2_with (at_builtin; refine wpList_append_lies _ rfl (.tmp 29) (.tmp 31) 36 rfl (q + 1) 42 i0 _ 9 96 Try.underlying36 hi0 hz0 hz1 hz2 rfl (by omega) (.slice lA m lc) m _ rfl hown ⟨wr.heap.size, 0, none⟩ 1 1 [.int .u8 g.op, .int .u64 (W g.s 0), .int .u64 (W g.s 1), .int .u64 (W g.s 2), .int .u64 (W g.s 3), .slice kA m kc, .int .i64 g.lo, .int .i64 g.hi, .string g.nm] rfl rfl hnews hgone (by omega) (by simp only [maxLen]; omega) (by omega) hbase (wr.heap.size + 1) hH ?_; intro g7 cap7 w7 hown7 hgrow hat hlt7; refine Hid.out ?_)
      have hok7 := own_kept HOK.out hgrow (fun k hk e => own_apart hown HOK.out (by decide) k hk e)
      have HB7 : Hid (Below u.heap.size u w7) := by
        have h1 := HBX.out
        have h2 := HQ.out
        exact ⟨hgrow.os.trans h1.os, hgrow.tape.trans h1.tape, hgrow.output.trans h1.output, Nat.le_trans h1.size hgrow.size, fun k hk => (hgrow.block k (Nat.lt_of_lt_of_le hk h1.size) (fun e => by have := (hown.lt k e.symm).1; omega)).trans (h1.block k hk)⟩
      have hrow : w7.ownsRow (q + 1) 42 9 (.slice (some ⟨g7, 0, none⟩) (m + 1) cap7) (lvL (zsOf ks) ++ [(withG g ((List.range m).map fun k : Nat => (k : Int)), kA, kc)]).length (nodesC (lvL (zsOf ks) ++ [(withG g ((List.range m).map fun k : Nat => (k : Int)), kA, kc)])) := by
        have e : (lvL (zsOf ks) ++ [(withG g ((List.range m).map fun k : Nat => (k : Int)), kA, kc)]).length = m + 1 := by
          unfold lvL
          rw [List.length_append, List.length_map, HZL.out]
          rfl
        rw [e, ← nodesC_snoc]
        show w7.ownsRow _ _ _ _ _ (nodesC (lvL (zsOf ks)) ++ gdL (withG g ((List.range m).map fun k : Nat => (k : Int))) kA kc)
        rw [HG9.out]
        exact hown7
      obtain ⟨A8, c8, hA8, N8, -⟩ := own_nds hrow (fun x hx => by
        rcases List.mem_append.1 hx with h | h
        · unfold lvL at h
          obtain ⟨z, -, rfl⟩ := List.mem_map.1 h
          have e : (leafG z).l = [] := by cases z <;> rfl
          intro hne
          exact absurd e hne
        · rw [List.mem_singleton] at h
          subst h
          have h2 := hok7
          rw [i64s_ints] at h2
          exact its_own h2 HRL.out)
      have hA9 : A8 = some ⟨g7, 0, none⟩ ∧ c8 = cap7 := by
        injection hA8 with h1 _ h3
        exact ⟨h1.symm, h3.symm⟩
      obtain ⟨rfl, rfl⟩ := hA9
      rw [List.map_append] at N8
      have hG := mbn_nodes HG.out (zsOf ks)
      have hT := mbn_tree (zsOf ks) (by rw [HZL.out]; omega) HSH.out (by rw [HL.out, HZL.out]; exact HM.out)
      have hnu := mbn_nul (nd := nd) (zsOf ks)
      rw [HZL.out] at hG hT hnu
      have hc := null_ok (some ⟨g7, 0, none⟩) c8 _ _ w7 N8 hG hT
      rw [hnu, HRES.out] at hc
      have hlen : ((lvL (zsOf ks)).map (·.1) ++ [withG g ((List.range m).map fun k : Nat => (k : Int))]).length = m + 1 := by
        unfold lvL
        rw [List.length_append, List.length_map, List.length_map, HZL.out]
        rfl
      have hc : Calls Try.prog 64 #[.slice (some ⟨g7, 0, none⟩) (m + 1) c8] w7 fun e w' => NulR w7 RES e w' := by
        have h := hc
        rw [← hlen]
        exact h
      have HB7b := HB7
      clear hown hnews hH hbase hown7 hgrow hat hlt7 hok7 hrow N8 hG hT hnu hlen hA8 HOK HBX y0 y1 y2 y3 y4 y5 y6 y7 y8 hgone
      refine Lib.hid ?_
      go_wp2_with fail
      refine hc.mono ?_
      rintro e w9 ⟨rfl, b9⟩
      have HF := hidd (HB7b.out.trans (b9.mono HB7b.out.size))
      clear hc b9
      go_wp2
      go_ret
      exact ⟨rfl, HF.out⟩
end Go.Proofs.Ytahhiajliomcfaa.Sy.Gl

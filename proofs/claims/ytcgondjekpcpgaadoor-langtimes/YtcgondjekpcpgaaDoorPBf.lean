/- The reference's Fold. -/
import Derived.Test.YtcgondjekpcpgaaDoorPAs
import Derived.ArgAppend
namespace Go.Proofs.YtcgondjekpcpgaaDoor.Sy.Ap
open Go.RowKit
set_option maxRecDepth 100000
set_option linter.unusedVariables false

def foldH (g : Gd) : Gd := setSG g (foldK 123 g.s)
theorem gn_foldH {gs : List Gd} {ns : List Nd} (h : GN gs ns) : GN (gs.map foldH) (foldL ns) := by
  refine ⟨by rw [List.length_map, foldL_len]; exact h.1, fun i hi => ?_⟩
  rw [List.length_map] at hi
  have hi2 : i < ns.length := by rw [← h.1]; exact hi
  have h1 := h.2 i hi
  unfold foldL
  rw [List.getD_eq_getElem?_getD, List.getElem?_eq_getElem hi, List.getD_eq_getElem?_getD, List.getElem?_eq_getElem hi2] at h1
  rw [List.getD_eq_getElem?_getD, List.getElem?_map, List.getElem?_eq_getElem hi, List.getD_eq_getElem?_getD, List.getElem?_map, List.getElem?_eq_getElem hi2]
  exact ⟨h1.op, foldK_congr h1.s, h1.l, h1.lo, h1.hi, h1.nm⟩
structure RfS (w : World) (gs : List Gd) (i : Nat) (ov : Value) (l : List NR) (wr : World) : Prop where
  own : wr.ownsRow w.heap.size 43 9 ov l.length (nodesC l)
  map : l.map (·.1) = (gs.take i).map foldH
  kid : ∀ x ∈ l, wr.ownsRow w.heap.size 3 1 (.slice x.2.1 x.1.l.length x.2.2) x.1.l.length (ints x.1.l)
  bel : Below w.heap.size w wr
theorem RfS.len {w : World} {gs : List Gd} {i : Nat} {ov : Value} {l : List NR} {wr : World} (h : RfS w gs i ov l wr) (hi : i ≤ gs.length) : l.length = i := by
  have := congrArg List.length h.map
  rw [List.length_map, List.length_map, List.length_take] at this
  omega
theorem takeG_snoc {gs : List Gd} {k : Nat} (hk : k < gs.length) : gs.take (k + 1) = gs.take k ++ [gs.getD k gd0] := by
  rw [List.take_add_one, List.getElem?_eq_getElem hk, List.getD_eq_getElem?_getD, List.getElem?_eq_getElem hk]
  rfl
/-- Once more round: u: what the round did far from the row (with the copied list); then the node is appended. -/
theorem RfS.next {w : World} {gs : List Gd} {i : Nat} {ov v' : Value} {l : List NR} {wr u w7 : World} {g : Gd} {A : Option Addr} {c : Nat} (h : RfS w gs i ov l wr) (hi : i < gs.length) (hg : gs.getD i gd0 = g) (hb : Below wr.heap.size wr u)
    (ho : u.ownsRow w.heap.size 3 1 (.slice A g.l.length c) g.l.length (ints g.l)) (hown : u.ownsRow w.heap.size 43 9 ov l.length (nodesC l)) (hgr : u.grownBy w7 ov.ownBlock) (h7 : w7.ownsRow w.heap.size 43 9 v' (i + 1) (nodesC l ++ gdL (foldH g) A c)) : RfS w gs (i + 1) v' (l ++ [(foldH g, A, c)]) w7 := by
  have hl := h.len (Nat.le_of_lt hi)
  refine ⟨own_last (k := i) h7 hl, ?_, fun x hx => ?_, ?_⟩
  · rw [List.map_append, h.map, takeG_snoc hi, List.map_append, hg]
    rfl
  · rcases List.mem_append.1 hx with q | q
    · have k1 := own_below (h.kid x q) hb (Nat.le_refl _)
      exact own_kept k1 hgr (fun k hk => fun r => own_apart hown k1 (by decide) k hk r)
    · rw [List.mem_singleton] at q
      subst q
      exact own_kept ho hgr (fun k hk => fun r => own_apart hown ho (by decide) k hk r)
  · exact bel_row (h.bel.trans (hb.mono h.bel.size)) (Nat.le_trans h.bel.size hb.size) hgr (fun k hk => (hown.lt k hk).1)
set_option maxHeartbeats 1000000 in
theorem rfold_ok (A : Option Addr) (c : Nat) (gs : List Gd) (ns : List Nd) (w : World) (hN : Nds w w.heap.size A gs) (hg : GN gs ns) (ht : TreeN ns) :
    Calls Tryd.prog 26 #[.slice A gs.length c] w fun e w' => Below w.heap.size w w' ∧ ∃ A' c', e = .returned (.slice A' (gs.map foldH).length c') ∧ Nds w' w'.heap.size A' (gs.map foldH) := by
  obtain ⟨i0, hi0, hz0, hz1, hz2⟩ := info_parts node_info
  have hfew := gn_few hg ht
  have hR := refRight_any A c gs w hN (by omega) (gn_sm hg ht)
  have HRG := hidd (tree_rg hg ht)
  have HKD := hidd (gn_kids hg ht)
  clear hg ht
  have HN := hidd hN
  clear hN
  generalize hn : gs.length = n at *
  have HN0 := hidd hn
  clear hn
  go_enter Tryd.func26, Tryd.ntmps26
  go_wp2_with fail
  refine hR.mono ?_
  rintro e w1 ⟨z, rfl, hz, b1⟩
  have hz3 : z = true := hz.2 HRG.out
  subst hz3
  have HS0 : Hid (RfS w gs 0 (.slice none 0 0) [] w1) := ⟨World.ownsRow_nil _ _ _ _, rfl, fun x hx => absurd hx List.not_mem_nil, b1⟩
  clear hz b1 hR
  go_wp2
  go_loopw [3, 4] (fun s3 s4 wr => ∃ (i : Nat) (l : List NR), i ≤ n ∧ s4 = .int .i64 (i : Int) ∧ RfS w gs i s3 l wr) (fun _ s4 _ => n - (intOf s4).toNat)
  case atStart => exact ⟨0, [], Nat.zero_le _, rfl, HS0.out⟩
  case round =>
    clear HS0
    obtain ⟨k, l, hk0, rfl, L⟩ := hrel
    have D := L.bel
    have hll := L.len (by rw [HN0.out]; exact hk0)
    obtain ⟨A9, c9, rfl⟩ := own_form L.own
    by_cases hlt : k < n
    · have hlt2 : k < gs.length := by rw [HN0.out]; exact hlt
      obtain ⟨bb, o1, rfl, hb1, A3, c3, I1, r1⟩ := (HN.out.below D).at_ hlt2
      have hgm : gs.getD k gd0 ∈ gs := by
        rw [List.getD_eq_getElem?_getD, List.getElem?_eq_getElem hlt2]
        exact List.getElem_mem hlt2
      have hkd := HKD.out _ hgm
      generalize hgd : gs.getD k gd0 = g at *
      have HGD := hidd hgd
      clear hgd hgm
      have hki : (k : Int) < (n : Int) := by omega
      have hbs := D.size
      have HL := hidd L
      have Z1 := RowA.new wr 43 zeroC
      have hW1 : Below wr.heap.size wr ((wr.alloc (.cells zeroC 43)).setRow wr.heap.size (gdL g A3 c3).toArray) := bel_setRow ((Below.refl _ _).alloc (Nat.le_refl _) _) _ _ (Nat.le_refl _)
      have R1 := Z1.row (gdL g A3 c3).toArray
      go_upto_region 8 with (first
        | refine wpList_load_mid rfl 43 (.tmp 17) rfl bb (o1 + k * 9) rfl (gdL g A3 c3) _ r1 Tryd.underlying43 rfl (gdL_info g A3 c3) ?_
        | refine wpList_store_row rfl 43 (.tmp 5) (.tmp 18) rfl wr.heap.size (gdL g A3 c3).toArray rfl rfl 43 zeroC Z1 (gdL_infoA g A3 c3) rfl (gdL_one g A3 c3) ?_)
      change RowA ((wr.alloc (.cells zeroC 43)).setRow wr.heap.size (gdL g A3 c3).toArray) _ _ _ at R1
      have B2 := hW1
      generalize (wr.alloc (.cells zeroC 43)).setRow wr.heap.size (gdL g A3 c3).toArray = w2 at *
      have hrs := range_set R1
      have hfo := rfold_any g.s w2
      obtain ⟨q, hq⟩ : ∃ q, wr.heap.size = q := ⟨_, rfl⟩
      rw [hq] at hrs R1 B2
      rw [hq]
      have HQ := hidd hq
      have HR1 := hidd R1
      have HB2 := hidd B2
      have HI1 := hidd I1
      clear Z1 hW1 r1 R1 B2 I1 L D hq
      rw [put_none]
      go_wp2_with (refine wpList_load_mid rfl 41 (.tmp 19) rfl q 1 rfl [.int .u64 (W g.s 0), .int .u64 (W g.s 1), .int .u64 (W g.s 2), .int .u64 (W g.s 3)] _ hrs Tryd.underlying41 rfl (by kernel_rfl) ?_)
      refine hfo.mono ?_
      rintro e w3 ⟨rfl, b3⟩
      have R3 := HR1.out.below b3 HR1.out.lt
      have B3 := HB2.out.trans (b3.mono (Nat.le_of_lt HR1.out.lt))
      have hth1 : w3.there q 1 4 := there_row R3 (by show 1 + 4 ≤ 9; omega)
      obtain ⟨w4, hw4⟩ : ∃ w4, w4 = w3.setCells q 1 [.int .u64 (W (foldK 123 g.s) 0), .int .u64 (W (foldK 123 g.s) 1), .int .u64 (W (foldK 123 g.s) 2), .int .u64 (W (foldK 123 g.s) 3)] := ⟨_, rfl⟩
      have R4 : RowA w4 q 43 (gdL (foldH g) A3 c3).toArray := by rw [hw4]; exact (((R3.set 1 _).set 2 _).set 3 _).set 4 _
      have B4 : Below q wr w4 := by rw [hw4]; exact bel_cells (Nat.le_refl _) _ _ _ B3
      have HST : Hid (∀ (ops : Array Oper) (rest : List Oper) (op : Oper) (a : Act) (Q : Exit → Act → World → Prop), op.guard = none → op.op = .store 41 (.tmp 22) (.tmp 21) → a.eval (.tmp 22) = .pointer (some ⟨q, 1, none⟩) → a.eval (.tmp 21) = .agg #[.int .u64 (W (foldK 123 g.s) 0), .int .u64 (W (foldK 123 g.s) 1), .int .u64 (W (foldK 123 g.s) 2), .int .u64 (W (foldK 123 g.s) 3)] → wpList Tryd.prog ops Q rest (a.put op.dst undef) w4 → wpList Tryd.prog ops Q (op :: rest) a w3) := by
        intro ops rest op a Q h1 h2 h3 h4 h5
        rw [hw4] at h5
        exact wpList_store_mid h1 41 (.tmp 22) (.tmp 21) h2 q 1 #[.int .u64 (W (foldK 123 g.s) 0), .int .u64 (W (foldK 123 g.s) 1), .int .u64 (W (foldK 123 g.s) 2), .int .u64 (W (foldK 123 g.s) 3)] h3 h4 hth1 (by kernel_rfl) (by simp [Value.oneCell']) h5
      clear hfo hrs hth1 hw4 R3 B3 b3 HR1 HB2
      go_upto_region 9 with (refine HST.out _ _ _ _ _ rfl rfl rfl rfl ?_)
      rw [put_none]
      clear HST
      have B5 : Below q wr (w4.alloc (.cells #[] 3)) := B4.alloc (by have := R4.lt; omega) _
      have R5 := R4.alloc (.cells #[] 3)
      have I5 : Its (w4.alloc (.cells #[] 3)) (w4.alloc (.cells #[] 3)).heap.size A3 g.l := (HI1.out.below (B5.mono (by rw [← HQ.out]; exact hbs))).more (by have := B5.size; omega)
      have hsz5 : w.heap.size ≤ (w4.alloc (.cells #[] 3)).heap.size := by have := B5.size; omega
      have ho5 : (w4.alloc (.cells #[] 3)).ownsRow w.heap.size 3 1 (.slice (some ⟨w4.heap.size, 0, none⟩) 0 0) 0 [] := World.ownsRow_lit w4 #[] 0 (by have := B4.size; omega) (by unfold maxLen; omega) rfl
      obtain ⟨d0, d1, d2, d3, d4, d5, d6, d7, d8⟩ := node_cells R5
      have hq4 : q < w4.heap.size := R4.lt
      have hq5 : q < (w4.alloc (.cells #[] 3)).heap.size := R5.lt
      have f5 : (w4.alloc (.cells #[] 3)).cell? ⟨q, 5, none⟩ = some (.slice A3 g.l.length c3) := d5
      have HR5 := hidd R5
      have HB5 := hidd B5
      have HI5 := hidd I5
      have hqn : q ≠ w4.heap.size := by omega
      clear d0 d1 d2 d3 d4 d5 d6 d7 d8 R4 B4 R5 B5 I5
      go_upto_region 10 with (at_builtin; refine wpList_plain rfl fun K hK => ?_; refine wp_app_its (.tmp 23) (.tmp 25) rfl w.heap.size (.slice (some ⟨w4.heap.size, 0, none⟩) 0 0) rfl ho5 _ _ _ _ rfl rfl HI5.out (by omega) hsz5 ?_; intro kA kc w6 o6 g6 at6; have R6 : RowA w6 q 43 (gdL (foldH g) A3 c3).toArray := (g6.block q HR5.out.lt (fun e => hqn (Option.some.inj e))).trans HR5.out; have ht6 := R6.thawed; obtain ⟨f0, f1, f2, f3, f4, f5, f6, f7, f8⟩ := node_cells R6; refine hK _ _ ?_)
      have b6 : Below q wr w6 := bel_row HB5.out (Nat.le_of_lt HR5.out.lt) g6 (fun k2 hk => by have e : w4.heap.size = k2 := Option.some.inj hk; omega)
      have B7 : Below q wr (w6.setCell ⟨q, 5, none⟩ (.slice kA g.l.length kc)) := bel_set b6 _ _ (Nat.le_refl _)
      have R7 : RowA (w6.setCell ⟨q, 5, none⟩ (.slice kA g.l.length kc)) q 43 (gdL (foldH g) kA kc).toArray := R6.set 5 (.slice kA g.l.length kc)
      have o7 := own_sb (k := 5) o6 (own_neR o6 R6 (by decide)) (.slice kA g.l.length kc)
      clear R6 o6 g6 at6 ht6 f0 f1 f2 f3 f4 f6 f7 f8 b6 HR5 HB5 HI5 hqn ho5 hsz5 f5 hq4 hq5
      generalize w6.setCell ⟨q, 5, none⟩ (.slice kA g.l.length kc) = w7 at *
      obtain ⟨d0, d1, d2, d3, d4, d5, d6, d7, d8⟩ := node_cells R7
      have x0 : w7.cell? ⟨q, 0, none⟩ = some (.int .u8 g.op) := d0
      have x1 : w7.cell? ⟨q, 1, none⟩ = some (.int .u64 (W (foldK 123 g.s) 0)) := d1
      have x2 : w7.cell? ⟨q, 2, none⟩ = some (.int .u64 (W (foldK 123 g.s) 1)) := d2
      have x3 : w7.cell? ⟨q, 3, none⟩ = some (.int .u64 (W (foldK 123 g.s) 2)) := d3
      have x4 : w7.cell? ⟨q, 4, none⟩ = some (.int .u64 (W (foldK 123 g.s) 3)) := d4
      have x5 : w7.cell? ⟨q, 5, none⟩ = some (.slice kA g.l.length kc) := d5
      have x6 : w7.cell? ⟨q, 6, none⟩ = some (.int .i64 g.lo) := d6
      have x7 : w7.cell? ⟨q, 7, none⟩ = some (.int .i64 g.hi) := d7
      have x8 : w7.cell? ⟨q, 8, none⟩ = some (.string g.nm) := d8
      clear d0 d1 d2 d3 d4 d5 d6 d7 d8
      rw [← HQ.out] at B7
      have hsz7 : w.heap.size ≤ w7.heap.size := Nat.le_trans hbs B7.size
      have ho8 := own_below HL.out.own B7 (Nat.le_refl _)
      rw [hll] at ho8
      have hown := ho8.alloc (.cells #[.int .u8 g.op, .int .u64 (W (foldK 123 g.s) 0), .int .u64 (W (foldK 123 g.s) 1), .int .u64 (W (foldK 123 g.s) 2), .int .u64 (W (foldK 123 g.s) 3), .slice kA g.l.length kc, .int .i64 g.lo, .int .i64 g.hi, .string g.nm] 43)
      have HBA := hidd (B7.alloc B7.size (.cells #[.int .u8 g.op, .int .u64 (W (foldK 123 g.s) 0), .int .u64 (W (foldK 123 g.s) 1), .int .u64 (W (foldK 123 g.s) 2), .int .u64 (W (foldK 123 g.s) 3), .slice kA g.l.length kc, .int .i64 g.lo, .int .i64 g.hi, .string g.nm] 43))
      have HO7 := hidd (o7.alloc (.cells #[.int .u8 g.op, .int .u64 (W (foldK 123 g.s) 0), .int .u64 (W (foldK 123 g.s) 1), .int .u64 (W (foldK 123 g.s) 2), .int .u64 (W (foldK 123 g.s) 3), .slice kA g.l.length kc, .int .i64 g.lo, .int .i64 g.hi, .string g.nm] 43))
      have hnews : ∀ j u, ([.int .u8 g.op, .int .u64 (W (foldK 123 g.s) 0), .int .u64 (W (foldK 123 g.s) 1), .int .u64 (W (foldK 123 g.s) 2), .int .u64 (W (foldK 123 g.s) 3), .slice kA g.l.length kc, .int .i64 g.lo, .int .i64 g.hi, .string g.nm] : List Value)[j]? = some u → (w7.alloc (.cells #[.int .u8 g.op, .int .u64 (W (foldK 123 g.s) 0), .int .u64 (W (foldK 123 g.s) 1), .int .u64 (W (foldK 123 g.s) 2), .int .u64 (W (foldK 123 g.s) 3), .slice kA g.l.length kc, .int .i64 g.lo, .int .i64 g.hi, .string g.nm] 43)).cell? ((⟨w7.heap.size, 0, none⟩ : Addr).add j) = some u := World.news_of_block (RowA.new w7 43 #[.int .u8 g.op, .int .u64 (W (foldK 123 g.s) 0), .int .u64 (W (foldK 123 g.s) 1), .int .u64 (W (foldK 123 g.s) 2), .int .u64 (W (foldK 123 g.s) 3), .slice kA g.l.length kc, .int .i64 g.lo, .int .i64 g.hi, .string g.nm])
      have hH : (w7.alloc (.cells #[.int .u8 g.op, .int .u64 (W (foldK 123 g.s) 0), .int .u64 (W (foldK 123 g.s) 1), .int .u64 (W (foldK 123 g.s) 2), .int .u64 (W (foldK 123 g.s) 3), .slice kA g.l.length kc, .int .i64 g.lo, .int .i64 g.hi, .string g.nm] 43)).heap.size = w7.heap.size + 1 := World.size_alloc ..
      have hbase : w.heap.size ≤ (w7.alloc (.cells #[.int .u8 g.op, .int .u64 (W (foldK 123 g.s) 0), .int .u64 (W (foldK 123 g.s) 1), .int .u64 (W (foldK 123 g.s) 2), .int .u64 (W (foldK 123 g.s) 3), .slice kA g.l.length kc, .int .i64 g.lo, .int .i64 g.hi, .string g.nm] 43)).heap.size := by rw [hH]; omega
      have HLL := hidd hll
      clear B7 R7 o7 ho8 hll
      go_wp2_with (at_builtin; refine wpList_append_lies _ rfl _ _ _ rfl w.heap.size 43 i0 (.agg zeroC) 9 96 Tryd.underlying22 hi0 hz0 hz1 hz2 rfl (by omega) _ k (nodesC l) rfl hown ⟨w7.heap.size, 0, none⟩ 1 1 [.int .u8 g.op, .int .u64 (W (foldK 123 g.s) 0), .int .u64 (W (foldK 123 g.s) 1), .int .u64 (W (foldK 123 g.s) 2), .int .u64 (W (foldK 123 g.s) 3), .slice kA g.l.length kc, .int .i64 g.lo, .int .i64 g.hi, .string g.nm] rfl rfl hnews (by simp [Value.oneCell']) (by omega) (by simp only [maxLen]; omega) (by omega) hbase (w7.heap.size + 1) hH ?_; intro g8 cap8 w8 hown8 hgrow hat hlt8; refine Hid.out ?_)
      have HR : Hid (RfS w gs (k + 1) (.slice (some ⟨g8, 0, none⟩) (k + 1) cap8) (l ++ [(foldH g, kA, kc)]) w8) :=
        HL.out.next hlt2 HGD.out HBA.out HO7.out (by rw [HLL.out]; exact hown) (by rw [HLL.out]; exact hgrow) hown8
      clear hown hown8 hgrow hat hlt8 hnews hH hbase HBA HO7 x0 x1 x2 x3 x4 x5 x6 x7 x8
      refine Lib.hid ?_
      go_wp2
      exact ⟨⟨k + 1, _, by omega, rfl, HR.out⟩, by simp [intOf]; omega⟩
    · have hke : k = n := by omega
      subst hke
      have hmap : l.map (·.1) = gs.map foldH := by rw [L.map, List.take_of_length_le (by rw [HN0.out]; exact Nat.le_refl _)]
      obtain ⟨A2, c2, hv, hND, hcap⟩ := own_nds L.own (fun x hx => its_own (L.kid x hx) rfl)
      rw [hmap] at hND
      have hlm : (gs.map foldH).length = l.length := by rw [← hmap, List.length_map]
      have HND := hidd hND
      have HLM := hidd hlm
      have HBE := hidd D
      cases hv
      clear L D hND hlm hmap hcap
      go_wp2
      go_ret
      exact ⟨HBE.out, _, _, by rw [HLM.out]; rfl, HND.out⟩
end Go.Proofs.YtcgondjekpcpgaaDoor.Sy.Ap

namespace Go.Proofs.YtcgondjekpcpgaaDoor.Sy.Ap
open Go.RowKit
set_option maxRecDepth 100000
set_option linter.unusedVariables false

theorem addr_addO (g o r : Nat) : (⟨g, o, none⟩ : Addr).add r = ⟨g, o + r, none⟩ := by
  unfold Addr.add
  split
  · rename_i h; rw [h]; rfl
  · rfl
theorem nodesC_len (l : List NR) : (nodesC l).length = l.length * 9 := by
  induction l with
  | nil => rfl
  | cons x r ih =>
    have e : nodesC (x :: r) = gdL x.1 x.2.1 x.2.2 ++ nodesC r := rfl
    rw [e, List.length_append, gdL_len, ih, List.length_cons]
    omega
theorem nodesC_one (l : List NR) : ∀ u ∈ nodesC l, u.oneCell' = true := by
  intro u hu
  unfold nodesC at hu
  obtain ⟨x, _, hx⟩ := List.mem_flatMap.1 hu
  unfold gdL at hx
  simp only [List.mem_cons, List.not_mem_nil, or_false] at hx
  rcases hx with rfl | rfl | rfl | rfl | rfl | rfl | rfl | rfl | rfl <;> rfl
/-- Nodes that a slice shows: their cells, and where their kids lie. -/
theorem nds_cells {w : World} {B : Nat} {A : Option Addr} {gs : List Gd} (h : Nds w B A gs) (hne : gs ≠ []) : ∃ (b off : Nat) (l : List NR), A = some ⟨b, off, none⟩ ∧ b < B ∧ l.map (·.1) = gs ∧ (∀ j u, (nodesC l)[j]? = some u → w.cell? ((⟨b, off, none⟩ : Addr).add j) = some u) ∧ ∀ x ∈ l, Its w B x.2.1 x.1.l := by
  obtain ⟨b, off, hA, hb, hi⟩ := h hne
  have h1 : ∀ i : Nat, ∃ p : Option Addr × Nat, i < gs.length → Its w B p.1 (gs.getD i gd0).l ∧ w.rangeAt b (off + i * 9) (gdL (gs.getD i gd0) p.1 p.2) := by
    intro i
    by_cases q : i < gs.length
    · obtain ⟨A', c', h2, h3⟩ := hi i q
      exact ⟨(A', c'), fun _ => ⟨h2, h3⟩⟩
    · exact ⟨(none, 0), fun r => absurd r q⟩
  obtain ⟨f, hf⟩ := Classical.axiomOfChoice h1
  refine ⟨b, off, (List.range gs.length).map fun i => (gs.getD i gd0, f i), hA, hb, ?_, fun j u hu => ?_, fun x hx => ?_⟩
  · rw [List.map_map]
    apply List.ext_getElem?
    intro i
    rcases Nat.lt_or_ge i gs.length with q | q
    · rw [List.getElem?_map, List.getElem?_range q, List.getElem?_eq_getElem q]
      show some (gs.getD i gd0) = _
      rw [List.getD_eq_getElem?_getD, List.getElem?_eq_getElem q]
      rfl
    · rw [List.getElem?_eq_none q, List.getElem?_eq_none (by simp; exact q)]
  · have hl : j < gs.length * 9 := by
      rcases Nat.lt_or_ge j (gs.length * 9) with q | q
      · exact q
      · rw [List.getElem?_eq_none (by rw [nodesC_len, List.length_map, List.length_range]; exact q)] at hu; cases hu
    have hq : j / 9 < gs.length := by omega
    have e : j = j / 9 * 9 + j % 9 := by omega
    have hx : ((List.range gs.length).map fun i => ((gs.getD i gd0, f i) : NR))[j / 9]? = some (gs.getD (j / 9) gd0, f (j / 9)) := by
      rw [List.getElem?_map, List.getElem?_range hq]
      rfl
    rw [e, nodesC_at _ _ _ _ hx (by omega)] at hu
    have := (hf (j / 9) hq).2 _ _ hu
    rw [addr_addO]
    rw [show off + j = off + j / 9 * 9 + j % 9 from by omega]
    exact this
  · obtain ⟨i, hi2, rfl⟩ := List.mem_map.1 hx
    exact (hf i (List.mem_range.1 hi2)).1
def shfG (c : Nat) (g : Gd) : Gd := withG g (g.l.map fun k => k + (c : Int))
theorem gn_snoc {gs : List Gd} {ns : List Nd} (h : GN gs ns) {g : Gd} {n : Nd} (h1 : GN1 g n) : GN (gs ++ [g]) (ns ++ [n]) := by
  refine ⟨by rw [List.length_append, List.length_append, h.1]; rfl, fun i hi => ?_⟩
  rw [List.length_append, List.length_singleton] at hi
  have hl := h.1
  rcases Nat.lt_or_ge i gs.length with q | q
  · rw [List.getD_eq_getElem?_getD, List.getElem?_append_left q, List.getD_eq_getElem?_getD, List.getElem?_append_left (by omega), ← List.getD_eq_getElem?_getD, ← List.getD_eq_getElem?_getD]
    exact h.2 i q
  · have e : i = gs.length := by omega
    subst e
    rw [List.getD_eq_getElem?_getD, List.getElem?_append_right (Nat.le_refl _), List.getD_eq_getElem?_getD, List.getElem?_append_right (by omega), Nat.sub_self, hl, Nat.sub_self]
    exact h1
theorem gn_app {gs gs' : List Gd} {ns ns' : List Nd} (h : GN gs ns) (h' : GN gs' ns') : GN (gs ++ gs') (ns ++ ns') := by
  refine ⟨by rw [List.length_append, List.length_append, h.1, h'.1], fun i hi => ?_⟩
  rw [List.length_append] at hi
  have hl := h.1
  rcases Nat.lt_or_ge i gs.length with q | q
  · rw [List.getD_eq_getElem?_getD, List.getElem?_append_left q, List.getD_eq_getElem?_getD, List.getElem?_append_left (by omega), ← List.getD_eq_getElem?_getD, ← List.getD_eq_getElem?_getD]
    exact h.2 i q
  · rw [List.getD_eq_getElem?_getD, List.getElem?_append_right q, List.getD_eq_getElem?_getD, List.getElem?_append_right (by omega), ← List.getD_eq_getElem?_getD, ← List.getD_eq_getElem?_getD, hl]
    exact h'.2 _ (by omega)
theorem gn_shf {gs : List Gd} {ns : List Nd} (h : GN gs ns) (c : Nat) : GN (gs.map (shfG c)) (ns.map (shN c)) := by
  refine ⟨by rw [List.length_map, List.length_map]; exact h.1, fun i hi => ?_⟩
  rw [List.length_map] at hi
  have hi2 : i < ns.length := by rw [← h.1]; exact hi
  have h1 := h.2 i hi
  rw [List.getD_eq_getElem?_getD, List.getElem?_eq_getElem hi, List.getD_eq_getElem?_getD, List.getElem?_eq_getElem hi2] at h1
  rw [List.getD_eq_getElem?_getD, List.getElem?_map, List.getElem?_eq_getElem hi, List.getD_eq_getElem?_getD, List.getElem?_map, List.getElem?_eq_getElem hi2]
  refine ⟨h1.op, h1.s, ?_, h1.lo, h1.hi, h1.nm⟩
  show (gs[i].l.map fun k => k + (c : Int)) = (ns[i].l.map fun k => k + c).map fun k : Nat => (k : Int)
  have hl : gs[i].l = ns[i].l.map fun k : Nat => (k : Int) := h1.l
  rw [hl, List.map_map, List.map_map]
  apply List.map_congr_left
  intro k _
  simp
theorem gn_kid {gs : List Gd} {ns : List Nd} (hg : GN gs ns) (ht : TreeN ns) {i : Nat} (hi : i < gs.length) {j : Nat} (hj : j < (gs.getD i gd0).l.length) : 0 ≤ (gs.getD i gd0).l.getD j 0 ∧ (gs.getD i gd0).l.getD j 0 < 1024 := by
  have h1 := hg.2 i hi
  have hi2 : i < ns.length := by rw [← hg.1]; exact hi
  have h2 := ht.low i ns[i] (List.getElem?_eq_getElem hi2)
  have hf := ht.few
  rw [h1.l] at hj ⊢
  rw [List.length_map] at hj
  have e : ns.getD i nd0 = ns[i] := by rw [List.getD_eq_getElem?_getD, List.getElem?_eq_getElem hi2]; rfl
  rw [e] at hj ⊢
  rw [List.getD_eq_getElem?_getD, List.getElem?_map, List.getElem?_eq_getElem hj]
  have := h2.2 _ (List.getElem_mem hj)
  show 0 ≤ ((ns[i].l[j] : Nat) : Int) ∧ ((ns[i].l[j] : Nat) : Int) < 1024
  omega
/-- Both so far: the first nodes, and i of the others. -/
structure PrS (w : World) (gx gy : List Gd) (i : Nat) (ov : Value) (l : List NR) (wr : World) : Prop where
  own : wr.ownsRow w.heap.size 43 9 ov l.length (nodesC l)
  map : l.map (·.1) = gx ++ (gy.take i).map (shfG gx.length)
  kid : ∀ x ∈ l, Its wr w.heap.size x.2.1 x.1.l ∨ wr.ownsRow w.heap.size 3 1 (.slice x.2.1 x.1.l.length x.2.2) x.1.l.length (ints x.1.l)
  bel : Below w.heap.size w wr
theorem PrS.len {w : World} {gx gy : List Gd} {i : Nat} {ov : Value} {l : List NR} {wr : World} (h : PrS w gx gy i ov l wr) (hi : i ≤ gy.length) : l.length = gx.length + i := by
  have := congrArg List.length h.map
  rw [List.length_map, List.length_append, List.length_map, List.length_take] at this
  omega
theorem PrS.its {w : World} {gx gy : List Gd} {i : Nat} {ov : Value} {l : List NR} {wr : World} (h : PrS w gx gy i ov l wr) : ∀ x ∈ l, Its wr wr.heap.size x.2.1 x.1.l := fun x hx => by
  rcases h.kid x hx with q | q
  · exact q.more h.bel.size
  · exact its_own q rfl
/-- The first nodes, copied. -/
theorem PrS.first {w w' : World} {gx gy : List Gd} {v : Value} {l : List NR} (hm : l.map (·.1) = gx) (hI : ∀ x ∈ l, Its w w.heap.size x.2.1 x.1.l) (ho : w'.ownsRow w.heap.size 43 9 v l.length (nodesC l)) (hb : Below w.heap.size w w') : PrS w gx gy 0 v l w' :=
  ⟨ho, by rw [hm]; simp, fun x hx => .inl ((hI x hx).below hb), hb⟩
theorem PrS.next {w : World} {gx gy : List Gd} {i : Nat} {ov v' : Value} {l : List NR} {wr u w7 : World} {g : Gd} {A : Option Addr} {c k : Nat} (h : PrS w gx gy i ov l wr) (hi : i < gy.length) (hg : gy.getD i gd0 = g) (hb : Below wr.heap.size wr u)
    (ho : u.ownsRow w.heap.size 3 1 (.slice A g.l.length c) g.l.length (ints (g.l.map fun k => k + (gx.length : Int)))) (hk : l.length = k) (hgr : u.grownBy w7 ov.ownBlock) (h7 : w7.ownsRow w.heap.size 43 9 v' (k + 1) (nodesC l ++ gdL (shfG gx.length g) A c)) : PrS w gx gy (i + 1) v' (l ++ [(shfG gx.length g, A, c)]) w7 := by
  have hown := own_below h.own hb (Nat.le_refl _)
  refine ⟨own_last (k := k) h7 hk, ?_, fun x hx => ?_, ?_⟩
  · rw [List.map_append, h.map, takeG_snoc hi, List.map_append, hg]
    simp
  · rcases List.mem_append.1 hx with q | q
    · rcases h.kid x q with r | r
      · left
        have b2 : Below w.heap.size u w7 := bel_row (Below.refl _ _) (Nat.le_trans h.bel.size hb.size) hgr (fun k hk => (hown.lt k hk).1)
        exact (r.below (hb.mono h.bel.size)).below b2
      · right
        have k1 := own_below r hb (Nat.le_refl _)
        exact own_kept k1 hgr (fun k hk => fun r => own_apart hown k1 (by decide) k hk r)
    · rw [List.mem_singleton] at q
      subst q
      right
      have e : (shfG gx.length g).l.length = g.l.length := by simp [shfG, withG]
      have ho2 : u.ownsRow w.heap.size 3 1 (.slice A (shfG gx.length g).l.length c) (shfG gx.length g).l.length (ints (shfG gx.length g).l) := by rw [e]; exact ho
      exact own_kept ho2 hgr (fun k hk => fun r => own_apart hown ho2 (by decide) k hk r)
  · exact bel_row (h.bel.trans (hb.mono h.bel.size)) (Nat.le_trans h.bel.size hb.size) hgr (fun k hk => (hown.lt k hk).1)
theorem ints_snoc (xs : List Int) (v : Int) : ints xs ++ [.int .i64 v] = ints (xs ++ [v]) := by simp [ints]
theorem takeI_snoc {xs : List Int} {k : Nat} (hk : k < xs.length) : xs.take (k + 1) = xs.take k ++ [xs.getD k 0] := by
  rw [List.take_add_one, List.getElem?_eq_getElem hk, List.getD_eq_getElem?_getD, List.getElem?_eq_getElem hk]
  rfl
/-- One behind a full slice: a new row. -/
theorem wp_append_full {P : Program} {w : World} {o : Oper} {a : Act} {K : Act → World → Prop} {Q : Exit → Act → World → Prop} (s x : Operand) (t : TypeId) (hop : o.op = Op.call { callee := Callee.builtin Builtin.append, args := #[s, x], argTypes := #[t, t] })
    (e : TypeId) (i : TypeInfo) (z : Value) (size bytes : Nat) (h1 : P.underlying t = some (.slice e)) (h2 : P.info? e = some i) (h3 : i.zero = some z) (h4 : i.size = size) (h5 : i.bytes = bytes) (h6 : z.cells.size = size) (h7 : 0 < size)
    (b : Addr) (n : Nat) (olds : List Value) (hs : a.eval s = .slice (some b) n n) (hlo : olds.length = n * size) (holds : ∀ j u, olds[j]? = some u → w.cell? (b.add j) = some u)
    (ad : Addr) (m c : Nat) (news : List Value) (hx : a.eval x = .slice (some ad) m c) (hn : news.length = m * size) (hc : ∀ j u, news[j]? = some u → w.cell? (ad.add j) = some u)
    (hm : 0 < m) (b1 : n + m ≤ maxLen) (b2 : (n + m) * bytes ≤ 140737488355328)
    (hK : ∀ v' w', w'.ownsRow w.heap.size e size v' (n + m) (olds ++ news) → w.grownBy w' none → K (a.put o.dst v') w') : o.wp P a w K Q := by
  obtain ⟨v', w', hrun, r1, r2⟩ := run_append_arg_grows (P := P) w t o.type e i z size bytes h1 h2 h3 h4 h5 h6 h7 b n n olds hlo holds ad m c news hn hc (by omega) b1 b2
  unfold Oper.wp
  simp [execOp, hop, resolve, invoke, builtin, hs, hx, hrun, Result.andThen]
  exact hK v' w' r1 r2
theorem grown_none {w w' : World} (h : w.grownBy w' none) : Below w.heap.size w w' := bel_row (Below.refl _ _) (Nat.le_refl _) h (fun k hk => by cases hk)
theorem pair_nodes {gx gy : List Gd} {ns ms : List Nd} (hx : GN gx ns) (hy : GN gy ms) (tx : TreeN ns) (ty : TreeN ms) (hl : ns.length + ms.length < 1024) {g : Gd} {n : Nd} (h1 : GN1 g n) (hs : shapeB n = true) (hn : n.l = [ns.length - 1, ns.length + ms.length - 1]) : GN (gx ++ gy.map (shfG gx.length) ++ [g]) (ns ++ ms.map (shN ns.length) ++ [n]) ∧ TreeN (ns ++ ms.map (shN ns.length) ++ [n]) :=
  ⟨gn_snoc (gn_app hx (by rw [hx.1]; exact gn_shf hy _)) h1, both_tree tx ty hl hs hn⟩
theorem two_kids {ns ms : List Nd} {k kk : Nat} (h1 : ns.length = k) (h2 : ns.length + ms.length = kk) (p1 : 1 ≤ ns.length) : [(k : Int) - 1, (kk : Int) - 1] = [ns.length - 1, ns.length + ms.length - 1].map fun k : Nat => (k : Int) := by
  show _ = [((ns.length - 1 : Nat) : Int), ((ns.length + ms.length - 1 : Nat) : Int)]
  congr 1
  · omega
  · congr 1
    omega
end Go.Proofs.YtcgondjekpcpgaaDoor.Sy.Ap

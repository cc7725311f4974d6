/- The reference's Fold. -/
import Derived.Test.YtgppanbikfobbaaAz
import Derived.Test.YtgppanbikfobbaaAs
namespace Go.Proofs.Ytgppanbikfobbaa.Sy.Ap
open Go.RowKit
set_option maxRecDepth 100000
set_option linter.unusedVariables false

def foldH (g : Gd) : Gd := setSG g (foldK 123 g.s)
theorem gn_foldH {gs : List Gd} {ns : List Nd} (h : GN gs ns) : GN (gs.map foldH) (foldL ns) := by
  refine ⟨by rw [List.length_map, foldL_len]; exact h.1, fun i hi => ?_⟩
  rw [List.length_map] at hi
  have hi2 : i < ns.length := by rw [← h.1]; exact hi
  have h1 := h.2 i hi
  unfold foldL
  rw [List.getD_eq_getElem?_getD, List.getElem?_eq_getElem hi, List.getD_eq_getElem?_getD, List.getElem?_eq_getElem hi2] at h1
  rw [List.getD_eq_getElem?_getD, List.getElem?_map, List.getElem?_eq_getElem hi, List.getD_eq_getElem?_getD, List.getElem?_map, List.getElem?_eq_getElem hi2]
  exact ⟨h1.op, foldK_congr h1.s, h1.l, h1.lo, h1.hi, h1.nm⟩
structure RfS (w : World) (gs : List Gd) (i : Nat) (ov : Value) (l : List NR) (wr : World) : Prop where
  own : wr.ownsRow w.heap.size 41 9 ov l.length (nodesC l)
  map : l.map (·.1) = (gs.take i).map foldH
  kid : ∀ x ∈ l, wr.ownsRow w.heap.size 3 1 (.slice x.2.1 x.1.l.length x.2.2) x.1.l.length (ints x.1.l)
  bel : Below w.heap.size w wr
theorem RfS.len {w : World} {gs : List Gd} {i : Nat} {ov : Value} {l : List NR} {wr : World} (h : RfS w gs i ov l wr) (hi : i ≤ gs.length) : l.length = i := by
  have := congrArg List.length h.map
  rw [List.length_map, List.length_map, List.length_take] at this
  omega
theorem takeG_snoc {gs : List Gd} {k : Nat} (hk : k < gs.length) : gs.take (k + 1) = gs.take k ++ [gs.getD k gd0] := by
  rw [List.take_add_one, List.getElem?_eq_getElem hk, List.getD_eq_getElem?_getD, List.getElem?_eq_getElem hk]
  rfl
/-- Once more round: u: what the round did far from the row (with the copied list); then the node is appended. -/
theorem RfS.next {w : World} {gs : List Gd} {i : Nat} {ov v' : Value} {l : List NR} {wr u w7 : World} {g : Gd} {A : Option Addr} {c : Nat} (h : RfS w gs i ov l wr) (hi : i < gs.length) (hg : gs.getD i gd0 = g) (hb : Below wr.heap.size wr u)
    (ho : u.ownsRow w.heap.size 3 1 (.slice A g.l.length c) g.l.length (ints g.l)) (hown : u.ownsRow w.heap.size 41 9 ov l.length (nodesC l)) (hgr : u.grownBy w7 ov.ownBlock) (h7 : w7.ownsRow w.heap.size 41 9 v' (i + 1) (nodesC l ++ gdL (foldH g) A c)) : RfS w gs (i + 1) v' (l ++ [(foldH g, A, c)]) w7 := by
  have hl := h.len (Nat.le_of_lt hi)
  refine ⟨own_last (k := i) h7 hl, ?_, fun x hx => ?_, ?_⟩
  · rw [List.map_append, h.map, takeG_snoc hi, List.map_append, hg]
    rfl
  · rcases List.mem_append.1 hx with q | q
    · have k1 := own_below (h.kid x q) hb (Nat.le_refl _)
      exact own_kept k1 hgr (fun k hk => fun r => own_apart hown k1 (by decide) k hk r)
    · rw [List.mem_singleton] at q
      subst q
      exact own_kept ho hgr (fun k hk => fun r => own_apart hown ho (by decide) k hk r)
  · exact bel_row (h.bel.trans (hb.mono h.bel.size)) (Nat.le_trans h.bel.size hb.size) hgr (fun k hk => (hown.lt k hk).1)
set_option maxHeartbeats 1000000 in
theorem rfold_bad (A : Option Addr) (c : Nat) (gs : List Gd) (w : World) (hN : Nds w w.heap.size A gs) (hl : gs.length ≤ 2000) (hsm : Small gs) (hno : ¬ RightG gs) :
    Calls Try.prog 13 #[.slice A gs.length c] w fun e w' => Below w.heap.size w w' ∧ e = .returned (.slice none 0 0) := by
  have hR := refRight_any A c gs w hN hl hsm
  have HNO := hidd hno
  clear hN hsm hno hl
  generalize gs.length = n at *
  go_enter Try.func13, Try.ntmps13
  go_wp2_with fail
  refine hR.mono ?_
  rintro e w2 ⟨z, rfl, hz, hb2⟩
  have hz2 : z = false := by
    cases z with
    | false => rfl
    | true => exact absurd (hz.1 rfl) HNO.out
  subst hz2
  have HB := hidd hb2
  clear hz hb2 hR
  go_wp2
  go_ret
  exact ⟨HB.out, rfl⟩
set_option maxHeartbeats 1000000 in
theorem rfold_ok (A : Option Addr) (c : Nat) (gs : List Gd) (ns : List Nd) (w : World) (hN : Nds w w.heap.size A gs) (hg : GN gs ns) (ht : TreeN ns) :
    Calls Try.prog 13 #[.slice A gs.length c] w fun e w' => Below w.heap.size w w' ∧ ∃ A' c', e = .returned (.slice A' (gs.map foldH).length c') ∧ Nds w' w'.heap.size A' (gs.map foldH) := by
  obtain ⟨i0, hi0, hz0, hz1, hz2⟩ := info_parts node_info
  have hfew := gn_few hg ht
  have hR := refRight_any A c gs w hN (by omega) (gn_sm hg ht)
  have HRG := hidd (tree_rg hg ht)
  have HKD := hidd (gn_kids hg ht)
  clear hg ht
  have HN := hidd hN
  clear hN
  generalize hn : gs.length = n at *
  have HN0 := hidd hn
  clear hn
  go_enter Try.func13, Try.ntmps13
  go_wp2_with fail
  refine hR.mono ?_
  rintro e w1 ⟨z, rfl, hz, b1⟩
  have hz3 : z = true := hz.2 HRG.out
  subst hz3
  have HS0 : Hid (RfS w gs 0 (.slice none 0 0) [] w1) := ⟨World.ownsRow_nil _ _ _ _, rfl, fun x hx => absurd hx List.not_mem_nil, b1⟩
  clear hz b1 hR
  go_wp2
  go_loopw [3, 4] (fun s3 s4 wr => ∃ (i : Nat) (l : List NR), i ≤ n ∧ s4 = .int .i64 (i : Int) ∧ RfS w gs i s3 l wr) (fun _ s4 _ => n - (intOf s4).toNat)
  case atStart => exact ⟨0, [], Nat.zero_le _, rfl, HS0.out⟩
  case round =>
    clear HS0
    obtain ⟨k, l, hk0, rfl, L⟩ := hrel
    have D := L.bel
    have hll := L.len (by rw [HN0.out]; exact hk0)
    obtain ⟨A9, c9, rfl⟩ := own_form L.own
    by_cases hlt : k < n
    · have hlt2 : k < gs.length := by rw [HN0.out]; exact hlt
      obtain ⟨bb, o1, rfl, hb1, A3, c3, I1, r1⟩ := (HN.out.below D).at_ hlt2
      have hgm : gs.getD k gd0 ∈ gs := by
        rw [List.getD_eq_getElem?_getD, List.getElem?_eq_getElem hlt2]
        exact List.getElem_mem hlt2
      have hkd := HKD.out _ hgm
      generalize hgd : gs.getD k gd0 = g at *
      have HGD := hidd hgd
      clear hgd hgm
      have hki : (k : Int) < (n : Int) := by omega
      have hbs := D.size
      have HL := hidd L
      have Z1 := RowA.new wr 41 zeroC
      have hW1 : Below wr.heap.size wr ((wr.alloc (.cells zeroC 41)).setRow wr.heap.size (gdL g A3 c3).toArray) := bel_setRow ((Below.refl _ _).alloc (Nat.le_refl _) _) _ _ (Nat.le_refl _)
      have R1 := Z1.row (gdL g A3 c3).toArray
      go_upto_region 8 with (first
        | refine wpList_load_mid rfl 41 (.tmp 17) rfl bb (o1 + k * 9) rfl (gdL g A3 c3) _ r1 Try.underlying41 rfl (gdL_info g A3 c3) ?_
        | refine wpList_store_row rfl 41 (.tmp 5) (.tmp 18) rfl wr.heap.size (gdL g A3 c3).toArray rfl rfl 41 zeroC Z1 (gdL_infoA g A3 c3) rfl (gdL_one g A3 c3) ?_)
      change RowA ((wr.alloc (.cells zeroC 41)).setRow wr.heap.size (gdL g A3 c3).toArray) _ _ _ at R1
      have B2 := hW1
      generalize (wr.alloc (.cells zeroC 41)).setRow wr.heap.size (gdL g A3 c3).toArray = w2 at *
      have hrs := range_set R1
      have hfo := rfold_any g.s w2
      obtain ⟨q, hq⟩ : ∃ q, wr.heap.size = q := ⟨_, rfl⟩
      rw [hq] at hrs R1 B2
      rw [hq]
      have HQ := hidd hq
      have HR1 := hidd R1
      have HB2 := hidd B2
      have HI1 := hidd I1
      clear Z1 hW1 r1 R1 B2 I1 L D hq
      rw [put_none]
      go_wp2_with (refine wpList_load_mid rfl 38 (.tmp 19) rfl q 1 rfl [.int .u64 (W g.s 0), .int .u64 (W g.s 1), .int .u64 (W g.s 2), .int .u64 (W g.s 3)] _ hrs Try.underlying38 rfl (by kernel_rfl) ?_)
      refine hfo.mono ?_
      rintro e w3 ⟨rfl, b3⟩
      have R3 := HR1.out.below b3 HR1.out.lt
      have B3 := HB2.out.trans (b3.mono (Nat.le_of_lt HR1.out.lt))
      have hth1 : w3.there q 1 4 := there_row R3 (by show 1 + 4 ≤ 9; omega)
      obtain ⟨w4, hw4⟩ : ∃ w4, w4 = w3.setCells q 1 [.int .u64 (W (foldK 123 g.s) 0), .int .u64 (W (foldK 123 g.s) 1), .int .u64 (W (foldK 123 g.s) 2), .int .u64 (W (foldK 123 g.s) 3)] := ⟨_, rfl⟩
      have R4 : RowA w4 q 41 (gdL (foldH g) A3 c3).toArray := by rw [hw4]; exact (((R3.set 1 _).set 2 _).set 3 _).set 4 _
      have B4 : Below q wr w4 := by rw [hw4]; exact bel_cells (Nat.le_refl _) _ _ _ B3
      have HST : Hid (∀ (ops : Array Oper) (rest : List Oper) (op : Oper) (a : Act) (Q : Exit → Act → World → Prop), op.guard = none → op.op = .store 38 (.tmp 22) (.tmp 21) → a.eval (.tmp 22) = .pointer (some ⟨q, 1, none⟩) → a.eval (.tmp 21) = .agg #[.int .u64 (W (foldK 123 g.s) 0), .int .u64 (W (foldK 123 g.s) 1), .int .u64 (W (foldK 123 g.s) 2), .int .u64 (W (foldK 123 g.s) 3)] → wpList Try.prog ops Q rest (a.put op.dst undef) w4 → wpList Try.prog ops Q (op :: rest) a w3) := by
        intro ops rest op a Q h1 h2 h3 h4 h5
        rw [hw4] at h5
        exact wpList_store_mid h1 38 (.tmp 22) (.tmp 21) h2 q 1 #[.int .u64 (W (foldK 123 g.s) 0), .int .u64 (W (foldK 123 g.s) 1), .int .u64 (W (foldK 123 g.s) 2), .int .u64 (W (foldK 123 g.s) 3)] h3 h4 hth1 (by kernel_rfl) (by simp [Value.oneCell']) h5
      clear hfo hrs hth1 hw4 R3 B3 b3 HR1 HB2
      go_upto_region 9 with (refine HST.out _ _ _ _ _ rfl rfl rfl rfl ?_)
      rw [put_none]
      clear HST
      have B5 : Below q wr (w4.alloc (.cells #[] 3)) := B4.alloc (by have := R4.lt; omega) _
      have R5 := R4.alloc (.cells #[] 3)
      have I5 : Its (w4.alloc (.cells #[] 3)) (w4.alloc (.cells #[] 3)).heap.size A3 g.l := (HI1.out.below (B5.mono (by rw [← HQ.out]; exact hbs))).more (by have := B5.size; omega)
      have hsz5 : w.heap.size ≤ (w4.alloc (.cells #[] 3)).heap.size := by have := B5.size; omega
      have ho5 : (w4.alloc (.cells #[] 3)).ownsRow w.heap.size 3 1 (.slice (some ⟨w4.heap.size, 0, none⟩) 0 0) 0 [] := World.ownsRow_lit w4 #[] 0 (by have := B4.size; omega) (by unfold maxLen; omega) rfl
      obtain ⟨d0, d1, d2, d3, d4, d5, d6, d7, d8⟩ := node_cells R5
      have hq4 : q < w4.heap.size := R4.lt
      have hq5 : q < (w4.alloc (.cells #[] 3)).heap.size := R5.lt
      have f5 : (w4.alloc (.cells #[] 3)).cell? ⟨q, 5, none⟩ = some (.slice A3 g.l.length c3) := d5
      have HR5 := hidd R5
      have HB5 := hidd B5
      have HI5 := hidd I5
      have hqn : q ≠ w4.heap.size := by omega
      clear d0 d1 d2 d3 d4 d5 d6 d7 d8 R4 B4 R5 B5 I5
      go_upto_region 10 with (at_builtin; refine wpList_plain rfl fun K hK => ?_; refine wp_app_its (.tmp 23) (.tmp 25) rfl w.heap.size (.slice (some ⟨w4.heap.size, 0, none⟩) 0 0) rfl ho5 _ _ _ _ rfl rfl HI5.out (by omega) hsz5 ?_; intro kA kc w6 o6 g6 at6; have R6 : RowA w6 q 41 (gdL (foldH g) A3 c3).toArray := (g6.block q HR5.out.lt (fun e => hqn (Option.some.inj e))).trans HR5.out; have ht6 := R6.thawed; obtain ⟨f0, f1, f2, f3, f4, f5, f6, f7, f8⟩ := node_cells R6; refine hK _ _ ?_)
      have b6 : Below q wr w6 := bel_row HB5.out (Nat.le_of_lt HR5.out.lt) g6 (fun k2 hk => by have e : w4.heap.size = k2 := Option.some.inj hk; omega)
      have B7 : Below q wr (w6.setCell ⟨q, 5, none⟩ (.slice kA g.l.length kc)) := bel_set b6 _ _ (Nat.le_refl _)
      have R7 : RowA (w6.setCell ⟨q, 5, none⟩ (.slice kA g.l.length kc)) q 41 (gdL (foldH g) kA kc).toArray := R6.set 5 (.slice kA g.l.length kc)
      have o7 := own_sb (k := 5) o6 (own_neR o6 R6 (by decide)) (.slice kA g.l.length kc)
      clear R6 o6 g6 at6 ht6 f0 f1 f2 f3 f4 f6 f7 f8 b6 HR5 HB5 HI5 hqn ho5 hsz5 f5 hq4 hq5
      generalize w6.setCell ⟨q, 5, none⟩ (.slice kA g.l.length kc) = w7 at *
      obtain ⟨d0, d1, d2, d3, d4, d5, d6, d7, d8⟩ := node_cells R7
      have x0 : w7.cell? ⟨q, 0, none⟩ = some (.int .u8 g.op) := d0
      have x1 : w7.cell? ⟨q, 1, none⟩ = some (.int .u64 (W (foldK 123 g.s) 0)) := d1
      have x2 : w7.cell? ⟨q, 2, none⟩ = some (.int .u64 (W (foldK 123 g.s) 1)) := d2
      have x3 : w7.cell? ⟨q, 3, none⟩ = some (.int .u64 (W (foldK 123 g.s) 2)) := d3
      have x4 : w7.cell? ⟨q, 4, none⟩ = some (.int .u64 (W (foldK 123 g.s) 3)) := d4
      have x5 : w7.cell? ⟨q, 5, none⟩ = some (.slice kA g.l.length kc) := d5
      have x6 : w7.cell? ⟨q, 6, none⟩ = some (.int .i64 g.lo) := d6
      have x7 : w7.cell? ⟨q, 7, none⟩ = some (.int .i64 g.hi) := d7
      have x8 : w7.cell? ⟨q, 8, none⟩ = some (.string g.nm) := d8
      clear d0 d1 d2 d3 d4 d5 d6 d7 d8
      rw [← HQ.out] at B7
      have hsz7 : w.heap.size ≤ w7.heap.size := Nat.le_trans hbs B7.size
      have ho8 := own_below HL.out.own B7 (Nat.le_refl _)
      rw [hll] at ho8
      have hown := ho8.alloc (.cells #[.int .u8 g.op, .int .u64 (W (foldK 123 g.s) 0), .int .u64 (W (foldK 123 g.s) 1), .int .u64 (W (foldK 123 g.s) 2), .int .u64 (W (foldK 123 g.s) 3), .slice kA g.l.length kc, .int .i64 g.lo, .int .i64 g.hi, .string g.nm] 41)
      have HBA := hidd (B7.alloc B7.size (.cells #[.int .u8 g.op, .int .u64 (W (foldK 123 g.s) 0), .int .u64 (W (foldK 123 g.s) 1), .int .u64 (W (foldK 123 g.s) 2), .int .u64 (W (foldK 123 g.s) 3), .slice kA g.l.length kc, .int .i64 g.lo, .int .i64 g.hi, .string g.nm] 41))
      have HO7 := hidd (o7.alloc (.cells #[.int .u8 g.op, .int .u64 (W (foldK 123 g.s) 0), .int .u64 (W (foldK 123 g.s) 1), .int .u64 (W (foldK 123 g.s) 2), .int .u64 (W (foldK 123 g.s) 3), .slice kA g.l.length kc, .int .i64 g.lo, .int .i64 g.hi, .string g.nm] 41))
      have hnews : ∀ j u, ([.int .u8 g.op, .int .u64 (W (foldK 123 g.s) 0), .int .u64 (W (foldK 123 g.s) 1), .int .u64 (W (foldK 123 g.s) 2), .int .u64 (W (foldK 123 g.s) 3), .slice kA g.l.length kc, .int .i64 g.lo, .int .i64 g.hi, .string g.nm] : List Value)[j]? = some u → (w7.alloc (.cells #[.int .u8 g.op, .int .u64 (W (foldK 123 g.s) 0), .int .u64 (W (foldK 123 g.s) 1), .int .u64 (W (foldK 123 g.s) 2), .int .u64 (W (foldK 123 g.s) 3), .slice kA g.l.length kc, .int .i64 g.lo, .int .i64 g.hi, .string g.nm] 41)).cell? ((⟨w7.heap.size, 0, none⟩ : Addr).add j) = some u := World.news_of_block (RowA.new w7 41 #[.int .u8 g.op, .int .u64 (W (foldK 123 g.s) 0), .int .u64 (W (foldK 123 g.s) 1), .int .u64 (W (foldK 123 g.s) 2), .int .u64 (W (foldK 123 g.s) 3), .slice kA g.l.length kc, .int .i64 g.lo, .int .i64 g.hi, .string g.nm])
      have hH : (w7.alloc (.cells #[.int .u8 g.op, .int .u64 (W (foldK 123 g.s) 0), .int .u64 (W (foldK 123 g.s) 1), .int .u64 (W (foldK 123 g.s) 2), .int .u64 (W (foldK 123 g.s) 3), .slice kA g.l.length kc, .int .i64 g.lo, .int .i64 g.hi, .string g.nm] 41)).heap.size = w7.heap.size + 1 := World.size_alloc ..
      have hbase : w.heap.size ≤ (w7.alloc (.cells #[.int .u8 g.op, .int .u64 (W (foldK 123 g.s) 0), .int .u64 (W (foldK 123 g.s) 1), .int .u64 (W (foldK 123 g.s) 2), .int .u64 (W (foldK 123 g.s) 3), .slice kA g.l.length kc, .int .i64 g.lo, .int .i64 g.hi, .string g.nm] 41)).heap.size := by rw [hH]; omega
      have HLL := hidd hll
      clear B7 R7 o7 ho8 hll
      go_wp2_with (at_builtin; refine wpList_append_lies _ rfl _ _ _ rfl w.heap.size 41 i0 (.agg zeroC) 9 96 Try.underlying22 hi0 hz0 hz1 hz2 rfl (by omega) _ k (nodesC l) rfl hown ⟨w7.heap.size, 0, none⟩ 1 1 [.int .u8 g.op, .int .u64 (W (foldK 123 g.s) 0), .int .u64 (W (foldK 123 g.s) 1), .int .u64 (W (foldK 123 g.s) 2), .int .u64 (W (foldK 123 g.s) 3), .slice kA g.l.length kc, .int .i64 g.lo, .int .i64 g.hi, .string g.nm] rfl rfl hnews (by simp [Value.oneCell']) (by omega) (by simp only [maxLen]; omega) (by omega) hbase (w7.heap.size + 1) hH ?_; intro g8 cap8 w8 hown8 hgrow hat hlt8; refine Hid.out ?_)
      have HR : Hid (RfS w gs (k + 1) (.slice (some ⟨g8, 0, none⟩) (k + 1) cap8) (l ++ [(foldH g, kA, kc)]) w8) :=
        HL.out.next hlt2 HGD.out HBA.out HO7.out (by rw [HLL.out]; exact hown) (by rw [HLL.out]; exact hgrow) hown8
      clear hown hown8 hgrow hat hlt8 hnews hH hbase HBA HO7 x0 x1 x2 x3 x4 x5 x6 x7 x8
      refine Lib.hid ?_
      go_wp2
      exact ⟨⟨k + 1, _, by omega, rfl, HR.out⟩, by simp [intOf]; omega⟩
    · have hke : k = n := by omega
      subst hke
      have hmap : l.map (·.1) = gs.map foldH := by rw [L.map, List.take_of_length_le (by rw [HN0.out]; exact Nat.le_refl _)]
      obtain ⟨A2, c2, hv, hND, hcap⟩ := own_nds L.own (fun x hx => its_own (L.kid x hx) rfl)
      rw [hmap] at hND
      have hlm : (gs.map foldH).length = l.length := by rw [← hmap, List.length_map]
      have HND := hidd hND
      have HLM := hidd hlm
      have HBE := hidd D
      cases hv
      clear L D hND hlm hmap hcap
      go_wp2
      go_ret
      exact ⟨HBE.out, _, _, by rw [HLM.out]; rfl, HND.out⟩
end Go.Proofs.Ytgppanbikfobbaa.Sy.Ap

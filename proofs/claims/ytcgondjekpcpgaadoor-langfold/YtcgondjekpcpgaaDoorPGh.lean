/- Where two trees in a row, or either, and a repetition of one may end. -/
import Derived.Test.YtcgondjekpcpgaaDoorPM3
import Derived.Test.YtcgondjekpcpgaaDoorPGc
import Derived.Test.YtcgondjekpcpgaaDoorPBf
namespace Go.Proofs.YtcgondjekpcpgaaDoor.Sy.Lg.En
open Go.RowKit
set_option maxRecDepth 100000
set_option linter.unusedVariables false

/-- Two trees and a node over both roots. -/
def bothN (ns ms : List Nd) (n : Nd) : List Nd := ns ++ ms.map (shN ns.length) ++ [n]
theorem bothN_len (ns ms : List Nd) (n : Nd) : (bothN ns ms n).length = ns.length + ms.length + 1 := by simp [bothN]; omega
theorem bothN_root (ns ms : List Nd) (n : Nd) : (bothN ns ms n)[(bothN ns ms n).length - 1]? = some n := by
  rw [bothN_len]
  unfold bothN
  rw [List.getElem?_append_right (by simp)]
  simp
theorem both_mt1 {ns ms : List Nd} {n : Nd} (hx : TreeN ns) (hT : Low (bothN ns ms n)) (t : List Nat) (i j : Nat) : Mt (bothN ns ms n) t (ns.length - 1) i j ↔ Mt ns t (ns.length - 1) i j := by
  have hp := hx.pos
  have e : bothN ns ms n = ns ++ (ms.map (shN ns.length) ++ [n]) := by simp [bothN]
  rw [e] at hT ⊢
  exact Mt_more hT hx.low t _ (by omega) i j
theorem both_mt2 {ns ms : List Nd} {n : Nd} (hx : TreeN ns) (hy : TreeN ms) (hT : Low (bothN ns ms n)) (t : List Nat) (i j : Nat) : Mt (bothN ns ms n) t (ns.length + ms.length - 1) i j ↔ Mt ms t (ms.length - 1) i j := by
  have hp := hy.pos
  have e : ns.length + ms.length - 1 = ms.length - 1 + ns.length := by omega
  rw [e]
  refine Mt_shift hT hy.low t ns.length (fun k m hk => ?_) (ms.length - 1) (by omega) i j
  have hkl : k < ms.length := (List.getElem?_eq_some_iff.1 hk).1
  refine ⟨shN ns.length m, ?_, rfl, rfl, rfl, rfl, rfl⟩
  unfold bothN
  rw [List.getElem?_append_left (by simp; omega), List.getElem?_append_right (by omega), Nat.add_sub_cancel, List.getElem?_map, hk]
  rfl
theorem both_cat {ns ms : List Nd} {n : Nd} (hx : TreeN ns) (hy : TreeN ms) (hT : Low (bothN ns ms n)) (ho : n.op = 3) (hn : n.l = [ns.length - 1, ns.length + ms.length - 1]) (t : List Nat) (i j : Nat) :
    Mt (bothN ns ms n) t ((bothN ns ms n).length - 1) i j ↔ ∃ m, Mt ns t (ns.length - 1) i m ∧ Mt ms t (ms.length - 1) m j := by
  rw [Mt_eq hT t _ (bothN_root ns ms n)]
  unfold node1
  rw [ho, hn]
  rw [if_neg (by decide), if_pos rfl]
  constructor
  · rintro ⟨m, h1, m2, h2, h3⟩
    have h3 : m2 = j := h3
    subst h3
    exact ⟨m, (both_mt1 hx hT t i m).1 h1, (both_mt2 hx hy hT t m m2).1 h2⟩
  · rintro ⟨m, h1, h2⟩
    exact ⟨m, (both_mt1 hx hT t i m).2 h1, j, (both_mt2 hx hy hT t m j).2 h2, rfl⟩
theorem both_alt {ns ms : List Nd} {n : Nd} (hx : TreeN ns) (hy : TreeN ms) (hT : Low (bothN ns ms n)) (ho : n.op = 4) (hn : n.l = [ns.length - 1, ns.length + ms.length - 1]) (t : List Nat) (i j : Nat) :
    Mt (bothN ns ms n) t ((bothN ns ms n).length - 1) i j ↔ Mt ns t (ns.length - 1) i j ∨ Mt ms t (ms.length - 1) i j := by
  rw [Mt_eq hT t _ (bothN_root ns ms n)]
  unfold node1
  rw [ho, hn, if_neg (by decide), if_neg (by decide), if_pos rfl]
  constructor
  · rintro ⟨k, hk, h⟩
    rcases List.mem_cons.1 hk with rfl | hk
    · exact .inl ((both_mt1 hx hT t i j).1 h)
    · rw [List.mem_singleton] at hk
      subst hk
      exact .inr ((both_mt2 hx hy hT t i j).1 h)
  · rintro (h | h)
    · exact ⟨_, by simp, (both_mt1 hx hT t i j).2 h⟩
    · exact ⟨_, by simp, (both_mt2 hx hy hT t i j).2 h⟩
theorem one_rep {ns : List Nd} {n : Nd} (hx : TreeN ns) (hT : Low (ns ++ [n])) (ho : n.op = 5) (hn : n.l = [ns.length - 1]) (t : List Nat) (i j : Nat) :
    Mt (ns ++ [n]) t ((ns ++ [n]).length - 1) i j ↔ repR (Mt ns t (ns.length - 1)) n.lo n.hi i j := by
  have hp := hx.pos
  have hr : (ns ++ [n])[(ns ++ [n]).length - 1]? = some n := by simp
  rw [Mt_eq hT t _ hr]
  unfold node1
  rw [ho, hn, if_neg (by decide), if_neg (by decide), if_neg (by decide), if_pos rfl]
  exact repR_congr (fun a b => Mt_more hT hx.low t (ns.length - 1) (by omega) a b) _ _ i j
end Go.Proofs.YtcgondjekpcpgaaDoor.Sy.Lg.En

namespace Go.Proofs.YtcgondjekpcpgaaDoor.Sy.Lg.En
open Go.RowKit Go.Proofs.YtcgondjekpcpgaaDoor.Sy.Ap Go.Proofs.YtcgondjekpcpgaaDoor.Sy.Ap.Wk
set_option maxRecDepth 100000
set_option linter.unusedVariables false

theorem cell_alloc2 {w : World} {b : Nat} (o : Obj) (hb : b < w.heap.size) (k : Nat) : (w.alloc o).cell? ⟨b, k, none⟩ = w.cell? ⟨b, k, none⟩ := ((Below.refl w.heap.size w).alloc (Nat.le_refl _) o).cell hb
theorem pr_last {w : World} {gx gy : List Gd} {i : Nat} {ov v' : Value} {l : List NR} {wr u w7 : World} {g : Gd} {A : Option Addr} {c k : Nat} (h : PrS w gx gy i ov l wr) (hb : Below wr.heap.size wr u)
    (ho : u.ownsRow w.heap.size 3 1 (.slice A g.l.length c) g.l.length (ints g.l)) (hk : l.length = k) (hgr : u.grownBy w7 ov.ownBlock) (h7 : w7.ownsRow w.heap.size 43 9 v' (k + 1) (nodesC l ++ gdL g A c)) : Below w.heap.size w w7 ∧ ∃ A' c', v' = .slice A' (k + 1) c' ∧ Nds w7 w7.heap.size A' (l.map (·.1) ++ [g]) := by
  have hown := own_below h.own hb (Nat.le_refl _)
  have b7 : Below w.heap.size w w7 := bel_row (h.bel.trans (hb.mono h.bel.size)) (Nat.le_trans h.bel.size hb.size) hgr (fun k hk => (hown.lt k hk).1)
  obtain ⟨A', c', hv, hN, hc⟩ := own_nds (own_last (x := (g, A, c)) h7 hk) (fun y hy => by
    rcases List.mem_append.1 hy with q | q
    · rcases h.kid y q with r | r
      · have b2 : Below w.heap.size u w7 := bel_row (Below.refl _ _) (Nat.le_trans h.bel.size hb.size) hgr (fun k hk => (hown.lt k hk).1)
        exact ((r.below (hb.mono h.bel.size)).below b2).more b7.size
      · have k1 := own_below r hb (Nat.le_refl _)
        exact its_own (own_kept k1 hgr (fun k hk => fun r => own_apart hown k1 (by decide) k hk r)) rfl
    · rw [List.mem_singleton] at q
      subst q
      exact its_own (own_kept ho hgr (fun k hk => fun r => own_apart hown ho (by decide) k hk r)) rfl)
  refine ⟨b7, A', c', ?_, ?_⟩
  · rw [hv, List.length_append, List.length_singleton, hk]
  · rw [List.map_append] at hN
    exact hN
theorem catC2 (op : Int) (a b : Int) (q : Nat) : gdL (catG op [a, b]) (some ⟨q, 0, none⟩) 2 = [.int .u8 op, .int .u64 0, .int .u64 0, .int .u64 0, .int .u64 0, .slice (some ⟨q, 0, none⟩) 2 2, .int .i64 0, .int .i64 0, .string { data := #[] }] := by
  simp only [gdL, catG, W_zero, List.length_cons, List.length_nil, Nat.zero_add, Nat.reduceAdd]
set_option maxHeartbeats 4000000 in
theorem pair_any (op : Int) (p0 : 0 ≤ op) (p1 : op ≤ 255) (A : Option Addr) (c : Nat) (gx : List Gd) (A2 : Option Addr) (c2 : Nat) (gy : List Gd) (ns ms : List Nd) (w : World) (NX : Nds w w.heap.size A gx) (NY : Nds w w.heap.size A2 gy) (hgx : GN gx ns) (htx : TreeN ns) (hgy : GN gy ms) (hty : TreeN ms) (hk2 : gx.length ≤ 100) (hj2 : gy.length ≤ 100) :
    Calls Tryd.prog 22 #[.int .u8 op, .slice A gx.length c, .slice A2 gy.length c2] w fun e w' => Below w.heap.size w w' ∧ ∃ A' c', e = .returned (.slice A' (gx.length + gy.length + 1) c') ∧ Nds w' w'.heap.size A' (gx ++ gy.map (shfG gx.length) ++ [catG op [(gx.length : Int) - 1, ((gx.length + gy.length : Nat) : Int) - 1]]) := by
  obtain ⟨i0, hi0, hz0, hz1, hz2⟩ := info_parts node_info
  obtain ⟨j0, hj0i, hy0, hy1, hy2⟩ := info_parts int_info
  have HGX := hidd hgx
  have HTX := hidd htx
  have HGY := hidd hgy
  have HTY := hidd hty
  clear hgx htx hgy hty
  obtain ⟨k, hk⟩ : ∃ k, gx.length = k := ⟨_, rfl⟩
  have HK := hidd hk
  obtain ⟨k2, hk'⟩ : ∃ k2, gy.length = k2 := ⟨_, rfl⟩
  have HK2 := hidd hk'
  rw [hk] at hk2
  rw [hk'] at hj2
  rw [hk, hk']
  clear hk hk'
  have hk0 : (0 : Int) ≤ (k : Int) := by omega
  have hj0 : (0 : Int) ≤ (k2 : Int) := by omega
  have hpos : 0 < k := by have := HTX.out.pos; have := HGX.out.1; have := HK.out; omega
  have hpos2 : 0 < k2 := by have := HTY.out.pos; have := HGY.out.1; have := HK2.out; omega
  go_enter Tryd.func22, Tryd.ntmps22
  obtain ⟨bx, ox, lx, rfl, hbx, hmapx, hcx, hix⟩ := nds_cells NX (fun q => by have := HK.out; rw [q] at this; simp at this; omega)
  have hlx : lx.length = k := by have := congrArg List.length hmapx; rw [List.length_map] at this; rw [this]; exact HK.out
  have hown := World.ownsRow_lit (e := 43) (size := 9) w #[] 0 (Nat.le_refl _) (by unfold maxLen; omega) rfl
  have hbA : Below w.heap.size w (w.alloc (.cells #[] 43)) := (Below.refl _ _).alloc (Nat.le_refl _) _
  have hH : (w.alloc (.cells #[] 43)).heap.size = w.heap.size + 1 := World.size_alloc ..
  have hbase : w.heap.size ≤ (w.alloc (.cells #[] 43)).heap.size := by rw [hH]; omega
  have hnews : ∀ j u, (nodesC lx)[j]? = some u → (w.alloc (.cells #[] 43)).cell? ((⟨bx, ox, none⟩ : Addr).add j) = some u := fun j u hu => by
    rw [addr_addO, cell_alloc2 _ hbx, ← addr_addO]
    exact hcx j u hu
  have hlen9 : (nodesC lx).length = k * 9 := by rw [nodesC_len, hlx]
  have HIX := hidd hix
  have HCX := hidd hcx
  have HLX := hidd hlx
  have HMX := hidd hmapx
  have HNY := hidd NY
  clear NX NY hix hcx hlx hmapx
  go_upto_region 2 with (at_builtin; refine wpList_append_lies _ rfl _ _ _ rfl w.heap.size 43 i0 (.agg zeroC) 9 96 Tryd.underlying22 hi0 hz0 hz1 hz2 rfl (by omega) _ 0 [] rfl hown ⟨bx, ox, none⟩ k c (nodesC lx) rfl hlen9 hnews (nodesC_one lx) hpos (by simp only [maxLen]; omega) (by omega) hbase (w.heap.size + 1) hH ?_; intro g7 cap7 w7 hown7 hgrow hat hlt7; rw [Nat.zero_add] at hown7; rw [Nat.zero_add]; refine Hid.out ?_)
  have HS0 : Hid (PrS w gx gy 0 (.slice (some ⟨g7, 0, none⟩) k cap7) lx w7) := PrS.first HMX.out HIX.out (by rw [HLX.out]; exact hown7) (bel_row hbA hbase hgrow (fun q hq => by cases hq; exact Nat.le_refl _))
  clear hown hbA hH hbase hnews hlen9 hown7 hgrow hat hlt7
  refine Lib.hid ?_
  go_wp2
  go_loopw [7, 18] (fun s7 s18 wr => ∃ (i : Nat) (l : List NR), i ≤ k2 ∧ s18 = .int .i64 (i : Int) ∧ PrS w gx gy i s7 l wr) (fun _ s18 _ => k2 - (intOf s18).toNat)
  case atStart => exact ⟨0, _, Nat.zero_le _, rfl, HS0.out⟩
  case round =>
    clear HS0
    obtain ⟨i, l, hi0', rfl, L⟩ := hrel
    have D := L.bel
    have hll := L.len (by rw [HK2.out]; exact hi0')
    rw [HK.out] at hll
    by_cases hlt : i < k2
    · obtain ⟨A9, c9, rfl⟩ := own_form L.own
      have hlt2 : i < gy.length := by rw [HK2.out]; exact hlt
      obtain ⟨bb, o1, rfl, hb1, A3, c3, I1, r1⟩ := (HNY.out.below D).at_ hlt2
      have HKV : Hid (∀ j, j < (gy.getD i gd0).l.length → 0 ≤ (gy.getD i gd0).l.getD j 0 ∧ (gy.getD i gd0).l.getD j 0 < 1024) := fun j hj => gn_kid HGY.out HTY.out hlt2 hj
      have hgm : gy.getD i gd0 ∈ gy := by
        rw [List.getD_eq_getElem?_getD, List.getElem?_eq_getElem hlt2]
        exact List.getElem_mem hlt2
      have hkd := gn_kids HGY.out HTY.out _ hgm
      generalize hgd : gy.getD i gd0 = g at *
      have HGD := hidd hgd
      clear hgd hgm
      generalize hml : g.l.length = mm at *
      have HML := hidd hml
      have hrow : gdL g A3 c3 = [.int .u8 g.op, .int .u64 (W g.s 0), .int .u64 (W g.s 1), .int .u64 (W g.s 2), .int .u64 (W g.s 3), .slice A3 mm c3, .int .i64 g.lo, .int .i64 g.hi, .string g.nm] := by unfold gdL; rw [hml]
      have HROW := hidd hrow
      clear hml hrow
      have hki2 : (i : Int) < (k2 : Int) := by omega
      have hbs := D.size
      have HL := hidd L
      have Z1 := RowA.new wr 43 zeroC
      have hW1 : Below wr.heap.size wr ((wr.alloc (.cells zeroC 43)).setRow wr.heap.size (gdL g A3 c3).toArray) := bel_setRow ((Below.refl _ _).alloc (Nat.le_refl _) _) _ _ (Nat.le_refl _)
      have R1 := Z1.row (gdL g A3 c3).toArray
      go_upto_region 5 with (first
        | refine wpList_load_mid rfl 43 (.tmp 20) rfl bb (o1 + i * 9) rfl (gdL g A3 c3) _ r1 Tryd.underlying43 rfl (gdL_info g A3 c3) ?_
        | refine wpList_store_row rfl 43 (.tmp 9) (.tmp 21) rfl wr.heap.size (gdL g A3 c3).toArray rfl rfl 43 zeroC Z1 (gdL_infoA g A3 c3) rfl (gdL_one g A3 c3) ?_)
      change RowA ((wr.alloc (.cells zeroC 43)).setRow wr.heap.size (gdL g A3 c3).toArray) _ _ _ at R1
      have B2 := hW1
      generalize (wr.alloc (.cells zeroC 43)).setRow wr.heap.size (gdL g A3 c3).toArray = w2' at *
      obtain ⟨q, hq⟩ : ∃ q, wr.heap.size = q := ⟨_, rfl⟩
      rw [hq] at R1 B2
      rw [hq]
      have HQ := hidd hq
      have I2 := (I1.below (B2.mono (by omega))).more (Nat.le_trans (by omega) B2.size)
      have hrow := HROW.out
      rw [hrow] at R1
      have HR1 := hidd R1
      have HB2 := hidd B2
      have HI2 := hidd I2
      have hqs : q < w2'.heap.size := R1.lt
      have x5 : w2'.cell? ⟨q, 5, none⟩ = some (.slice A3 mm c3) := R1.at_ rfl
      have hsz2 : w.heap.size ≤ w2'.heap.size := by have := B2.size; omega
      clear Z1 hW1 r1 R1 B2 I1 I2 L D hq hrow
      rw [put_none]
      obtain ⟨w0, hw0⟩ : ∃ w0, w0 = wr := ⟨_, rfl⟩
      subst hw0
      have HO0 : Hid (w2'.ownsRow w2'.heap.size 3 1 (.slice none 0 0) 0 (ints ((g.l.take 0).map fun x => x + (k : Int)))) := World.ownsRow_nil _ _ _ _
      go_wp2
      go_loopw [10, 25] (fun s10 s25 ur => ∃ j : Nat, j ≤ mm ∧ s25 = .int .i64 (j : Int) ∧ ur.ownsRow w2'.heap.size 3 1 s10 j (ints ((g.l.take j).map fun x => x + (k : Int))) ∧ Below w2'.heap.size w2' ur) (fun _ s25 _ => mm - (intOf s25).toNat)
      case atStart => exact ⟨0, Nat.zero_le _, rfl, HO0.out, Below.refl _ _⟩
      case round =>
        clear HO0
        obtain ⟨j, hj0', rfl, o1', D2⟩ := hrel
        obtain ⟨A13, c13, rfl⟩ := own_form o1'
        by_cases hjt : j < mm
        · have hjt2 : j < g.l.length := by rw [HML.out]; exact hjt
          obtain ⟨gk, ok, rfl, hgk, hcell⟩ := (HI2.out.below D2).at_ hjt2
          have hv := HKV.out j hjt
          have htk := takeI_snoc hjt2
          generalize g.l.getD j 0 = v at *
          have HTK := hidd htk
          clear htk
          have hjji : (j : Int) < (mm : Int) := by omega
          have hown := o1'.alloc (.cells #[.int .i64 (v + (k : Int))] 3)
          have hnews := int_news wr (v + (k : Int))
          have hH : (wr.alloc (.cells #[.int .i64 (v + (k : Int))] 3)).heap.size = wr.heap.size + 1 := World.size_alloc ..
          have hds := D2.size
          have hbase : w2'.heap.size ≤ (wr.alloc (.cells #[.int .i64 (v + (k : Int))] 3)).heap.size := by rw [hH]; omega
          have HDA := hidd (D2.alloc D2.size (.cells #[.int .i64 (v + (k : Int))] 3))
          clear D2
          go_wp2_with (at_builtin; refine wpList_append_lies _ rfl _ _ _ rfl w2'.heap.size 3 j0 (.int .i64 0) 1 8 Tryd.underlying30 hj0i hy0 hy1 hy2 rfl (by omega) _ j (ints ((g.l.take j).map fun x => x + (k : Int))) rfl hown ⟨wr.heap.size, 0, none⟩ 1 1 [.int .i64 (v + (k : Int))] rfl rfl hnews (by simp [Value.oneCell']) (by omega) (by simp only [maxLen]; omega) (by omega) hbase (wr.heap.size + 1) hH ?_; intro g5 cap5 w5' hown5 hgrow hat hlt5; refine Hid.out ?_)
          have HO5 : Hid (w5'.ownsRow w2'.heap.size 3 1 (.slice (some ⟨g5, 0, none⟩) (j + 1) cap5) (j + 1) (ints ((g.l.take (j + 1)).map fun x => x + (k : Int)))) := by
            rw [HTK.out, List.map_append, List.map_cons, List.map_nil, ← ints_snoc]
            exact hown5
          have HD5 := hidd (bel_row HDA.out hbase hgrow (fun q hq => (hown.lt q hq).1))
          clear hown hnews hH hbase hown5 hgrow hat hlt5 HDA o1'
          refine Lib.hid ?_
          go_wp2
          exact ⟨⟨j + 1, by omega, rfl, HO5.out, HD5.out⟩, by simp [intOf]; omega⟩
        · have hje : j = mm := by omega
          subst hje
          have hta : g.l.take j = g.l := List.take_of_length_le (by rw [HML.out]; exact Nat.le_refl _)
          rw [hta] at o1'
          have R3 := HR1.out.below D2 hqs
          have hds := D2.size
          have hth3 := R3.thawed
          have R4 : RowA (wr.setCell ⟨q, 5, none⟩ (.slice A13 j c13)) q 43 #[.int .u8 g.op, .int .u64 (W g.s 0), .int .u64 (W g.s 1), .int .u64 (W g.s 2), .int .u64 (W g.s 3), .slice A13 j c13, .int .i64 g.lo, .int .i64 g.hi, .string g.nm] := R3.set 5 (.slice A13 j c13)
          have B3 : Below q w0 wr := HB2.out.trans (D2.mono (Nat.le_of_lt hqs))
          have B4 : Below q w0 (wr.setCell ⟨q, 5, none⟩ (.slice A13 j c13)) := bel_set B3 _ _ (Nat.le_refl _)
          have o4 := own_sb (k := 5) o1' (own_neR o1' R3 (by decide)) (.slice A13 j c13)
          have c5 : wr.cell? ⟨q, 5, none⟩ = some (.slice A3 j c3) := R3.at_ rfl
          clear R3 B3 o1' hta D2
          go_upto_region 12 with fail
          generalize wr.setCell ⟨q, 5, none⟩ (.slice A13 j c13) = w4' at *
          clear c5 hth3 x5
          have y0 : w4'.cell? ⟨q, 0, none⟩ = some (.int .u8 g.op) := R4.at_ rfl
          have y1 : w4'.cell? ⟨q, 1, none⟩ = some (.int .u64 (W g.s 0)) := R4.at_ rfl
          have y2 : w4'.cell? ⟨q, 2, none⟩ = some (.int .u64 (W g.s 1)) := R4.at_ rfl
          have y3 : w4'.cell? ⟨q, 3, none⟩ = some (.int .u64 (W g.s 2)) := R4.at_ rfl
          have y4 : w4'.cell? ⟨q, 4, none⟩ = some (.int .u64 (W g.s 3)) := R4.at_ rfl
          have y5 : w4'.cell? ⟨q, 5, none⟩ = some (.slice A13 j c13) := R4.at_ rfl
          have y6 : w4'.cell? ⟨q, 6, none⟩ = some (.int .i64 g.lo) := R4.at_ rfl
          have y7 : w4'.cell? ⟨q, 7, none⟩ = some (.int .i64 g.hi) := R4.at_ rfl
          have y8 : w4'.cell? ⟨q, 8, none⟩ = some (.string g.nm) := R4.at_ rfl
          rw [← HQ.out] at B4
          have hsz7 : w.heap.size ≤ w4'.heap.size := Nat.le_trans hbs B4.size
          have ho8 := own_below HL.out.own B4 (Nat.le_refl _)
          rw [hll] at ho8
          have hown := ho8.alloc (.cells #[.int .u8 g.op, .int .u64 (W g.s 0), .int .u64 (W g.s 1), .int .u64 (W g.s 2), .int .u64 (W g.s 3), .slice A13 j c13, .int .i64 g.lo, .int .i64 g.hi, .string g.nm] 43)
          have HBA := hidd (B4.alloc B4.size (.cells #[.int .u8 g.op, .int .u64 (W g.s 0), .int .u64 (W g.s 1), .int .u64 (W g.s 2), .int .u64 (W g.s 3), .slice A13 j c13, .int .i64 g.lo, .int .i64 g.hi, .string g.nm] 43))
          have HO4 := hidd ((own_less o4 hsz2).alloc (.cells #[.int .u8 g.op, .int .u64 (W g.s 0), .int .u64 (W g.s 1), .int .u64 (W g.s 2), .int .u64 (W g.s 3), .slice A13 j c13, .int .i64 g.lo, .int .i64 g.hi, .string g.nm] 43))
          have hnews : ∀ j' u, ([.int .u8 g.op, .int .u64 (W g.s 0), .int .u64 (W g.s 1), .int .u64 (W g.s 2), .int .u64 (W g.s 3), .slice A13 j c13, .int .i64 g.lo, .int .i64 g.hi, .string g.nm] : List Value)[j']? = some u → (w4'.alloc (.cells #[.int .u8 g.op, .int .u64 (W g.s 0), .int .u64 (W g.s 1), .int .u64 (W g.s 2), .int .u64 (W g.s 3), .slice A13 j c13, .int .i64 g.lo, .int .i64 g.hi, .string g.nm] 43)).cell? ((⟨w4'.heap.size, 0, none⟩ : Addr).add j') = some u := World.news_of_block (RowA.new w4' 43 #[.int .u8 g.op, .int .u64 (W g.s 0), .int .u64 (W g.s 1), .int .u64 (W g.s 2), .int .u64 (W g.s 3), .slice A13 j c13, .int .i64 g.lo, .int .i64 g.hi, .string g.nm])
          have hH : (w4'.alloc (.cells #[.int .u8 g.op, .int .u64 (W g.s 0), .int .u64 (W g.s 1), .int .u64 (W g.s 2), .int .u64 (W g.s 3), .slice A13 j c13, .int .i64 g.lo, .int .i64 g.hi, .string g.nm] 43)).heap.size = w4'.heap.size + 1 := World.size_alloc ..
          have hbase : w.heap.size ≤ (w4'.alloc (.cells #[.int .u8 g.op, .int .u64 (W g.s 0), .int .u64 (W g.s 1), .int .u64 (W g.s 2), .int .u64 (W g.s 3), .slice A13 j c13, .int .i64 g.lo, .int .i64 g.hi, .string g.nm] 43)).heap.size := by rw [hH]; omega
          have HLL := hidd hll
          clear B4 R4 o4 ho8 hll
          go_wp2_with (at_builtin; refine wpList_append_lies _ rfl _ _ _ rfl w.heap.size 43 i0 (.agg zeroC) 9 96 Tryd.underlying22 hi0 hz0 hz1 hz2 rfl (by omega) _ (k + i) (nodesC l) rfl hown ⟨w4'.heap.size, 0, none⟩ 1 1 [.int .u8 g.op, .int .u64 (W g.s 0), .int .u64 (W g.s 1), .int .u64 (W g.s 2), .int .u64 (W g.s 3), .slice A13 j c13, .int .i64 g.lo, .int .i64 g.hi, .string g.nm] rfl rfl hnews (by simp [Value.oneCell']) (by omega) (by simp only [maxLen]; omega) (by omega) hbase (w4'.heap.size + 1) hH ?_; intro g8 cap8 w8 hown8 hgrow hat hlt8; refine Hid.out ?_)
          have HR : Hid (PrS w gx gy (i + 1) (.slice (some ⟨g8, 0, none⟩) (k + i + 1) cap8) (l ++ [(shfG gx.length g, A13, c13)]) w8) := by
            refine HL.out.next (k := k + i) hlt2 HGD.out HBA.out ?_ HLL.out (by rw [HLL.out]; exact hgrow) ?_
            · rw [HML.out, HK.out]; exact HO4.out
            · have e : gdL (shfG gx.length g) A13 c13 = [.int .u8 g.op, .int .u64 (W g.s 0), .int .u64 (W g.s 1), .int .u64 (W g.s 2), .int .u64 (W g.s 3), .slice A13 j c13, .int .i64 g.lo, .int .i64 g.hi, .string g.nm] := by
                unfold gdL shfG withG
                simp only [List.length_map]
                rw [HML.out]
              rw [e]
              exact hown8
          clear hown hown8 hgrow hat hlt8 hnews hH hbase HBA HO4 y0 y1 y2 y3 y4 y5 y6 y7 y8
          refine Lib.hid ?_
          go_wp2
          exact ⟨⟨i + 1, _, by omega, rfl, HR.out⟩, by simp [intOf]; omega⟩
    · have hie : k2 = i := by omega
      subst hie
      have hmap := L.map
      rw [List.take_of_length_le (by rw [HK2.out]; exact Nat.le_refl _)] at hmap
      have HL := hidd L
      have HMP := hidd hmap
      have hbs := D.size
      obtain ⟨kk, hkk⟩ : ∃ kk, kk = k + k2 := ⟨_, rfl⟩
      have HKK := hidd hkk
      rw [← hkk] at hll
      obtain ⟨g9, c9, hv9, _, hg9⟩ := own_pos L.own (by rw [hll]; omega)
      have hown9 := L.own
      rw [hv9, hll] at hown9
      have HV9 := hidd hv9
      rw [hll] at hv9
      subst hv9
      have HLL := hidd hll
      have hkks : kk ≤ 200 := by omega
      have hkkp : 0 < kk := by omega
      clear hkk hll D L hmap
      have hown := (hown9.alloc (.cells #[.int .i64 ((k : Int) - 1), .int .i64 ((kk : Int) - 1)] 3)).alloc (.cells #[.int .u8 op, .int .u64 0, .int .u64 0, .int .u64 0, .int .u64 0, .slice (some ⟨wr.heap.size, 0, none⟩) 2 2, .int .i64 0, .int .i64 0, .string { data := #[] }] 43)
      have bA : Below wr.heap.size wr (wr.alloc (.cells #[.int .i64 ((k : Int) - 1), .int .i64 ((kk : Int) - 1)] 3)) := (Below.refl _ _).alloc (Nat.le_refl _) _
      have iA := World.ownsRow_lit (e := 3) (size := 1) wr #[.int .i64 ((k : Int) - 1), .int .i64 ((kk : Int) - 1)] 2 (Nat.le_refl _) (by unfold maxLen; omega) rfl
      have hs1 : (wr.alloc (.cells #[.int .i64 ((k : Int) - 1), .int .i64 ((kk : Int) - 1)] 3)).heap.size = wr.heap.size + 1 := World.size_alloc ..
      have iA2 := iA.alloc (.cells #[.int .u8 op, .int .u64 0, .int .u64 0, .int .u64 0, .int .u64 0, .slice (some ⟨wr.heap.size, 0, none⟩) 2 2, .int .i64 0, .int .i64 0, .string { data := #[] }] 43)
      have bA2 := bA.alloc bA.size (.cells #[.int .u8 op, .int .u64 0, .int .u64 0, .int .u64 0, .int .u64 0, .slice (some ⟨wr.heap.size, 0, none⟩) 2 2, .int .i64 0, .int .i64 0, .string { data := #[] }] 43)
      have HIA := hidd iA2
      have HBA := hidd bA2
      have hnews := World.news_of_block (RowA.new (wr.alloc (.cells #[.int .i64 ((k : Int) - 1), .int .i64 ((kk : Int) - 1)] 3)) 43 #[.int .u8 op, .int .u64 0, .int .u64 0, .int .u64 0, .int .u64 0, .slice (some ⟨wr.heap.size, 0, none⟩) 2 2, .int .i64 0, .int .i64 0, .string { data := #[] }])
      have hH : ((wr.alloc (.cells #[.int .i64 ((k : Int) - 1), .int .i64 ((kk : Int) - 1)] 3)).alloc (.cells #[.int .u8 op, .int .u64 0, .int .u64 0, .int .u64 0, .int .u64 0, .slice (some ⟨wr.heap.size, 0, none⟩) 2 2, .int .i64 0, .int .i64 0, .string { data := #[] }] 43)).heap.size = (wr.alloc (.cells #[.int .i64 ((k : Int) - 1), .int .i64 ((kk : Int) - 1)] 3)).heap.size + 1 := World.size_alloc ..
      have hbase : w.heap.size ≤ ((wr.alloc (.cells #[.int .i64 ((k : Int) - 1), .int .i64 ((kk : Int) - 1)] 3)).alloc (.cells #[.int .u8 op, .int .u64 0, .int .u64 0, .int .u64 0, .int .u64 0, .slice (some ⟨wr.heap.size, 0, none⟩) 2 2, .int .i64 0, .int .i64 0, .string { data := #[] }] 43)).heap.size := by rw [hH, hs1]; omega
      rw [hs1] at hnews hH
      clear iA iA2 bA bA2 hown9
      go_wp2_with (at_builtin; refine wpList_append_lies _ rfl _ _ _ rfl w.heap.size 43 i0 (.agg zeroC) 9 96 Tryd.underlying22 hi0 hz0 hz1 hz2 rfl (by omega) _ kk (nodesC l) rfl hown ⟨wr.heap.size + 1, 0, none⟩ 1 1 [.int .u8 op, .int .u64 0, .int .u64 0, .int .u64 0, .int .u64 0, .slice (some ⟨wr.heap.size, 0, none⟩) 2 2, .int .i64 0, .int .i64 0, .string { data := #[] }] rfl rfl hnews (by simp [Value.oneCell']) (by omega) (by simp only [maxLen]; omega) (by omega) hbase _ hH ?_; intro g8 cap8 w8 hown8 hgrow hat hlt8; refine Hid.out ?_)
      have hfin := pr_last (g := catG op [(k : Int) - 1, (kk : Int) - 1]) (A := some ⟨wr.heap.size, 0, none⟩) (c := 2) (k := kk) HL.out HBA.out (own_base HIA.out hbs) HLL.out hgrow (by rw [catC2]; exact hown8)
      have HF : Hid (Below w.heap.size w w8 ∧ ∃ A' c', Value.slice (some ⟨g8, 0, none⟩) (kk + 1) cap8 = .slice A' (k + k2 + 1) c' ∧ Nds w8 w8.heap.size A' (gx ++ gy.map (shfG k) ++ [catG op [(k : Int) - 1, ((k + k2 : Nat) : Int) - 1]])) := by
        obtain ⟨b8, A8, c8, hv8, hN8⟩ := hfin
        rw [HMP.out, HK.out, HKK.out] at hN8
        rw [HKK.out] at hv8 ⊢
        exact ⟨b8, A8, c8, hv8, hN8⟩
      clear hfin hown hown8 hgrow hat hlt8 hnews hH hbase HBA HIA
      refine Lib.hid ?_
      go_wp2
      go_ret
      obtain ⟨b8, A8, c8, hv8, hN8⟩ := HF.out
      exact ⟨b8, A8, c8, congrArg _ hv8, hN8⟩
end Go.Proofs.YtcgondjekpcpgaaDoor.Sy.Lg.En

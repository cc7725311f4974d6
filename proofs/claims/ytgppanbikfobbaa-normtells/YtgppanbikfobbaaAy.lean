/- The landed Nullable: a node by its kids; the tree. -/
import Derived.Test.YtgppanbikfobbaaAx
namespace Go.Proofs.Ytgppanbikfobbaa.Sy.Ap
open Go.RowKit
set_option maxRecDepth 100000
set_option linter.unusedVariables false

theorem all_any (l : List Nat) (f : Nat → Bool) : (!(l.any fun k => !(f k))) = l.all f := by
  rw [List.all_eq_not_any_not]
set_option maxHeartbeats 1000000 in
theorem may_any (g : Gd) (n : Nd) (A : Option Addr) (c b N : Nat) (m : List Bool) (w : World) (hI : Its w w.heap.size A g.l) (hg : GN1 g n) (hs : shapeB n = true) (hr : RowF w b 4 N (fun i => .bool (m.getD i false))) (hk : ∀ k ∈ n.l, k < N) (hN : N ≤ 1000000) (hl : n.l.length ≤ 1000000) :
    Calls Try.prog 27 #[.agg (gdL g A c).toArray, .slice (some ⟨b, 0, none⟩) N N] w fun e w' => e = .returned (.bool (may1 n m)) ∧ Below w.heap.size w w' := by
  have hmf : ∀ (fn : Fn) (first cap : Array Value) (w : World), (Instr.makeFunc fn first cap).run Try.prog w = .ok (.func fn first cap) w := fun _ _ _ _ => rfl
  have hop := hg.op
  have hll : g.l = n.l.map fun k : Nat => (k : Int) := hg.l
  have hlen : g.l.length = n.l.length := by rw [hll, List.length_map]
  have hlo := hg.lo
  obtain ⟨W2, hW2⟩ : ∃ W2, W2 = (w.alloc (.cells (gdL g A c).toArray 41)).alloc (.cells #[.slice (some ⟨b, 0, none⟩) N N] 51) := ⟨_, rfl⟩
  have hb : Below w.heap.size w W2 := by rw [hW2]; exact ((Below.refl _ _).alloc (Nat.le_refl _) _).alloc (by simp) _
  have R : RowA W2 w.heap.size 41 (gdL g A c).toArray := by rw [hW2]; exact (RowA.new _ _ _).alloc _
  have hq : W2.cell? ⟨w.heap.size + 1, 0, none⟩ = some (.slice (some ⟨b, 0, none⟩) N N) := by
    rw [hW2]
    have := RowA.new (w.alloc (.cells (gdL g A c).toArray 41)) 51 #[.slice (some ⟨b, 0, none⟩) N N]
    rw [World.size_alloc] at this
    exact this.at_ rfl
  have hr2 := hr.below hb hr.lt
  have hI2 : Its W2 W2.heap.size A (n.l.map fun k : Nat => (k : Int)) := by rw [← hll]; exact (hI.below hb).more hb.size
  have h1 := has1_any A c n.l (.pointer (some ⟨w.heap.size + 1, 0, none⟩)) (fun k => !(m.getD k false)) W2 hI2 hl (fun kid hkid => cl1_any kid (w.heap.size + 1) b N (fun i => m.getD i false) W2 hq hr2 (hk kid hkid) hN)
  have h2 := has2_any A c n.l (.pointer (some ⟨w.heap.size + 1, 0, none⟩)) (fun k => m.getD k false) W2 hI2 hl (fun kid hkid => cl2_any kid (w.heap.size + 1) b N (fun i => m.getD i false) W2 hq hr2 (hk kid hkid) hN)
  obtain ⟨d0, d1, d2, d3, d4, d5, d6, d7, d8⟩ := node_cells R
  rw [hop] at d0
  rw [hlo] at d6
  rw [hlen] at d5
  have HB := hidd hb
  have HI2 := hidd hI2
  have HR2 := hidd hr2
  have HS := hidd hs
  have HK := hidd hk
  have HW2 := hidd hW2
  clear hI hg hs hr hk hl hb R hr2 hI2 hop hll hlen hlo hW2
  go_enter Try.func27, Try.ntmps27
  go_upto_region 1 with fail
  rw [← HW2.out]
  clear HW2
  have hopb : ∀ k : Nat, n.op ≠ k → (((n.op : Nat) : Int) == ((k : Nat) : Int)) = false := fun k h => beq_eq_false_iff_ne.2 (by omega)
  by_cases o1 : n.op = 1
  · rw [o1] at d0
    have HM : Hid (may1 n m = true) := by show _ = _; unfold may1; rw [if_pos o1]
    clear h1 h2 hopb
    go_wp2
    go_ret
    exact ⟨by rw [HM.out]; rfl, HB.out⟩
  have n1 := hopb 1 o1
  by_cases o3 : n.op = 3
  · rw [o3] at d0
    have HM : Hid (may1 n m = (!(n.l.any fun k => !(m.getD k false)))) := by show _ = _; rw [all_any]; unfold may1; rw [if_neg o1, if_pos o3]
    clear h2 hopb n1
    generalize n.l.any (fun k => !(m.getD k false)) = z at *
    go_wp2_with fail
    refine h1.mono ?_
    rintro e w1 ⟨rfl, rfl⟩
    clear h1
    go_wp2
    go_ret
    exact ⟨by rw [HM.out]; rfl, HB.out⟩
  have n3 := hopb 3 o3
  by_cases o4 : n.op = 4
  · rw [o4] at d0
    have HM : Hid (may1 n m = (n.l.any fun k => m.getD k false)) := by show _ = _; unfold may1; rw [if_neg o1, if_neg o3, if_pos o4]
    clear h1 hopb n1 n3
    generalize n.l.any (fun k => m.getD k false) = z at *
    go_wp2_with fail
    refine h2.mono ?_
    rintro e w1 ⟨rfl, rfl⟩
    clear h2
    go_wp2
    go_ret
    exact ⟨by rw [HM.out]; rfl, HB.out⟩
  have n4 := hopb 4 o4
  by_cases o5 : n.op = 5
  · rw [o5] at d0
    have hl1 := shp_rep HS.out o5
    have HM : Hid (may1 n m = (n.lo == 0 || m.getD (n.l.getD 0 0) false)) := by show _ = _; unfold may1; rw [if_neg o1, if_neg o3, if_neg o4, if_pos o5]
    obtain ⟨gk, ok, rfl, hgk, hcell⟩ := its_nat HI2.out (k := 0) (by omega)
    have hkd := HK.out (n.l.getD 0 0) (by rw [List.getD_eq_getElem?_getD, List.getElem?_eq_getElem (by omega : 0 < n.l.length)]; exact List.getElem_mem _)
    have hrow := HR2.out.at_ _ hkd
    rw [hl1] at d5
    rw [Nat.add_zero] at hcell
    clear h1 h2 hopb n1 n3 n4 hl1
    generalize n.l.getD 0 0 = kd at *
    generalize m.getD kd false = mk at *
    have hki : (kd : Int) < (N : Int) := by omega
    by_cases hlo : n.lo = 0
    · have hlb : (n.lo == 0) = true := by rw [hlo]; rfl
      rw [hlo] at d6
      go_upto_region 9 with fail
      go_quiet (fail)
      go_wp2
      go_ret
      exact ⟨by rw [HM.out, hlb]; rfl, bel_drewN HB.out _⟩
    · have hlb : (n.lo == 0) = false := beq_eq_false_iff_ne.2 hlo
      go_upto_region 9 with fail
      go_quiet (fail)
      go_wp2
      go_ret
      exact ⟨by rw [HM.out, hlb]; rfl, bel_drewN HB.out _⟩
  have n5 := hopb 5 o5
  have HM : Hid (may1 n m = false) := by show _ = _; unfold may1; rw [if_neg o1, if_neg o3, if_neg o4, if_neg o5]
  clear h1 h2 hopb
  generalize ((n.op : Nat) : Int) = op at *
  have e1 : (op == 1) = false := n1
  have e3 : (op == 3) = false := n3
  have e4 : (op == 4) = false := n4
  have e5 : (op == 5) = false := n5
  clear n1 n3 n4 n5
  go_wp2
  go_ret
  exact ⟨by rw [HM.out]; rfl, HB.out⟩

theorem low_kids {ns : List Nd} (ht : TreeN ns) {k : Nat} (hk : k < ns.length) : ∀ i ∈ (ns.getD k nd0).l, i < k := fun i hi => by
  have h := (ht.low k ns[k] (List.getElem?_eq_getElem hk)).2
  rw [List.getD_eq_getElem?_getD, List.getElem?_eq_getElem hk] at hi
  exact h i hi
theorem may_step {ns : List Nd} {k : Nat} (hk : k < ns.length) (i : Nat) : (if i = k then may1 (ns.getD k nd0) (mayL (ns.take k)) else (mayL (ns.take k)).getD i false) = (mayL (ns.take (k + 1))).getD i false := by
  have e : ns.take (k + 1) = ns.take k ++ [ns.getD k nd0] := by
    rw [List.take_add_one, List.getElem?_eq_getElem hk, List.getD_eq_getElem?_getD, List.getElem?_eq_getElem hk]
    rfl
  have hl : (mayL (ns.take k)).length = k := by rw [mayL_len', List.length_take]; omega
  rw [e, mayL_snoc]
  generalize may1 (ns.getD k nd0) (mayL (ns.take k)) = z
  generalize mayL (ns.take k) = M at *
  by_cases h : i = k
  · rw [if_pos h, h, List.getD_eq_getElem?_getD, List.getElem?_append_right (by omega), hl, Nat.sub_self]
    rfl
  · rw [if_neg h]
    rcases Nat.lt_or_ge i k with q | q
    · rw [List.getD_eq_getElem?_getD, List.getD_eq_getElem?_getD, List.getElem?_append_left (by omega)]
    · rw [List.getD_eq_getElem?_getD, List.getElem?_eq_none (by omega), List.getD_eq_getElem?_getD, List.getElem?_eq_none (by rw [List.length_append]; simp; omega)]
theorem bool_info6 : (Try.prog.info? 4).map (fun i => (i.zero, i.size, i.bytes)) = some (some (.bool false), 1, 1) := by kernel_rfl
theorem make_bools6 (n : Nat) (hn : n ≤ 1000000) (w : World) : (Instr.makeSlice 51 (.int .i64 (n : Int)) (.int .i64 (n : Int))).run Try.prog w =
    .ok (.slice (some ⟨w.heap.size, 0, none⟩) n n) (w.alloc (.cells (fnC n (fun _ => .bool false)) 4)) := by
  obtain ⟨i0, hi0, hz0, hz1, hz2⟩ := info_parts bool_info6
  have := run_make (P := Try.prog) w 51 4 i0 _ Try.underlying51 hi0 hz0 .i64 .i64 (n : Int) (n : Int) (by omega) (Int.le_refl _) (by rw [hz2]; omega) (by omega)
  rw [this, hz1, Int.toNat_natCast, made_one _ rfl]
def NulR (w : World) (b : Bool) (e : Ending) (w' : World) : Prop := e = .returned (.bool b) ∧ Below w.heap.size w w'
set_option maxHeartbeats 1000000 in
theorem null_bad (A : Option Addr) (c : Nat) (gs : List Gd) (w : World) (hN : Nds w w.heap.size A gs) (hl : gs.length ≤ 2000) (hsm : Small gs) (hno : ¬ RightG gs) :
    Calls Try.prog 14 #[.slice A gs.length c] w fun e w' => NulR w false e w' := by
  have hR := right_any A c gs w hN hl hsm
  have HNO := hidd hno
  clear hN hsm hno hl
  generalize gs.length = n at *
  go_enter Try.func14, Try.ntmps14
  go_wp2_with fail
  refine hR.mono ?_
  rintro e w2 ⟨z, rfl, hz, hb2⟩
  have hz2 : z = false := by
    cases z with
    | false => rfl
    | true => exact absurd (hz.1 rfl) HNO.out
  subst hz2
  have HB := hidd hb2
  clear hz hb2 hR
  go_wp2
  go_ret
  exact ⟨rfl, HB.out⟩
structure MyS (w : World) (b n : Nat) (ns : List Nd) (k : Nat) (wr : World) : Prop where
  row : RowF wr b 4 n (fun i => .bool ((mayL (ns.take k)).getD i false))
  bel : Below w.heap.size w wr
  base : w.heap.size ≤ b
set_option maxHeartbeats 2000000 in
theorem null_ok (A : Option Addr) (c : Nat) (gs : List Gd) (ns : List Nd) (w : World) (hN : Nds w w.heap.size A gs) (hg : GN gs ns) (ht : TreeN ns) :
    Calls Try.prog 14 #[.slice A gs.length c] w fun e w' => NulR w (nulN ns) e w' := by
  have hsm := gn_sm hg ht
  have hfew := gn_few hg ht
  have hR := right_any A c gs w hN (by omega) hsm
  have HRG := hidd (tree_rg hg ht)
  have HKD := hidd (gn_kids hg ht)
  have HGN := hidd hg
  have HT := hidd ht
  have hmk := make_bools6 gs.length (by omega)
  have hpos : 1 ≤ gs.length := by rw [hg.1]; exact ht.pos
  clear hsm hg ht
  have HN := hidd hN
  clear hN
  generalize hn : gs.length = n at *
  have HN0 := hidd hn
  clear hn
  go_enter Try.func14, Try.ntmps14
  go_wp2_with fail
  refine hR.mono ?_
  rintro e w1 ⟨z, rfl, hz, b1⟩
  have hz2 : z = true := hz.2 HRG.out
  subst hz2
  have HS0 : Hid (MyS w w1.heap.size n ns 0 (w1.alloc (.cells (fnC n (fun _ => .bool false)) 4))) :=
    ⟨RowF.new _ _ _ _, b1.alloc b1.size _, b1.size⟩
  clear hz b1 hR
  go_wp2
  go_loopw [14] (fun s14 wr => ∃ k : Nat, k ≤ n ∧ s14 = .int .i64 (k : Int) ∧ MyS w w1.heap.size n ns k wr) (fun s14 _ => n - (intOf s14).toNat)
  case atStart => exact ⟨0, Nat.zero_le _, rfl, HS0.out⟩
  case round =>
    clear HS0
    obtain ⟨k, hk0, rfl, L⟩ := hrel
    have D := L.bel
    by_cases hlt : k < n
    · have hlt2 : k < gs.length := by rw [HN0.out]; exact hlt
      have hltn : k < ns.length := by rw [← HGN.out.1]; exact hlt2
      obtain ⟨bb, o1, rfl, hb1, A3, c3, I1, r1⟩ := (HN.out.below D).at_ hlt2
      have hgm : gs.getD k gd0 ∈ gs := by
        rw [List.getD_eq_getElem?_getD, List.getElem?_eq_getElem hlt2]
        exact List.getElem_mem hlt2
      have hkd := HKD.out _ hgm
      have hg1 := HGN.out.2 k hlt2
      have hsh : shapeB (ns.getD k nd0) = true := HT.out.shp _ (by rw [List.getD_eq_getElem?_getD, List.getElem?_eq_getElem hltn]; exact List.getElem_mem hltn)
      have hlow := low_kids HT.out hltn
      have HST : Hid (∀ i, (if i = k then may1 (ns.getD k nd0) (mayL (ns.take k)) else (mayL (ns.take k)).getD i false) = (mayL (ns.take (k + 1))).getD i false) := may_step hltn
      generalize ns.getD k nd0 = nd at *
      generalize gs.getD k gd0 = g at *
      clear hgm
      have hki : (k : Int) < (n : Int) := by omega
      have hbs := D.size
      have HL := hidd L
      have Z1 := RowA.new wr 41 zeroC
      have hW1 : Below wr.heap.size wr ((wr.alloc (.cells zeroC 41)).setRow wr.heap.size (gdL g A3 c3).toArray) := bel_setRow ((Below.refl _ _).alloc (Nat.le_refl _) _) _ _ (Nat.le_refl _)
      have R1 := Z1.row (gdL g A3 c3).toArray
      go_upto_region 7 with (first
        | refine wpList_load_mid rfl 41 (.tmp 17) rfl bb (o1 + k * 9) rfl (gdL g A3 c3) _ r1 Try.underlying41 rfl (gdL_info g A3 c3) ?_
        | refine wpList_store_row rfl 41 (.tmp 5) (.tmp 18) rfl wr.heap.size (gdL g A3 c3).toArray rfl rfl 41 zeroC Z1 (gdL_infoA g A3 c3) rfl (gdL_one g A3 c3) ?_)
      have HW1 := hidd hW1
      have hI1 : Its ((wr.alloc (.cells zeroC 41)).setRow wr.heap.size (gdL g A3 c3).toArray) ((wr.alloc (.cells zeroC 41)).setRow wr.heap.size (gdL g A3 c3).toArray).heap.size A3 g.l := (I1.below (hW1.mono D.size)).more (Nat.le_trans D.size hW1.size)
      change RowA ((wr.alloc (.cells zeroC 41)).setRow wr.heap.size (gdL g A3 c3).toArray) _ _ _ at R1
      generalize (wr.alloc (.cells zeroC 41)).setRow wr.heap.size (gdL g A3 c3).toArray = w2 at *
      have hrow2 := HL.out.row.below HW1.out HL.out.row.lt
      have hlen : nd.l.length ≤ 1000000 := by have := hg1.l; rw [this, List.length_map] at hkd; omega
      have hmay := may_any g nd A3 c3 w1.heap.size n (mayL (ns.take k)) w2 hI1 hg1 hsh hrow2 (fun i hi => by have := hlow i hi; omega) (by omega) hlen
      have hrg := range_row R1
      obtain ⟨cs9, hcs9⟩ : ∃ cs9, cs9 = (gdL g A3 c3).toArray := ⟨_, rfl⟩
      obtain ⟨q, hq⟩ : ∃ q, wr.heap.size = q := ⟨_, rfl⟩
      rw [hq] at hrg
      have hld : ∀ (ops : Array Oper) (rest : List Oper) (op : Oper) (a : Act) (Q : Exit → Act → World → Prop), op.guard = none → op.op = .load 41 (.tmp 5) → a.eval (.tmp 5) = .pointer (some ⟨q, 0, none⟩) → wpList Try.prog ops Q rest (a.put op.dst (.agg cs9)) w2 → wpList Try.prog ops Q (op :: rest) a w2 := by
        intro ops rest op a Q h1 h2 h3 h4
        exact wpList_load_mid h1 41 (.tmp 5) h2 q 0 h3 (gdL g A3 c3) _ hrg Try.underlying41 rfl (gdL_info _ A3 c3) (hcs9 ▸ h4)
      rw [← hcs9] at hmay
      rw [← hcs9, hq]
      have HLD := hidd hld
      clear hld hrg hcs9 R1 hI1 I1 r1 Z1 hW1 L D hg1 hsh hlow hkd hrow2 hlen hq
      go_wp2_with (refine HLD.out _ _ _ _ _ rfl rfl rfl ?_)
      refine hmay.mono ?_
      rintro e w3 ⟨rfl, b3⟩
      have B3 := HW1.out.trans (b3.mono HW1.out.size)
      have R3 := HL.out.row.below B3 HL.out.row.lt
      have ht3 := R3.thawed
      have hc3 := R3.at_ k hlt
      have HF : Hid (MyS w w1.heap.size n ns (k + 1) (w3.setCell ⟨w1.heap.size, k, none⟩ (.bool (may1 nd (mayL (ns.take k)))))) := by
        refine ⟨(R3.put k _).congr (fun i hi => ?_), bel_set (HL.out.bel.trans (B3.mono HL.out.bel.size)) _ _ HL.out.base, HL.out.base⟩
        rw [← HST.out i]
        split <;> rfl
      clear hmay b3 B3 R3 HLD
      go_wp2
      exact ⟨⟨k + 1, by omega, rfl, HF.out⟩, by simp [intOf]; omega⟩
    · have hke : k = n := by omega
      subst hke
      have hlast := L.row.at_ (k - 1) (by omega)
      have HNU : Hid ((mayL (ns.take k)).getD (k - 1) false = nulN ns) := by
        show _ = _
        unfold nulN
        have hl : ns.length = k := by rw [← HGN.out.1]; exact HN0.out
        rw [List.take_of_length_le (by omega), hl]
      have HBE := hidd D
      have e1 : ((k : Int) - 1) = ((k - 1 : Nat) : Int) := by omega
      clear L D
      generalize (mayL (ns.take k)).getD (k - 1) false = z at *
      go_wp2
      go_ret
      exact ⟨by rw [← HNU.out]; rfl, HBE.out⟩
end Go.Proofs.Ytgppanbikfobbaa.Sy.Ap

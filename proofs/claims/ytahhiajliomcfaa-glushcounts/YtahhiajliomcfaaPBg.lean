/- The landed Nullable: a node by its kids; the tree. -/
import Derived.Test.YtahhiajliomcfaaPAx
import Derived.Test.YtahhiajliomcfaaPJn
import Derived.ArgAppend
import Derived.Test.YtahhiajliomcfaaPAn
namespace Go.Proofs.Ytahhiajliomcfaa.Sy.Ap
open Go.RowKit
set_option maxRecDepth 100000
set_option linter.unusedVariables false

theorem all_any (l : List Nat) (f : Nat → Bool) : (!(l.any fun k => !(f k))) = l.all f := by
  rw [List.all_eq_not_any_not]
set_option maxHeartbeats 1000000 in
theorem may_any (g : Gd) (n : Nd) (A : Option Addr) (c b N : Nat) (m : List Bool) (w : World) (hI : Its w w.heap.size A g.l) (hg : GN1 g n) (hs : shapeB n = true) (hr : RowF w b 4 N (fun i => .bool (m.getD i false))) (hk : ∀ k ∈ n.l, k < N) (hN : N ≤ 1000000) (hl : n.l.length ≤ 1000000) :
    Calls Try.prog 73 #[.agg (gdL g A c).toArray, .slice (some ⟨b, 0, none⟩) N N] w fun e w' => e = .returned (.bool (may1 n m)) ∧ Below w.heap.size w w' := by
  have hmf : ∀ (fn : Fn) (first cap : Array Value) (w : World), (Instr.makeFunc fn first cap).run Try.prog w = .ok (.func fn first cap) w := fun _ _ _ _ => rfl
  have hop := hg.op
  have hll : g.l = n.l.map fun k : Nat => (k : Int) := hg.l
  have hlen : g.l.length = n.l.length := by rw [hll, List.length_map]
  have hlo := hg.lo
  obtain ⟨W2, hW2⟩ : ∃ W2, W2 = (w.alloc (.cells (gdL g A c).toArray 42)).alloc (.cells #[.slice (some ⟨b, 0, none⟩) N N] 113) := ⟨_, rfl⟩
  have hb : Below w.heap.size w W2 := by rw [hW2]; exact ((Below.refl _ _).alloc (Nat.le_refl _) _).alloc (by simp) _
  have R : RowA W2 w.heap.size 42 (gdL g A c).toArray := by rw [hW2]; exact (RowA.new _ _ _).alloc _
  have hq : W2.cell? ⟨w.heap.size + 1, 0, none⟩ = some (.slice (some ⟨b, 0, none⟩) N N) := by
    rw [hW2]
    have := RowA.new (w.alloc (.cells (gdL g A c).toArray 42)) 113 #[.slice (some ⟨b, 0, none⟩) N N]
    rw [World.size_alloc] at this
    exact this.at_ rfl
  have hr2 := hr.below hb hr.lt
  have hI2 : Its W2 W2.heap.size A (n.l.map fun k : Nat => (k : Int)) := by rw [← hll]; exact (hI.below hb).more hb.size
  have h1 := has1_any A c n.l (.pointer (some ⟨w.heap.size + 1, 0, none⟩)) (fun k => !(m.getD k false)) W2 hI2 hl (fun kid hkid => cl1_any kid (w.heap.size + 1) b N (fun i => m.getD i false) W2 hq hr2 (hk kid hkid) hN)
  have h2 := has2_any A c n.l (.pointer (some ⟨w.heap.size + 1, 0, none⟩)) (fun k => m.getD k false) W2 hI2 hl (fun kid hkid => cl2_any kid (w.heap.size + 1) b N (fun i => m.getD i false) W2 hq hr2 (hk kid hkid) hN)
  obtain ⟨d0, d1, d2, d3, d4, d5, d6, d7, d8⟩ := node_cells R
  rw [hop] at d0
  rw [hlo] at d6
  rw [hlen] at d5
  have HB := hidd hb
  have HI2 := hidd hI2
  have HR2 := hidd hr2
  have HS := hidd hs
  have HK := hidd hk
  have HW2 := hidd hW2
  clear hI hg hs hr hk hl hb R hr2 hI2 hop hll hlen hlo hW2
  go_enter Try.func73, Try.ntmps73
  go_upto_region 1 with fail
  rw [← HW2.out]
  clear HW2
  have hopb : ∀ k : Nat, n.op ≠ k → (((n.op : Nat) : Int) == ((k : Nat) : Int)) = false := fun k h => beq_eq_false_iff_ne.2 (by omega)
  by_cases o1 : n.op = 1
  · rw [o1] at d0
    have HM : Hid (may1 n m = true) := by show _ = _; unfold may1; rw [if_pos o1]
    clear h1 h2 hopb
    go_wp2
    go_ret
    exact ⟨by rw [HM.out]; rfl, HB.out⟩
  have n1 := hopb 1 o1
  by_cases o3 : n.op = 3
  · rw [o3] at d0
    have HM : Hid (may1 n m = (!(n.l.any fun k => !(m.getD k false)))) := by show _ = _; rw [all_any]; unfold may1; rw [if_neg o1, if_pos o3]
    clear h2 hopb n1
    generalize n.l.any (fun k => !(m.getD k false)) = z at *
    go_wp2_with fail
    refine h1.mono ?_
    rintro e w1 ⟨rfl, rfl⟩
    clear h1
    go_wp2
    go_ret
    exact ⟨by rw [HM.out]; rfl, HB.out⟩
  have n3 := hopb 3 o3
  by_cases o4 : n.op = 4
  · rw [o4] at d0
    have HM : Hid (may1 n m = (n.l.any fun k => m.getD k false)) := by show _ = _; unfold may1; rw [if_neg o1, if_neg o3, if_pos o4]
    clear h1 hopb n1 n3
    generalize n.l.any (fun k => m.getD k false) = z at *
    go_wp2_with fail
    refine h2.mono ?_
    rintro e w1 ⟨rfl, rfl⟩
    clear h2
    go_wp2
    go_ret
    exact ⟨by rw [HM.out]; rfl, HB.out⟩
  have n4 := hopb 4 o4
  by_cases o5 : n.op = 5
  · rw [o5] at d0
    have hl1 := shp_rep HS.out o5
    have HM : Hid (may1 n m = (n.lo == 0 || m.getD (n.l.getD 0 0) false)) := by show _ = _; unfold may1; rw [if_neg o1, if_neg o3, if_neg o4, if_pos o5]
    obtain ⟨gk, ok, rfl, hgk, hcell⟩ := its_nat HI2.out (k := 0) (by omega)
    have hkd := HK.out (n.l.getD 0 0) (by rw [List.getD_eq_getElem?_getD, List.getElem?_eq_getElem (by omega : 0 < n.l.length)]; exact List.getElem_mem _)
    have hrow := HR2.out.at_ _ hkd
    rw [hl1] at d5
    rw [Nat.add_zero] at hcell
    clear h1 h2 hopb n1 n3 n4 hl1
    generalize n.l.getD 0 0 = kd at *
    generalize m.getD kd false = mk at *
    have hki : (kd : Int) < (N : Int) := by omega
    by_cases hlo : n.lo = 0
    · have hlb : (n.lo == 0) = true := by rw [hlo]; rfl
      rw [hlo] at d6
      go_upto_region 9 with fail
      go_quiet (fail)
      go_wp2
      go_ret
      exact ⟨by rw [HM.out, hlb]; rfl, bel_drewN HB.out _⟩
    · have hlb : (n.lo == 0) = false := beq_eq_false_iff_ne.2 hlo
      go_upto_region 9 with fail
      go_quiet (fail)
      go_wp2
      go_ret
      exact ⟨by rw [HM.out, hlb]; rfl, bel_drewN HB.out _⟩
  have n5 := hopb 5 o5
  have HM : Hid (may1 n m = false) := by show _ = _; unfold may1; rw [if_neg o1, if_neg o3, if_neg o4, if_neg o5]
  clear h1 h2 hopb
  generalize ((n.op : Nat) : Int) = op at *
  have e1 : (op == 1) = false := n1
  have e3 : (op == 3) = false := n3
  have e4 : (op == 4) = false := n4
  have e5 : (op == 5) = false := n5
  clear n1 n3 n4 n5
  go_wp2
  go_ret
  exact ⟨by rw [HM.out]; rfl, HB.out⟩

theorem low_kids {ns : List Nd} (ht : TreeN ns) {k : Nat} (hk : k < ns.length) : ∀ i ∈ (ns.getD k nd0).l, i < k := fun i hi => by
  have h := (ht.low k ns[k] (List.getElem?_eq_getElem hk)).2
  rw [List.getD_eq_getElem?_getD, List.getElem?_eq_getElem hk] at hi
  exact h i hi
theorem may_step {ns : List Nd} {k : Nat} (hk : k < ns.length) (i : Nat) : (if i = k then may1 (ns.getD k nd0) (mayL (ns.take k)) else (mayL (ns.take k)).getD i false) = (mayL (ns.take (k + 1))).getD i false := by
  have e : ns.take (k + 1) = ns.take k ++ [ns.getD k nd0] := by
    rw [List.take_add_one, List.getElem?_eq_getElem hk, List.getD_eq_getElem?_getD, List.getElem?_eq_getElem hk]
    rfl
  have hl : (mayL (ns.take k)).length = k := by rw [mayL_len', List.length_take]; omega
  rw [e, mayL_snoc]
  generalize may1 (ns.getD k nd0) (mayL (ns.take k)) = z
  generalize mayL (ns.take k) = M at *
  by_cases h : i = k
  · rw [if_pos h, h, List.getD_eq_getElem?_getD, List.getElem?_append_right (by omega), hl, Nat.sub_self]
    rfl
  · rw [if_neg h]
    rcases Nat.lt_or_ge i k with q | q
    · rw [List.getD_eq_getElem?_getD, List.getD_eq_getElem?_getD, List.getElem?_append_left (by omega)]
    · rw [List.getD_eq_getElem?_getD, List.getElem?_eq_none (by omega), List.getD_eq_getElem?_getD, List.getElem?_eq_none (by rw [List.length_append]; simp; omega)]
theorem bool_info6 : (Try.prog.info? 4).map (fun i => (i.zero, i.size, i.bytes)) = some (some (.bool false), 1, 1) := by kernel_rfl
theorem make_bools6 (n : Nat) (hn : n ≤ 1000000) (w : World) : (Instr.makeSlice 113 (.int .i64 (n : Int)) (.int .i64 (n : Int))).run Try.prog w =
    .ok (.slice (some ⟨w.heap.size, 0, none⟩) n n) (w.alloc (.cells (fnC n (fun _ => .bool false)) 4)) := by
  obtain ⟨i0, hi0, hz0, hz1, hz2⟩ := info_parts bool_info6
  have := run_make (P := Try.prog) w 113 4 i0 _ Try.underlying113 hi0 hz0 .i64 .i64 (n : Int) (n : Int) (by omega) (Int.le_refl _) (by rw [hz2]; omega) (by omega)
  rw [this, hz1, Int.toNat_natCast, made_one _ rfl]
def NulR (w : World) (b : Bool) (e : Ending) (w' : World) : Prop := e = .returned (.bool b) ∧ Below w.heap.size w w'
structure MyS (w : World) (b n : Nat) (ns : List Nd) (k : Nat) (wr : World) : Prop where
  row : RowF wr b 4 n (fun i => .bool ((mayL (ns.take k)).getD i false))
  bel : Below w.heap.size w wr
  base : w.heap.size ≤ b
set_option maxHeartbeats 2000000 in
theorem null_ok (A : Option Addr) (c : Nat) (gs : List Gd) (ns : List Nd) (w : World) (hN : Nds w w.heap.size A gs) (hg : GN gs ns) (ht : TreeN ns) :
    Calls Try.prog 64 #[.slice A gs.length c] w fun e w' => NulR w (nulN ns) e w' := by
  have hsm := gn_sm hg ht
  have hfew := gn_few hg ht
  have hR := right_any A c gs w hN (by omega) hsm
  have HRG := hidd (tree_rg hg ht)
  have HKD := hidd (gn_kids hg ht)
  have HGN := hidd hg
  have HT := hidd ht
  have hmk := make_bools6 gs.length (by omega)
  have hpos : 1 ≤ gs.length := by rw [hg.1]; exact ht.pos
  clear hsm hg ht
  have HN := hidd hN
  clear hN
  generalize hn : gs.length = n at *
  have HN0 := hidd hn
  clear hn
  go_enter Try.func64, Try.ntmps64
  go_wp2_with fail
  refine hR.mono ?_
  rintro e w1 ⟨z, rfl, hz, b1⟩
  have hz2 : z = true := hz.2 HRG.out
  subst hz2
  have HS0 : Hid (MyS w w1.heap.size n ns 0 (w1.alloc (.cells (fnC n (fun _ => .bool false)) 4))) :=
    ⟨RowF.new _ _ _ _, b1.alloc b1.size _, b1.size⟩
  clear hz b1 hR
  go_wp2
  go_loopw [14] (fun s14 wr => ∃ k : Nat, k ≤ n ∧ s14 = .int .i64 (k : Int) ∧ MyS w w1.heap.size n ns k wr) (fun s14 _ => n - (intOf s14).toNat)
  case atStart => exact ⟨0, Nat.zero_le _, rfl, HS0.out⟩
  case round =>
    clear HS0
    obtain ⟨k, hk0, rfl, L⟩ := hrel
    have D := L.bel
    by_cases hlt : k < n
    · have hlt2 : k < gs.length := by rw [HN0.out]; exact hlt
      have hltn : k < ns.length := by rw [← HGN.out.1]; exact hlt2
      obtain ⟨bb, o1, rfl, hb1, A3, c3, I1, r1⟩ := (HN.out.below D).at_ hlt2
      have hgm : gs.getD k gd0 ∈ gs := by
        rw [List.getD_eq_getElem?_getD, List.getElem?_eq_getElem hlt2]
        exact List.getElem_mem hlt2
      have hkd := HKD.out _ hgm
      have hg1 := HGN.out.2 k hlt2
      have hsh : shapeB (ns.getD k nd0) = true := HT.out.shp _ (by rw [List.getD_eq_getElem?_getD, List.getElem?_eq_getElem hltn]; exact List.getElem_mem hltn)
      have hlow := low_kids HT.out hltn
      have HST : Hid (∀ i, (if i = k then may1 (ns.getD k nd0) (mayL (ns.take k)) else (mayL (ns.take k)).getD i false) = (mayL (ns.take (k + 1))).getD i false) := may_step hltn
      generalize ns.getD k nd0 = nd at *
      generalize gs.getD k gd0 = g at *
      clear hgm
      have hki : (k : Int) < (n : Int) := by omega
      have hbs := D.size
      have HL := hidd L
      have Z1 := RowA.new wr 42 zeroC
      have hW1 : Below wr.heap.size wr ((wr.alloc (.cells zeroC 42)).setRow wr.heap.size (gdL g A3 c3).toArray) := bel_setRow ((Below.refl _ _).alloc (Nat.le_refl _) _) _ _ (Nat.le_refl _)
      have R1 := Z1.row (gdL g A3 c3).toArray
      go_upto_region 7 with (first
        | refine wpList_load_mid rfl 42 (.tmp 17) rfl bb (o1 + k * 9) rfl (gdL g A3 c3) _ r1 Try.underlying42 rfl (gdL_info g A3 c3) ?_
        | refine wpList_store_row rfl 42 (.tmp 5) (.tmp 18) rfl wr.heap.size (gdL g A3 c3).toArray rfl rfl 42 zeroC Z1 (gdL_infoA g A3 c3) rfl (gdL_one g A3 c3) ?_)
      have HW1 := hidd hW1
      have hI1 : Its ((wr.alloc (.cells zeroC 42)).setRow wr.heap.size (gdL g A3 c3).toArray) ((wr.alloc (.cells zeroC 42)).setRow wr.heap.size (gdL g A3 c3).toArray).heap.size A3 g.l := (I1.below (hW1.mono D.size)).more (Nat.le_trans D.size hW1.size)
      change RowA ((wr.alloc (.cells zeroC 42)).setRow wr.heap.size (gdL g A3 c3).toArray) _ _ _ at R1
      generalize (wr.alloc (.cells zeroC 42)).setRow wr.heap.size (gdL g A3 c3).toArray = w2 at *
      have hrow2 := HL.out.row.below HW1.out HL.out.row.lt
      have hlen : nd.l.length ≤ 1000000 := by have := hg1.l; rw [this, List.length_map] at hkd; omega
      have hmay := may_any g nd A3 c3 w1.heap.size n (mayL (ns.take k)) w2 hI1 hg1 hsh hrow2 (fun i hi => by have := hlow i hi; omega) (by omega) hlen
      have hrg := range_row R1
      obtain ⟨cs9, hcs9⟩ : ∃ cs9, cs9 = (gdL g A3 c3).toArray := ⟨_, rfl⟩
      obtain ⟨q, hq⟩ : ∃ q, wr.heap.size = q := ⟨_, rfl⟩
      rw [hq] at hrg
      have hld : ∀ (ops : Array Oper) (rest : List Oper) (op : Oper) (a : Act) (Q : Exit → Act → World → Prop), op.guard = none → op.op = .load 42 (.tmp 5) → a.eval (.tmp 5) = .pointer (some ⟨q, 0, none⟩) → wpList Try.prog ops Q rest (a.put op.dst (.agg cs9)) w2 → wpList Try.prog ops Q (op :: rest) a w2 := by
        intro ops rest op a Q h1 h2 h3 h4
        exact wpList_load_mid h1 42 (.tmp 5) h2 q 0 h3 (gdL g A3 c3) _ hrg Try.underlying42 rfl (gdL_info _ A3 c3) (hcs9 ▸ h4)
      rw [← hcs9] at hmay
      rw [← hcs9, hq]
      have HLD := hidd hld
      clear hld hrg hcs9 R1 hI1 I1 r1 Z1 hW1 L D hg1 hsh hlow hkd hrow2 hlen hq
      go_wp2_with (refine HLD.out _ _ _ _ _ rfl rfl rfl ?_)
      refine hmay.mono ?_
      rintro e w3 ⟨rfl, b3⟩
      have B3 := HW1.out.trans (b3.mono HW1.out.size)
      have R3 := HL.out.row.below B3 HL.out.row.lt
      have ht3 := R3.thawed
      have hc3 := R3.at_ k hlt
      have HF : Hid (MyS w w1.heap.size n ns (k + 1) (w3.setCell ⟨w1.heap.size, k, none⟩ (.bool (may1 nd (mayL (ns.take k)))))) := by
        refine ⟨(R3.put k _).congr (fun i hi => ?_), bel_set (HL.out.bel.trans (B3.mono HL.out.bel.size)) _ _ HL.out.base, HL.out.base⟩
        rw [← HST.out i]
        split <;> rfl
      clear hmay b3 B3 R3 HLD
      go_wp2
      exact ⟨⟨k + 1, by omega, rfl, HF.out⟩, by simp [intOf]; omega⟩
    · have hke : k = n := by omega
      subst hke
      have hlast := L.row.at_ (k - 1) (by omega)
      have HNU : Hid ((mayL (ns.take k)).getD (k - 1) false = nulN ns) := by
        show _ = _
        unfold nulN
        have hl : ns.length = k := by rw [← HGN.out.1]; exact HN0.out
        rw [List.take_of_length_le (by omega), hl]
      have HBE := hidd D
      have e1 : ((k : Int) - 1) = ((k - 1 : Nat) : Int) := by omega
      clear L D
      generalize (mayL (ns.take k)).getD (k - 1) false = z at *
      go_wp2
      go_ret
      exact ⟨by rw [← HNU.out]; rfl, HBE.out⟩
end Go.Proofs.Ytahhiajliomcfaa.Sy.Ap

namespace Go.Proofs.Ytahhiajliomcfaa.Sy.Ap
open Go.RowKit
set_option maxRecDepth 100000
set_option linter.unusedVariables false

/-- One node in a row of its own. -/
def NdOne (g : Gd) (A : Option Addr) (c : Nat) (v : Value) (u : World) : Prop := ∃ q, v = .slice (some ⟨q, 0, none⟩) 1 1 ∧ RowA u q 42 (gdL g A c).toArray
theorem NdOne.below {g : Gd} {A : Option Addr} {c : Nat} {v : Value} {u u' : World} (h : NdOne g A c v u) (hb : Below u.heap.size u u') : NdOne g A c v u' := by
  obtain ⟨q, h1, h2⟩ := h
  exact ⟨q, h1, h2.below hb h2.lt⟩
structure FlS (w : World) (q bb o : Nat) (g : Gd) (A1 : Option Addr) (c1 : Nat) (A2 : Option Addr) (c2 : Nat) (u : World) : Prop where
  box : RowA u q 42 (gdL g A1 c1).toArray
  nd : u.rangeAt bb o (gdL g A2 c2)
  i1 : Its u w.heap.size A1 g.l
  i2 : Its u w.heap.size A2 g.l
  bel : Below w.heap.size w u
  lt : bb < w.heap.size
theorem FlS.below {w : World} {q bb o : Nat} {g : Gd} {A1 : Option Addr} {c1 : Nat} {A2 : Option Addr} {c2 : Nat} {u u' : World} (h : FlS w q bb o g A1 c1 A2 c2 u) (hb : Below u.heap.size u u') : FlS w q bb o g A1 c1 A2 c2 u' :=
  ⟨h.box.below hb h.box.lt, fun j v hv => by rw [hb.cell (by have := h.lt; have := h.bel.size; show bb < _; omega)]; exact h.nd j v hv, h.i1.below (hb.mono h.bel.size), h.i2.below (hb.mono h.bel.size), h.bel.trans (hb.mono h.bel.size), h.lt⟩
end Go.Proofs.Ytahhiajliomcfaa.Sy.Ap

namespace Go.Proofs.Ytahhiajliomcfaa.Sy.Ap
open Go.RowKit
set_option maxRecDepth 100000
set_option linter.unusedVariables false

theorem own_last {w : World} {B : Nat} {v : Value} {l : List NR} {k : Nat} {x : NR} (h : w.ownsRow B 42 9 v (k + 1) (nodesC l ++ gdL x.1 x.2.1 x.2.2)) (hk : l.length = k) : w.ownsRow B 42 9 v (l ++ [x]).length (nodesC (l ++ [x])) := by
  rw [List.length_append, hk, ← nodesC_snoc]
  exact h
end Go.Proofs.Ytahhiajliomcfaa.Sy.Ap

namespace Go.Proofs.Ytahhiajliomcfaa.Sy.Ap
open Go.RowKit
set_option maxRecDepth 100000
set_option linter.unusedVariables false

def foldH (g : Gd) : Gd := setSG g (foldK 123 g.s)
structure RfS (w : World) (gs : List Gd) (i : Nat) (ov : Value) (l : List NR) (wr : World) : Prop where
  own : wr.ownsRow w.heap.size 42 9 ov l.length (nodesC l)
  map : l.map (·.1) = (gs.take i).map foldH
  kid : ∀ x ∈ l, wr.ownsRow w.heap.size 3 1 (.slice x.2.1 x.1.l.length x.2.2) x.1.l.length (ints x.1.l)
  bel : Below w.heap.size w wr
theorem RfS.len {w : World} {gs : List Gd} {i : Nat} {ov : Value} {l : List NR} {wr : World} (h : RfS w gs i ov l wr) (hi : i ≤ gs.length) : l.length = i := by
  have := congrArg List.length h.map
  rw [List.length_map, List.length_map, List.length_take] at this
  omega
theorem takeG_snoc {gs : List Gd} {k : Nat} (hk : k < gs.length) : gs.take (k + 1) = gs.take k ++ [gs.getD k gd0] := by
  rw [List.take_add_one, List.getElem?_eq_getElem hk, List.getD_eq_getElem?_getD, List.getElem?_eq_getElem hk]
  rfl
/-- Once more round: u: what the round did far from the row (with the copied list); then the node is appended. -/
theorem RfS.next {w : World} {gs : List Gd} {i : Nat} {ov v' : Value} {l : List NR} {wr u w7 : World} {g : Gd} {A : Option Addr} {c : Nat} (h : RfS w gs i ov l wr) (hi : i < gs.length) (hg : gs.getD i gd0 = g) (hb : Below wr.heap.size wr u)
    (ho : u.ownsRow w.heap.size 3 1 (.slice A g.l.length c) g.l.length (ints g.l)) (hown : u.ownsRow w.heap.size 42 9 ov l.length (nodesC l)) (hgr : u.grownBy w7 ov.ownBlock) (h7 : w7.ownsRow w.heap.size 42 9 v' (i + 1) (nodesC l ++ gdL (foldH g) A c)) : RfS w gs (i + 1) v' (l ++ [(foldH g, A, c)]) w7 := by
  have hl := h.len (Nat.le_of_lt hi)
  refine ⟨own_last (k := i) h7 hl, ?_, fun x hx => ?_, ?_⟩
  · rw [List.map_append, h.map, takeG_snoc hi, List.map_append, hg]
    rfl
  · rcases List.mem_append.1 hx with q | q
    · have k1 := own_below (h.kid x q) hb (Nat.le_refl _)
      exact own_kept k1 hgr (fun k hk => fun r => own_apart hown k1 (by decide) k hk r)
    · rw [List.mem_singleton] at q
      subst q
      exact own_kept ho hgr (fun k hk => fun r => own_apart hown ho (by decide) k hk r)
  · exact bel_row (h.bel.trans (hb.mono h.bel.size)) (Nat.le_trans h.bel.size hb.size) hgr (fun k hk => (hown.lt k hk).1)
end Go.Proofs.Ytahhiajliomcfaa.Sy.Ap

namespace Go.Proofs.Ytahhiajliomcfaa.Sy.Ap
open Go.RowKit
set_option maxRecDepth 100000
set_option linter.unusedVariables false

def shfG (c : Nat) (g : Gd) : Gd := withG g (g.l.map fun k => k + (c : Int))
theorem gn_snoc {gs : List Gd} {ns : List Nd} (h : GN gs ns) {g : Gd} {n : Nd} (h1 : GN1 g n) : GN (gs ++ [g]) (ns ++ [n]) := by
  refine ⟨by rw [List.length_append, List.length_append, h.1]; rfl, fun i hi => ?_⟩
  rw [List.length_append, List.length_singleton] at hi
  have hl := h.1
  rcases Nat.lt_or_ge i gs.length with q | q
  · rw [List.getD_eq_getElem?_getD, List.getElem?_append_left q, List.getD_eq_getElem?_getD, List.getElem?_append_left (by omega), ← List.getD_eq_getElem?_getD, ← List.getD_eq_getElem?_getD]
    exact h.2 i q
  · have e : i = gs.length := by omega
    subst e
    rw [List.getD_eq_getElem?_getD, List.getElem?_append_right (Nat.le_refl _), List.getD_eq_getElem?_getD, List.getElem?_append_right (by omega), Nat.sub_self, hl, Nat.sub_self]
    exact h1
/-- Both so far: the first nodes, and i of the others. -/
structure PrS (w : World) (gx gy : List Gd) (i : Nat) (ov : Value) (l : List NR) (wr : World) : Prop where
  own : wr.ownsRow w.heap.size 42 9 ov l.length (nodesC l)
  map : l.map (·.1) = gx ++ (gy.take i).map (shfG gx.length)
  kid : ∀ x ∈ l, Its wr w.heap.size x.2.1 x.1.l ∨ wr.ownsRow w.heap.size 3 1 (.slice x.2.1 x.1.l.length x.2.2) x.1.l.length (ints x.1.l)
  bel : Below w.heap.size w wr
theorem PrS.len {w : World} {gx gy : List Gd} {i : Nat} {ov : Value} {l : List NR} {wr : World} (h : PrS w gx gy i ov l wr) (hi : i ≤ gy.length) : l.length = gx.length + i := by
  have := congrArg List.length h.map
  rw [List.length_map, List.length_append, List.length_map, List.length_take] at this
  omega
theorem PrS.its {w : World} {gx gy : List Gd} {i : Nat} {ov : Value} {l : List NR} {wr : World} (h : PrS w gx gy i ov l wr) : ∀ x ∈ l, Its wr wr.heap.size x.2.1 x.1.l := fun x hx => by
  rcases h.kid x hx with q | q
  · exact q.more h.bel.size
  · exact its_own q rfl
/-- The first nodes, copied. -/
theorem PrS.first {w w' : World} {gx gy : List Gd} {v : Value} {l : List NR} (hm : l.map (·.1) = gx) (hI : ∀ x ∈ l, Its w w.heap.size x.2.1 x.1.l) (ho : w'.ownsRow w.heap.size 42 9 v l.length (nodesC l)) (hb : Below w.heap.size w w') : PrS w gx gy 0 v l w' :=
  ⟨ho, by rw [hm]; simp, fun x hx => .inl ((hI x hx).below hb), hb⟩
theorem PrS.next {w : World} {gx gy : List Gd} {i : Nat} {ov v' : Value} {l : List NR} {wr u w7 : World} {g : Gd} {A : Option Addr} {c k : Nat} (h : PrS w gx gy i ov l wr) (hi : i < gy.length) (hg : gy.getD i gd0 = g) (hb : Below wr.heap.size wr u)
    (ho : u.ownsRow w.heap.size 3 1 (.slice A g.l.length c) g.l.length (ints (g.l.map fun k => k + (gx.length : Int)))) (hk : l.length = k) (hgr : u.grownBy w7 ov.ownBlock) (h7 : w7.ownsRow w.heap.size 42 9 v' (k + 1) (nodesC l ++ gdL (shfG gx.length g) A c)) : PrS w gx gy (i + 1) v' (l ++ [(shfG gx.length g, A, c)]) w7 := by
  have hown := own_below h.own hb (Nat.le_refl _)
  refine ⟨own_last (k := k) h7 hk, ?_, fun x hx => ?_, ?_⟩
  · rw [List.map_append, h.map, takeG_snoc hi, List.map_append, hg]
    simp
  · rcases List.mem_append.1 hx with q | q
    · rcases h.kid x q with r | r
      · left
        have b2 : Below w.heap.size u w7 := bel_row (Below.refl _ _) (Nat.le_trans h.bel.size hb.size) hgr (fun k hk => (hown.lt k hk).1)
        exact (r.below (hb.mono h.bel.size)).below b2
      · right
        have k1 := own_below r hb (Nat.le_refl _)
        exact own_kept k1 hgr (fun k hk => fun r => own_apart hown k1 (by decide) k hk r)
    · rw [List.mem_singleton] at q
      subst q
      right
      have e : (shfG gx.length g).l.length = g.l.length := by simp [shfG, withG]
      have ho2 : u.ownsRow w.heap.size 3 1 (.slice A (shfG gx.length g).l.length c) (shfG gx.length g).l.length (ints (shfG gx.length g).l) := by rw [e]; exact ho
      exact own_kept ho2 hgr (fun k hk => fun r => own_apart hown ho2 (by decide) k hk r)
  · exact bel_row (h.bel.trans (hb.mono h.bel.size)) (Nat.le_trans h.bel.size hb.size) hgr (fun k hk => (hown.lt k hk).1)
end Go.Proofs.Ytahhiajliomcfaa.Sy.Ap

namespace Go.Proofs.Ytahhiajliomcfaa.Sy.Ap.Wk
open Go.RowKit
set_option maxRecDepth 100000
set_option linter.unusedVariables false

/-! ### The Defs that are not being walked -/
section
variable {D : List Df} {o : List Bool} {k : Nat} {d : Df}
end
def shut (o : List Bool) : Nat := o.countP fun b => !b
/-! ### The walker in memory -/
/-- All blocks but those of P are as they were. -/
structure Keeps (P : Nat → Prop) (u u' : World) : Prop where
  os : u'.os = u.os
  tape : u'.tape = u.tape
  output : u'.output = u.output
  size : u.heap.size ≤ u'.heap.size
  block : ∀ k, k < u.heap.size → ¬ P k → u'.heap[k]? = u.heap[k]?
theorem Keeps.below {P : Nat → Prop} {u u' : World} (h : Keeps P u u') {B : Nat} (hB : B ≤ u.heap.size) (hP : ∀ k, P k → B ≤ k) : Below B u u' :=
  ⟨h.os, h.tape, h.output, h.size, fun k hk => h.block k (by omega) (fun q => by have := hP k q; omega)⟩
theorem Keeps.of_below {P : Nat → Prop} {u u' : World} (h : Below u.heap.size u u') : Keeps P u u' := ⟨h.os, h.tape, h.output, h.size, fun k hk _ => h.block k hk⟩
theorem Keeps.trans {P Q : Nat → Prop} {u v w : World} (h : Keeps P u v) (h2 : Keeps Q v w) (hQ : ∀ k, k < u.heap.size → ¬ P k → ¬ Q k) : Keeps P u w :=
  ⟨h2.os.trans h.os, h2.tape.trans h.tape, h2.output.trans h.output, Nat.le_trans h.size h2.size, fun k hk hp => (h2.block k (Nat.lt_of_lt_of_le hk h.size) (hQ k hk hp)).trans (h.block k hk hp)⟩
theorem keeps_set {P : Nat → Prop} {u u' : World} (h : Keeps P u u') (p : Addr) (v : Value) (hp : P p.block ∨ u.heap.size ≤ p.block) : Keeps P u (u'.setCell p v) :=
  ⟨h.os, h.tape, h.output, by simpa [World.setCell] using h.size, fun k hk hn => (Below.heap_setCell u' p v k (fun e => by rcases hp with q | q; exact hn (e ▸ q); omega)).trans (h.block k hk hn)⟩
theorem keeps_grown {P : Nat → Prop} {u v w : World} {row : Option Nat} (h : Keeps P u v) (hg : v.grownBy w row) (hr : ∀ k, row = some k → P k ∨ u.heap.size ≤ k) : Keeps P u w :=
  ⟨hg.os.trans h.os, hg.tape.trans h.tape, hg.output.trans h.output, Nat.le_trans h.size hg.size, fun k hk hn => (hg.block k (Nat.lt_of_lt_of_le hk h.size) (fun e => by rcases hr k e.symm with q | q; exact hn q; omega)).trans (h.block k hk hn)⟩
theorem own_keeps {P : Nat → Prop} {u u' : World} {base : Nat} {e : TypeId} {sz n : Nat} {v : Value} {xs : List Value} (h : u.ownsRow base e sz v n xs) (hk : Keeps P u u') (hp : ∀ k, v.ownBlock = some k → ¬ P k) : u'.ownsRow base e sz v n xs := by
  have hl := h.lt
  obtain ⟨h1, h2⟩ := h
  refine ⟨h1, ?_⟩
  rcases h2 with h2 | ⟨g, cap, cur, hv, hg, hh, r⟩
  · exact .inl h2
  · have hgb : v.ownBlock = some g := by rw [hv]; rfl
    exact .inr ⟨g, cap, cur, hv, hg, (hk.block g (hl g hgb).2 (hp g hgb)).trans hh, r⟩
theorem row_keeps {P : Nat → Prop} {u u' : World} {g : Nat} {t : TypeId} {cs : Array Value} (r : RowA u g t cs) (hk : Keeps P u u') (hp : ¬ P g) : RowA u' g t cs := (hk.block g r.lt hp).trans r
section
variable {B : Nat} {w w' : World} {b ob m : Nat} {A2 : Option Addr} {c2 : Nat} {nv : Value} {l : List NR} {o : List Bool} {e : Int}
end
/-! ### A name found -/
end Go.Proofs.Ytahhiajliomcfaa.Sy.Ap.Wk

namespace Go.Proofs.Ytahhiajliomcfaa.Sy.Ap.Wk
open Go.RowKit
set_option maxRecDepth 100000
set_option linter.unusedVariables false

/-! ### By plain lists -/
section
variable {all : List Nat → Bool} {D : List Df} {ns : List Nd} {bb mid k c : Nat} {out : List Nd}
end
/-! ### What a walk owes -/
theorem lies_refl (u : World) (v : Value) : Lies u v v := .inl rfl
end Go.Proofs.Ytahhiajliomcfaa.Sy.Ap.Wk

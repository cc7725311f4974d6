/- The reference's Nullable. -/
import Derived.Test.YtgppanbikfobbaaAy
namespace Go.Proofs.Ytgppanbikfobbaa.Sy.Ap
open Go.RowKit
set_option maxRecDepth 100000
set_option linter.unusedVariables false

theorem all_true {l : List Nat} {p : Nat → Bool} (h : ∀ i, i < l.length → p (l.getD i 0) = true) : l.all p = true := by
  rw [List.all_eq_true]
  intro x hx
  obtain ⟨i, hi, rfl⟩ := List.getElem_of_mem hx
  have := h i hi
  rw [List.getD_eq_getElem?_getD, List.getElem?_eq_getElem hi] at this
  exact this
theorem all_false {l : List Nat} {p : Nat → Bool} {i : Nat} (hi : i < l.length) (h : p (l.getD i 0) = false) : l.all p = false := by
  rw [List.all_eq_false]
  refine ⟨l[i], List.getElem_mem hi, ?_⟩
  rw [List.getD_eq_getElem?_getD, List.getElem?_eq_getElem hi] at h
  simp only [Option.getD_some] at h
  rw [h]
  exact Bool.false_ne_true
def NulC (gs : List Gd) (m : List Bool) (c : Nat) (A : Option Addr) (at_ : Nat) : Prop :=
  ∀ w : World, Nds w w.heap.size A gs → Calls Try.prog 28 #[.slice A gs.length c, .int .i64 (at_ : Int)] w fun e w' => NulR w (m.getD at_ false) e w'
theorem put_none' (a : Act) (v : Value) : a.put none v = a := rfl
set_option maxHeartbeats 2000000 in
theorem rnul_node (A : Option Addr) (c : Nat) (gs : List Gd) (ns : List Nd) (hg : GN gs ns) (ht : TreeN ns) : ∀ (at_ : Nat), at_ < ns.length → NulC gs (mayL ns) c A at_ := by
  intro at_
  induction at_ using Nat.strongRecOn with
  | ind at_ ih =>
    intro hat w hN
    have hat2 : at_ < gs.length := by rw [hg.1]; exact hat
    have hfew := gn_few hg ht
    have hg1 := hg.2 at_ hat2
    have hmay : (mayL ns).getD at_ false = may1 (ns.getD at_ nd0) (mayL ns) := may_at ht (by rw [List.getD_eq_getElem?_getD, List.getElem?_eq_getElem hat]; rfl)
    have hlow := low_kids ht hat
    have hsh : shapeB (ns.getD at_ nd0) = true := ht.shp _ (by rw [List.getD_eq_getElem?_getD, List.getElem?_eq_getElem hat]; exact List.getElem_mem hat)
    have hkid : (gs.getD at_ gd0).l.length ≤ 1024 := gn_kids hg ht _ (by rw [List.getD_eq_getElem?_getD, List.getElem?_eq_getElem hat2]; exact List.getElem_mem hat2)
    obtain ⟨bb, o1, rfl, hb1, A3, c3, I1, r1⟩ := hN.at_ hat2
    have HIH : Hid (∀ kd, kd < at_ → NulC gs (mayL ns) c (some ⟨bb, o1, none⟩) kd) := fun kd h => ih kd h (by omega)
    unfold NulR
    rw [hmay]
    clear ih hmay
    generalize ns.getD at_ nd0 = nd at *
    generalize gs.getD at_ gd0 = g at *
    generalize mayL ns = m at *
    have hop := hg1.op
    have hll : g.l = nd.l.map fun k : Nat => (k : Int) := hg1.l
    have hlo := hg1.lo
    have Z1 := RowA.new w 41 zeroC
    have hW1 : Below w.heap.size w ((w.alloc (.cells zeroC 41)).setRow w.heap.size (gdL g A3 c3).toArray) := bel_setRow ((Below.refl _ _).alloc (Nat.le_refl _) _) _ _ (Nat.le_refl _)
    have R1 := Z1.row (gdL g A3 c3).toArray
    have HLOW := hidd hlow
    have HSH := hidd hsh
    have HN := hidd hN
    have hati : (at_ : Int) < (gs.length : Int) := by omega
    clear hg1 hlow hsh hN hg ht hat
    generalize hgl : gs.length = N at *
    have HGL := hidd hgl
    clear hgl
    go_enter Try.func28, Try.ntmps28
    go_upto_region 2 with (first
      | refine wpList_load_mid rfl 41 (.tmp 10) rfl bb (o1 + at_ * 9) rfl (gdL g A3 c3) _ r1 Try.underlying41 rfl (gdL_info g A3 c3) ?_
      | refine wpList_store_row rfl 41 (.tmp 5) (.tmp 11) rfl w.heap.size (gdL g A3 c3).toArray rfl rfl 41 zeroC Z1 (gdL_infoA g A3 c3) rfl (gdL_one g A3 c3) ?_)
    rw [put_none']
    have HI : Hid (Its ((w.alloc (.cells zeroC 41)).setRow w.heap.size (gdL g A3 c3).toArray) ((w.alloc (.cells zeroC 41)).setRow w.heap.size (gdL g A3 c3).toArray).heap.size A3 (nd.l.map fun k : Nat => (k : Int))) := by
      show Its _ _ _ _
      rw [← hll]
      exact (I1.below hW1).more hW1.size
    have HN1 := hidd ((HN.out.below hW1).more hW1.size)
    have HB1 := hidd hW1
    change RowA ((w.alloc (.cells zeroC 41)).setRow w.heap.size (gdL g A3 c3).toArray) _ _ _ at R1
    generalize (w.alloc (.cells zeroC 41)).setRow w.heap.size (gdL g A3 c3).toArray = w1 at *
    obtain ⟨d0, d1, d2, d3, d4, d5, d6, d7, d8⟩ := node_cells R1
    have HQ : Hid (w.heap.size < w1.heap.size) := R1.lt
    rw [hop] at d0
    rw [hlo] at d6
    have hlen : g.l.length = nd.l.length := by rw [hll, List.length_map]
    rw [hlen] at d5 hkid
    clear Z1 hW1 r1 I1 R1 hop hlo hll hlen d1 d2 d3 d4 d7 d8 HN
    generalize hL : nd.l.length = L at *
    have HLL := hidd hL
    clear hL
    obtain ⟨q, hq⟩ : ∃ q, w.heap.size = q := ⟨_, rfl⟩
    rw [hq] at d0 d5 d6 HQ
    rw [hq]
    have hbw := HB1.out
    have HBW : Hid (∀ {u : World}, Below w1.heap.size w1 u → Below w.heap.size w u) := fun h => HB1.out.trans (h.mono HB1.out.size)
    clear hq hbw HB1
    have hopb : ∀ k : Nat, nd.op ≠ k → (((nd.op : Nat) : Int) == ((k : Nat) : Int)) = false := fun k h => beq_eq_false_iff_ne.2 (by omega)
    by_cases p1 : nd.op = 1
    · rw [p1] at d0
      have HM : Hid (may1 nd m = true) := by show _ = _; unfold may1; rw [if_pos p1]
      clear hopb
      go_wp2
      go_ret
      exact ⟨by rw [HM.out]; rfl, HBW.out (Below.refl _ _)⟩
    have n1 := hopb 1 p1
    by_cases p3 : nd.op = 3
    · rw [p3] at d0
      have HM : Hid (may1 nd m = nd.l.all fun k => m.getD k false) := by show _ = _; unfold may1; rw [if_neg p1, if_pos p3]
      clear hopb n1
      go_wp2
      go_loopw [6] (fun s6 wr => ∃ i : Nat, i ≤ L ∧ s6 = .int .i64 (i : Int) ∧ (∀ j, j < i → m.getD (nd.l.getD j 0) false = true) ∧ Below w1.heap.size w1 wr) (fun s6 _ => L - (intOf s6).toNat)
      case atStart => exact ⟨0, Nat.zero_le _, rfl, fun j hj => absurd hj (Nat.not_lt_zero _), Below.refl _ _⟩
      case round =>
        obtain ⟨i, hi0, rfl, hall, D⟩ := hrel
        have HALL := hidd hall
        clear hall
        have d5' : wr.cell? ⟨q, 5, none⟩ = some (.slice A3 L c3) := (D.cell (by exact HQ.out)).trans d5
        by_cases hlt : i < L
        · have hltl : i < nd.l.length := by rw [HLL.out]; exact hlt
          obtain ⟨gk, ok, rfl, hgk, hcell0⟩ := its_nat HI.out hltl
          have hcell : wr.cell? ⟨gk, ok + i, none⟩ = some (.int .i64 ((nd.l.getD i 0 : Nat) : Int)) := (D.cell (by exact hgk)).trans hcell0
          have hkm : nd.l.getD i 0 ∈ nd.l := by rw [List.getD_eq_getElem?_getD, List.getElem?_eq_getElem hltl]; exact List.getElem_mem hltl
          have hik := HIH.out (nd.l.getD i 0) (HLOW.out _ hkm) wr ((HN1.out.below D).more D.size)
          have hii : (i : Int) < (L : Int) := by omega
          have HLT := hidd hltl
          rw [HGL.out] at hik
          generalize hkd : nd.l.getD i 0 = kd at *
          have HKD := hidd hkd
          have HD := hidd D
          clear hkm hkd D hcell0 hgk d5 hltl
          go_wp2_with fail
          refine hik.mono ?_
          rintro e w3 ⟨rfl, b3⟩
          have B3 := HD.out.trans (b3.mono HD.out.size)
          clear hik b3 HD
          have hmv : m.getD kd false = true ∨ m.getD kd false = false := by cases m.getD kd false <;> simp
          rcases hmv with hmv | hmv
          · have HQ2 : Hid (∀ j, j < i + 1 → m.getD (nd.l.getD j 0) false = true) := fun j hj => by
              by_cases e : j = i
              · subst e; rw [HKD.out]; exact hmv
              · exact HALL.out j (by omega)
            have HB3 := hidd B3
            rw [hmv]
            clear hmv B3 hcell d5'
            go_wp2
            exact ⟨⟨i + 1, by omega, rfl, HQ2.out, HB3.out⟩, by simp [intOf]; omega⟩
          · have HF := hidd (all_false (p := fun k => m.getD k false) HLT.out (by rw [HKD.out]; exact hmv))
            have HB3 := hidd (HBW.out B3)
            rw [hmv]
            clear hmv B3 hcell d5'
            go_wp2
            go_ret
            exact ⟨by rw [HM.out, HF.out]; rfl, HB3.out⟩
        · have hie : i = L := by omega
          subst hie
          have HF := hidd (all_true (p := fun k => m.getD k false) (l := nd.l) (fun j hj => HALL.out j (by rw [HLL.out] at hj; exact hj)))
          have HB3 := hidd (HBW.out D)
          clear D
          go_wp2
          go_ret
          exact ⟨by rw [HM.out, HF.out]; rfl, HB3.out⟩
    · have n3 := hopb 3 p3
      by_cases p4 : nd.op = 4
      · rw [p4] at d0
        have HM : Hid (may1 nd m = nd.l.any fun k => m.getD k false) := by show _ = _; unfold may1; rw [if_neg p1, if_neg p3, if_pos p4]
        clear hopb n1 n3
        go_wp2
        go_loopw [7] (fun s7 wr => ∃ i : Nat, i ≤ L ∧ s7 = .int .i64 (i : Int) ∧ (∀ j, j < i → m.getD (nd.l.getD j 0) false = false) ∧ Below w1.heap.size w1 wr) (fun s7 _ => L - (intOf s7).toNat)
        case atStart => exact ⟨0, Nat.zero_le _, rfl, fun j hj => absurd hj (Nat.not_lt_zero _), Below.refl _ _⟩
        case round =>
          obtain ⟨i, hi0, rfl, hall, D⟩ := hrel
          have HALL := hidd hall
          clear hall
          have d5' : wr.cell? ⟨q, 5, none⟩ = some (.slice A3 L c3) := (D.cell (by exact HQ.out)).trans d5
          by_cases hlt : i < L
          · have hltl : i < nd.l.length := by rw [HLL.out]; exact hlt
            obtain ⟨gk, ok, rfl, hgk, hcell0⟩ := its_nat HI.out hltl
            have hcell : wr.cell? ⟨gk, ok + i, none⟩ = some (.int .i64 ((nd.l.getD i 0 : Nat) : Int)) := (D.cell (by exact hgk)).trans hcell0
            have hkm : nd.l.getD i 0 ∈ nd.l := by rw [List.getD_eq_getElem?_getD, List.getElem?_eq_getElem hltl]; exact List.getElem_mem hltl
            have hik := HIH.out (nd.l.getD i 0) (HLOW.out _ hkm) wr ((HN1.out.below D).more D.size)
            have hii : (i : Int) < (L : Int) := by omega
            have HLT := hidd hltl
            rw [HGL.out] at hik
            generalize hkd : nd.l.getD i 0 = kd at *
            have HKD := hidd hkd
            have HD := hidd D
            clear hkm hkd D hcell0 hgk d5 hltl
            go_wp2_with fail
            refine hik.mono ?_
            rintro e w3 ⟨rfl, b3⟩
            have B3 := HD.out.trans (b3.mono HD.out.size)
            clear hik b3 HD
            have hmv : m.getD kd false = true ∨ m.getD kd false = false := by cases m.getD kd false <;> simp
            rcases hmv with hmv | hmv
            · have HF := hidd (any_true (p := fun k => m.getD k false) HLT.out (by rw [HKD.out]; exact hmv))
              have HB3 := hidd (HBW.out B3)
              rw [hmv]
              clear hmv B3 hcell d5'
              go_wp2
              go_ret
              exact ⟨by rw [HM.out, HF.out]; rfl, HB3.out⟩
            · have HQ2 : Hid (∀ j, j < i + 1 → m.getD (nd.l.getD j 0) false = false) := fun j hj => by
                by_cases e : j = i
                · subst e; rw [HKD.out]; exact hmv
                · exact HALL.out j (by omega)
              have HB3 := hidd B3
              rw [hmv]
              clear hmv B3 hcell d5'
              go_wp2
              exact ⟨⟨i + 1, by omega, rfl, HQ2.out, HB3.out⟩, by simp [intOf]; omega⟩
          · have hie : i = L := by omega
            subst hie
            have HF := hidd (any_false (p := fun k => m.getD k false) (l := nd.l) (fun j hj => HALL.out j (by rw [HLL.out] at hj; exact hj)))
            have HB3 := hidd (HBW.out D)
            clear D
            go_wp2
            go_ret
            exact ⟨by rw [HM.out, HF.out]; rfl, HB3.out⟩
      · have n4 := hopb 4 p4
        by_cases p5 : nd.op = 5
        · rw [p5] at d0
          have hl1 := shp_rep HSH.out p5
          have HM : Hid (may1 nd m = (nd.lo == 0 || m.getD (nd.l.getD 0 0) false)) := by show _ = _; unfold may1; rw [if_neg p1, if_neg p3, if_neg p4, if_pos p5]
          clear hopb n1 n3 n4
          by_cases hlo : nd.lo = 0
          · have hlb : (nd.lo == 0) = true := by rw [hlo]; rfl
            rw [hlo] at d6
            clear hl1
            go_wp2
            go_ret
            exact ⟨by rw [HM.out, hlb]; rfl, HBW.out (Below.refl _ _)⟩
          · have hlb : (nd.lo == 0) = false := beq_eq_false_iff_ne.2 hlo
            have h0 : 0 < nd.l.length := by omega
            obtain ⟨gk, ok, rfl, hgk, hcell⟩ := its_nat HI.out h0
            have hkm : nd.l.getD 0 0 ∈ nd.l := by rw [List.getD_eq_getElem?_getD, List.getElem?_eq_getElem h0]; exact List.getElem_mem h0
            have hik := HIH.out (nd.l.getD 0 0) (HLOW.out _ hkm) w1 HN1.out
            rw [HGL.out] at hik
            rw [Nat.add_zero] at hcell
            have hL1 : L = 1 := by rw [← HLL.out]; exact hl1
            subst hL1
            generalize nd.l.getD 0 0 = kd at *
            clear hkm hl1 h0
            go_wp2_with fail
            refine hik.mono ?_
            rintro e w3 ⟨rfl, b3⟩
            have HB3 := hidd (HBW.out b3)
            generalize m.getD kd false = mv at *
            clear hik b3
            go_wp2
            go_ret
            exact ⟨by rw [HM.out, hlb]; rfl, HB3.out⟩
        · have n5 := hopb 5 p5
          have HM : Hid (may1 nd m = false) := by show _ = _; unfold may1; rw [if_neg p1, if_neg p3, if_neg p4, if_neg p5]
          clear hopb
          generalize ((nd.op : Nat) : Int) = op at *
          have e1 : (op == 1) = false := n1
          have e3 : (op == 3) = false := n3
          have e4 : (op == 4) = false := n4
          have e5 : (op == 5) = false := n5
          clear n1 n3 n4 n5
          go_wp2
          go_ret
          exact ⟨by rw [HM.out]; rfl, HBW.out (Below.refl _ _)⟩
set_option maxHeartbeats 1000000 in
theorem rnull_bad (A : Option Addr) (c : Nat) (gs : List Gd) (w : World) (hN : Nds w w.heap.size A gs) (hl : gs.length ≤ 2000) (hsm : Small gs) (hno : ¬ RightG gs) :
    Calls Try.prog 15 #[.slice A gs.length c] w fun e w' => NulR w false e w' := by
  have hR := refRight_any A c gs w hN hl hsm
  have HNO := hidd hno
  clear hN hsm hno hl
  generalize gs.length = n at *
  go_enter Try.func15, Try.ntmps15
  go_wp2_with fail
  refine hR.mono ?_
  rintro e w2 ⟨z, rfl, hz, hb2⟩
  have hz2 : z = false := by
    cases z with
    | false => rfl
    | true => exact absurd (hz.1 rfl) HNO.out
  subst hz2
  have HB := hidd hb2
  clear hz hb2 hR
  go_wp2
  go_ret
  exact ⟨rfl, HB.out⟩
set_option maxHeartbeats 1000000 in
theorem rnull_ok (A : Option Addr) (c : Nat) (gs : List Gd) (ns : List Nd) (w : World) (hN : Nds w w.heap.size A gs) (hg : GN gs ns) (ht : TreeN ns) :
    Calls Try.prog 15 #[.slice A gs.length c] w fun e w' => NulR w (nulN ns) e w' := by
  have hfew := gn_few hg ht
  have hR := refRight_any A c gs w hN (by omega) (gn_sm hg ht)
  have HRG := hidd (tree_rg hg ht)
  have hpos := ht.pos
  have hC : ∀ u, Below w.heap.size w u → Calls Try.prog 28 #[.slice A gs.length c, .int .i64 ((ns.length - 1 : Nat) : Int)] u fun e w' => NulR u ((mayL ns).getD (ns.length - 1) false) e w' := fun u hu => rnul_node A c gs ns hg ht (ns.length - 1) (by omega) u ((hN.below hu).more hu.size)
  unfold nulN
  have hln := hg.1
  clear hN hg ht
  generalize (mayL ns).getD (ns.length - 1) false = mv at *
  generalize gs.length = n at *
  rw [← hln] at hC hpos
  clear hln
  have e1 : ((n - 1 : Nat) : Int) = (n : Int) - 1 := by omega
  rw [e1] at hC
  clear e1
  go_enter Try.func15, Try.ntmps15
  go_wp2_with fail
  refine hR.mono ?_
  rintro e w2 ⟨z, rfl, hz, hb2⟩
  have hz2 : z = true := hz.2 HRG.out
  subst hz2
  have hc2 := hC w2 hb2
  have HB := hidd hb2
  clear hz hb2 hR hC
  go_wp2_with fail
  refine hc2.mono ?_
  rintro e w3 ⟨rfl, b3⟩
  have HBE := hidd (HB.out.trans (b3.mono HB.out.size))
  clear hc2 b3
  go_wp2
  go_ret
  exact ⟨rfl, HBE.out⟩
end Go.Proofs.Ytgppanbikfobbaa.Sy.Ap

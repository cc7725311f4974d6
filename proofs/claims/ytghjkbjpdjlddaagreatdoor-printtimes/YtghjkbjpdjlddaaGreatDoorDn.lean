/- PrintTimes: its walk. -/
import Derived.Test.YtghjkbjpdjlddaaGreatDoorDm
namespace Go.Proofs.YtghjkbjpdjlddaaGreatDoor.Sy.Pn.Tm
open Go.RowKit
set_option maxRecDepth 100000
set_option linter.unusedVariables false
set_option linter.unusedSimpArgs false

def tmN (a h : Int) : List Nd := [ndBytes (oneS 120), ndRep 0 a h]
def tmG (a h : Int) : List Gd := [oneG 120, repG 0 a h]
/-- Bounds that stand. -/
def Bnd (a h : Int) : Prop := 0 ≤ a ∧ a ≤ 4096 ∧ (h = -1 ∨ (1 ≤ h ∧ h ≤ 4096 ∧ a ≤ h))
theorem tm_rn {a h : Int} (hb : Bnd a h) : RN (tmG a h) (tmN a h) := by
  obtain ⟨h0, h1, h2⟩ := hb
  refine ⟨⟨rfl, fun i hi => ?_⟩, ?_, by simp [tmN], by simp [tmN], ?_⟩
  · match i, hi with
    | 0, _ => exact gn_one 120
    | 1, _ => exact gn_rep 0 a h
  · intro n hn
    simp only [tmN, List.mem_cons, List.not_mem_nil, or_false] at hn
    rcases hn with rfl | rfl
    · decide +kernel
    · unfold shapeB ndRep
      have : emptyS noS = true := by decide +kernel
      simp [this]
      omega
  · show Forest (tmN a h) 0 2 [1]
    exact .snoc (n := ndRep 0 a h) (.nil 0) rfl (.snoc (n := ndBytes (oneS 120)) (.nil 0) rfl (.nil 0))
theorem tm_text (a h : Int) : treeT (tmN a h) = 120 :: timesT a h := by
  have h1 := setT_one 120 (by omega)
  have e1 : byteT 120 = [120] := rfl
  simp [treeT, tmN, nodeT, headT, kidsT, wrapT, encB, ndBytes, ndRep, h1, e1]
theorem tm_40 {a h : Int} (hb : Bnd a h) : (treeT (tmN a h)).count 40 ≤ 64 ∧ (treeT (tmN a h)).length ≤ 1024 := by
  have h1 := (bounds_mid [] [] hb.1 hb.2.1 hb.2.2).2.2
  have h2 := (timesT_fit (lo := a) (hi := h) (by have := hb.2.1; omega) (by rcases hb.2.2 with q | q <;> omega)).2
  rw [tm_text]
  refine ⟨?_, by simp; omega⟩
  rw [List.count_cons, h1]
  decide
theorem times_long {lo hi : Int} (h1 : ¬ (lo = 0 ∧ hi = -1)) (h2 : ¬ (lo = 1 ∧ hi = -1)) (h3 : ¬ (lo = 0 ∧ hi = 1)) : ∃ r, timesT lo hi = 123 :: r := by
  unfold timesT
  rw [if_neg h1, if_neg h2, if_neg h3]
  split
  · exact ⟨_, rfl⟩
  · split
    · exact ⟨_, rfl⟩
    · exact ⟨_, rfl⟩
theorem str_ne2 {x y : ByteArray} (h : ¬ x = y) : (x.toList == y.toList) = false := by
  rw [beq_eq_false_iff_ne]
  intro e
  rw [ByteArray.toList_eq, ByteArray.toList_eq] at e
  exact h (ByteArray.ext (Array.toList_inj.mp e))
theorem tm_far {a h : Int} (hb : Bnd a h) (h1 : ¬ (a = 0 ∧ h = -1)) (h2 : ¬ (a = 1 ∧ h = -1)) (h3 : ¬ (a = 0 ∧ h = 1)) (c : UInt8) (hc : c.toNat ≠ 123) : ((txt (treeT (tmN a h))).toList == ({ data := #[120, c] } : ByteArray).toList) = false := by
  refine str_ne2 fun e => ?_
  have e2 := congrArg bs e
  rw [bs_txt (treeT_lt (tm_rn hb).shp (tm_rn hb).pos), tm_text] at e2
  obtain ⟨r, hr⟩ := times_long h1 h2 h3
  rw [hr] at e2
  have e3 : bs ({ data := #[120, c] } : ByteArray) = [120, c.toNat] := rfl
  rw [e3] at e2
  simp at e2
  exact hc e2.1.symm
theorem rep_cells (a h : Int) (A : Option Addr) : (gdL (repG 0 a h) A 1).toArray = #[.int .u8 5, .int .u64 0, .int .u64 0, .int .u64 0, .int .u64 0, .slice A 1 1, .int .i64 a, .int .i64 h, .string { data := #[] }] := by
  simp [gdL, repG, W_zero]
abbrev repC (a h : Int) (A : Option Addr) : Array Value := #[.int .u8 5, .int .u64 0, .int .u64 0, .int .u64 0, .int .u64 0, .slice A 1 1, .int .i64 a, .int .i64 h, .string { data := #[] }]
theorem repC_info (a h : Int) (A : Option Addr) : (Tryz.prog.info? 38).map (·.size) = some (repC a h A).size := by
  have := gdL_infoA (repG 0 a h) A 1
  rw [rep_cells] at this
  exact this
theorem repC_one (a h : Int) (A : Option Addr) : (repC a h A).all (·.oneCell') = true := by
  have := gdL_one (repG 0 a h) A 1
  rw [rep_cells] at this
  exact this
theorem repC_set {u : World} {q : Nat} {a h h' : Int} {A : Option Addr} (r : RowA u q 38 (repC a h A)) : RowA (u.setCell ⟨q, 7, none⟩ (.int .i64 h')) q 38 (repC a h' A) := by
  unfold RowA at r ⊢
  simp [World.setCell, Array.getElem?_modify, r]
structure TmS (w0 : World) (u : World) : Prop where
  bel : Below w0.heap.size w0 u
theorem TmS.below {w0 u u' : World} (h : TmS w0 u) (hb : Below u.heap.size u u') : TmS w0 u' := ⟨h.bel.trans (hb.mono h.bel.size)⟩
theorem tm_new {u : World} {a h : Int} {A : Option Addr} (hI : Its u u.heap.size A [0]) : Ns (tmG a h) (.slice (some ⟨u.heap.size, 0, none⟩) 2 2) (u.alloc (.cells (#[.int .u8 2, .int .u64 (W (oneS 120) 0), .int .u64 (W (oneS 120) 1), .int .u64 (W (oneS 120) 2), .int .u64 (W (oneS 120) 3), .slice none 0 0, .int .i64 0, .int .i64 0, .string { data := #[] }] ++ repC a h A) 38)) := by
  have hN := nds_new u [(oneG 120, none, 0), (repG 0 a h, A, 1)] (fun x hx => by
    simp only [List.mem_cons, List.not_mem_nil, or_false] at hx
    rcases hx with rfl | rfl
    · exact its_nil _ _ _
    · exact hI)
  have e : (nodesC [(oneG 120, none, 0), (repG 0 a h, A, 1)]).toArray = #[.int .u8 2, .int .u64 (W (oneS 120) 0), .int .u64 (W (oneS 120) 1), .int .u64 (W (oneS 120) 2), .int .u64 (W (oneS 120) 3), .slice none 0 0, .int .i64 0, .int .i64 0, .string { data := #[] }] ++ repC a h A := by
    simp [nodesC, gdL, oneG, repG, W_zero]
  rw [e] at hN
  exact ⟨_, 2, rfl, hN⟩
theorem em36 {base g : Nat} {u : World} (h : base ≤ g) : Em base (some 36) u (u.freeze ⟨g, 1, none⟩ 1) := by
  unfold Em
  rw [if_neg (by decide)]
  exact ⟨g, h, rfl⟩
theorem ns_keep {base : Nat} {gs : List Gd} {v : Value} {d : Option Nat} {u u' : World} (h : Ns gs v u) (e : Em base d u u') : Ns gs v u' := by
  rcases e.off with hb | ⟨g', hg, rfl⟩
  · exact h.below hb
  · obtain ⟨A, c, h1, hB⟩ := h
    refine ⟨A, c, h1, ?_⟩
    rw [freeze_size]
    exact hB.keep fun p hp => freeze_cell _ _ _ _
theorem rof_one {v : Value} {u : World} (h : By [120] v u) : Calls Tryz.prog 13 #[v] u fun e w' => e = .returned (.agg #[.int .u64 (W (oneS 120) 0), .int .u64 (W (oneS 120) 1), .int .u64 (W (oneS 120) 2), .int .u64 (W (oneS 120) 3)]) ∧ Below u.heap.size u w' := by
  have h1 := rof_by (by simp) h
  rw [one_words, one_words, one_words, one_words] at h1
  exact h1
theorem repC_cells {w : World} {b : Nat} {a h : Int} {A : Option Addr} (r : RowA w b 38 (repC a h A)) :
    w.cell? ⟨b, 0, none⟩ = some (.int .u8 5) ∧ w.cell? ⟨b, 1, none⟩ = some (.int .u64 0) ∧ w.cell? ⟨b, 2, none⟩ = some (.int .u64 0) ∧ w.cell? ⟨b, 3, none⟩ = some (.int .u64 0) ∧ w.cell? ⟨b, 4, none⟩ = some (.int .u64 0) ∧
    w.cell? ⟨b, 5, none⟩ = some (.slice A 1 1) ∧ w.cell? ⟨b, 6, none⟩ = some (.int .i64 a) ∧ w.cell? ⟨b, 7, none⟩ = some (.int .i64 h) ∧ w.cell? ⟨b, 8, none⟩ = some (.string { data := #[] }) :=
  ⟨r.at_ rfl, r.at_ rfl, r.at_ rfl, r.at_ rfl, r.at_ rfl, r.at_ rfl, r.at_ rfl, r.at_ rfl, r.at_ rfl⟩
theorem tm_cmp {a h : Int} (hb : Bnd a h) (c : UInt8) : ((txt (treeT (tmN a h))).toList == ({ data := #[120, c] } : ByteArray).toList) = decide (timesT a h = [c.toNat]) := by
  have e1 : bs (txt (treeT (tmN a h))) = 120 :: timesT a h := by rw [bs_txt (treeT_lt (tm_rn hb).shp (tm_rn hb).pos), tm_text]
  have e3 : bs ({ data := #[120, c] } : ByteArray) = [120, c.toNat] := rfl
  by_cases hc : timesT a h = [c.toNat]
  · rw [decide_eq_true hc, show txt (treeT (tmN a h)) = { data := #[120, c] } from bs_inj (by rw [e1, e3, hc])]
    exact beq_self_eq_true _
  · rw [decide_eq_false hc]
    refine str_ne2 fun e => hc ?_
    have e2 := congrArg bs e
    rw [e1, e3] at e2
    simpa using e2
theorem tm_len (a h : Int) : (tmG a h).length = 2 := rfl
theorem tm_is {a h : Int} (hb : Bnd a h) (c : UInt8) (hc : timesT a h = [c.toNat]) : (txt (treeT (tmN a h))).toList = [120, c] := by
  have := tm_cmp hb c
  rw [decide_eq_true hc, beq_iff_eq] at this
  rw [this, ByteArray.toList_eq]
theorem tm_no {a h : Int} (hb : Bnd a h) (c : UInt8) (hc : ¬ timesT a h = [c.toNat]) : ¬ (txt (treeT (tmN a h))).toList = [120, c] := by
  have := tm_cmp hb c
  rw [decide_eq_false hc, beq_eq_false_iff_ne, ByteArray.toList_eq (bs := { data := #[120, c] })] at this
  exact this
set_option linter.unusedVariables false in
def TmGV (q : Nat) (base : Nat) (a h : Int) (A : Option Addr) (t : Nat) : Option Value :=
  match t with
  | 10 => some (.pointer (some ⟨q, 0, none⟩))
  | 37 => some (.agg #[.int .u64 (W (oneS 120) 0), .int .u64 (W (oneS 120) 1), .int .u64 (W (oneS 120) 2), .int .u64 (W (oneS 120) 3)])
  | 38 => some (.agg #[.int .u8 2, .int .u64 (W (oneS 120) 0), .int .u64 (W (oneS 120) 1), .int .u64 (W (oneS 120) 2), .int .u64 (W (oneS 120) 3), .slice none 0 0, .int .i64 0, .int .i64 0, .string { data := #[] }])
  | 39 => some (.agg (repC a h A))
  | _ => none
set_option linter.unusedVariables false in
def TmGP (q : Nat) (base : Nat) (a h : Int) (A : Option Addr) (t : Nat) : Option (Value → World → Prop) :=
  match t with
  | 35 => some (Lit base 120)
  | 36 => some (By [120])
  | 40 => some (Ns (tmG a h))
  | _ => none
def TmG (q : Nat) (base : Nat) (a h : Int) (A : Option Addr) (t : Nat) (v : Value) (u : World) : Prop := (∀ z9, TmGV q base a h A t = some z9 → v = z9) ∧ ∀ R, TmGP q base a h A t = some R → R v u
set_option maxHeartbeats 4000000 in
theorem times_core (m n : Int) (en : Bool) (x y k : Int) (w : World) (hE : EV w) (hT : TV w) (hq1 : Int.tmod m 4097 = x) (hq2 : Int.tmod n 4096 = y) (hx0 : 0 ≤ x) (hx1 : x ≤ 4096) (hy0 : 0 ≤ y) (hy1 : y ≤ 4095) (hmn : min x (y + 1) = k) :
    Calls Tryz.prog 6 #[.int .u16 m, .int .u16 n, .bool en] w fun e w' => e = .returned (.bool true) ∧ Below w.heap.size w w' := by
  have hk0 : 0 ≤ k := by omega
  have hk1 : k ≤ y + 1 := by omega
  go_enter Tryz.func6, Tryz.ntmps6
  go_wp2_with fail
  refine (shown5_any w hT).mono ?_
  rintro e w1 ⟨rfl, b1⟩
  have hsz : (w1.alloc (.cells #[.int .i64 0] 3)).heap.size = w1.heap.size + 1 := World.size_alloc ..
  have hE1 := hE.below b1
  have hT1 := hT.below b1
  have I1 : Its (w1.alloc (.cells #[.int .i64 0] 3)) (w1.alloc (.cells #[.int .i64 0] 3)).heap.size (some ⟨w1.heap.size, 0, none⟩) [0] := its_new w1 [0] 3
  clear hE hT
  have HQ := hidd (And.intro hq1 hq2)
  cases en with
  | false =>
    have HBN : Hid (Bnd k (y + 1)) := ⟨hk0, by omega, .inr ⟨by omega, by omega, by omega⟩⟩
    go_wp2
    have hbox := RowA.new (w1.alloc (.cells #[.int .i64 0] 3)) 38 (repC k (y + 1) (some ⟨w1.heap.size, 0, none⟩))
    have D1 : Below w1.heap.size w1 ((w1.alloc (.cells #[.int .i64 0] 3)).alloc (.cells (repC k (y + 1) (some ⟨w1.heap.size, 0, none⟩)) 38)) := ((Below.refl _ _).alloc (Nat.le_refl _) _).alloc (by rw [hsz]; omega) _
    have I2 := (I1.keep fun p hp => Below.cell ((Below.refl _ (w1.alloc (.cells #[.int .i64 0] 3))).alloc (Nat.le_refl _) (.cells (repC k (y + 1) (some ⟨w1.heap.size, 0, none⟩)) 38)) hp)
    rw [hsz] at hbox I2
    generalize (w1.alloc (.cells #[.int .i64 0] 3)).alloc (.cells (repC k (y + 1) (some ⟨w1.heap.size, 0, none⟩)) 38) = w3 at *
    have hits : Its w3 w3.heap.size (some ⟨w1.heap.size, 0, none⟩) [0] := I2.more (by have := hbox.lt; omega)
    have HD := hidd (b1.trans (D1.mono b1.size))
    have hE3 := hidd (hE1.below D1)
    have hT3 := hidd (hT1.below D1)
    clear I1 I2 D1 b1 hE1 hT1 hsz HQ hq1 hq2 hmn
    generalize w1.heap.size + 1 = q at *
    generalize (some ⟨w1.heap.size, 0, none⟩ : Option Addr) = A at *
    refine wp_region_slotsT 6 (by decide) (by kernel_rfl) (by kernel_rfl) (fun _ _ => true) (TmS w3) (TmG q w3.heap.size k (y + 1) A) (Em w3.heap.size) (by kernel_rfl) (by kernel_rfl) (by kernel_rfl) (by kernel_rfl) ?_ ⟨bel_drew (Below.refl _ _)⟩ [10] (by kernel_rfl) ?_ ?_ ?_
    · intro t d v u u' _ _ hh he
      refine ⟨hh.1, fun R hR => ?_⟩
      have h2 := hh.2 R hR
      unfold TmGP at hR
      split at hR
      · cases hR; exact h2.keep he
      · cases hR; exact by_keep h2 he
      · cases hR; exact ns_keep h2 he
      · cases hR
    · intro u _
      refine ⟨⟨_, rfl, ?_⟩, trivial⟩
      exact ⟨fun _ h => Option.some.inj h, fun _ h => no_some h⟩
    · refine ⟨?_, ?_, ?_, ?_, ?_, ?_, trivial⟩
      · intro a u hS hr K hK
        rw [if_pos (want_none rfl)]
        unfold Oper.wp
        go_simp
        exact hK _ _ ⟨fun _ h => no_some h, fun _ h => spec_ok h (⟨_, (0, 0), rfl, hS.bel.size, by simp, heap_new _ _⟩)⟩ (hS.below ((Below.refl _ _).alloc (Nat.le_refl _) _)) (eby rfl ((Below.refl _ _).alloc (Nat.le_refl _) _))
      · intro a u hS hr K hK
        obtain ⟨⟨vl0, e0, g0⟩, -⟩ := hr
        replace g0 := g0.2 _ rfl
        rw [if_pos (want_none rfl)]
        have hl := g0.by_ (by omega) (by omega)
        obtain ⟨g9, m9, rfl, hg9, hg8, hg7⟩ := g0
        have hcv := conv_mark u g9 1 1 _ m9 hg7
        unfold Oper.wp
        go_simp
        exact hK _ _ ⟨fun _ h => no_some h, fun _ h => spec_ok h (by_keep (base := w3.heap.size) (d := some 36) hl (em36 hg9))⟩ ⟨hS.bel.trans (freeze_below u g9 1 _ hg9)⟩ (em36 hg9)
      · intro a u hS hr K hK
        obtain ⟨⟨vl0, e0, g0⟩, -⟩ := hr
        replace g0 := g0.2 _ rfl
        rw [if_pos (want_none rfl)]
        unfold Oper.wp
        go_simp
        refine (rof_one g0).mono ?_
        rintro e u1 ⟨rfl, hb⟩
        exact hK _ _ ⟨fun _ h => Option.some.inj h, fun _ h => no_some h⟩ (hS.below hb) (eby rfl hb)
      · intro a u hS hr K hK
        obtain ⟨⟨vl0, e0, g0⟩, -⟩ := hr
        obtain rfl := g0.1 _ rfl
        clear g0
        rw [if_pos (want_none rfl)]
        unfold Oper.wp
        go_simp
        exact hK _ _ ⟨fun _ h => Option.some.inj h, fun _ h => no_some h⟩ hS (eby rfl (Below.refl _ _))
      · intro a u hS hr K hK
        obtain ⟨⟨vl0, e0, g0⟩, -⟩ := hr
        obtain rfl := g0.1 _ rfl
        clear g0
        rw [if_pos (want_none rfl)]
        have hbx := hbox.below hS.bel hbox.lt
        obtain ⟨d0, d1, d2, d3, d4, d5, d6, d7, d8⟩ := repC_cells hbx
        unfold Oper.wp
        go_simp
        exact hK _ _ ⟨fun _ h => Option.some.inj h, fun _ h => no_some h⟩ hS (eby rfl (Below.refl _ _))
      · intro a u hS hr K hK
        obtain ⟨⟨vl0, e0, g0⟩, ⟨vl1, e1, g1⟩, -⟩ := hr
        obtain rfl := g0.1 _ rfl
        clear g0
        obtain rfl := g1.1 _ rfl
        clear g1
        rw [if_pos (want_none rfl)]
        unfold Oper.wp
        go_simp
        exact hK _ _ ⟨fun _ h => no_some h, fun _ h => spec_ok h (tm_new ((hits.below hS.bel).more hS.bel.size))⟩ (hS.below ((Below.refl _ _).alloc (Nat.le_refl _) _)) (eby rfl ((Below.refl _ _).alloc (Nat.le_refl _) _))
    intro a u hS hts hd hkn hf
    have D4 := hidd (HD.out.trans (hS.bel.mono HD.out.size))
    have hEu := hidd (hE3.out.below hS.bel)
    have hTu := hidd (hT3.out.below hS.bel)
    clear hbox hits HD hE3 hT3 hS
    obtain ⟨v35, e35, g35⟩ := hf 0 _ 35 (by decide) rfl rfl (fun _ => rfl)
    obtain ⟨v36, e36, g36⟩ := hf 1 _ 36 (by decide) rfl rfl (fun _ => rfl)
    obtain ⟨v37, e37, g37⟩ := hf 2 _ 37 (by decide) rfl rfl (fun _ => rfl)
    obtain ⟨v38, e38, g38⟩ := hf 3 _ 38 (by decide) rfl rfl (fun _ => rfl)
    obtain ⟨v39, e39, g39⟩ := hf 4 _ 39 (by decide) rfl rfl (fun _ => rfl)
    obtain ⟨v40, e40, g40⟩ := hf 5 _ 40 (by decide) rfl rfl (fun _ => rfl)
    obtain ⟨v11, e11⟩ : ∃ z, a.tmps[11]? = some z := ⟨_, Array.getElem?_eq_getElem (by rw [hts]; simp)⟩
    have hA := act_puts [(35, v35), (36, v36), (37, v37), (38, v38), (39, v39), (40, v40), (11, v11)] hts hd hkn (by kernel_rfl) (by simp [e35, e36, e37, e38, e39, e40, e11])
    clear hf hts hd hkn e35 e36 e37 e38 e39 e40 e11
    replace g35 := g35.2 _ rfl
    replace g36 := g36.2 _ rfl
    obtain rfl := g37.1 _ rfl
    clear g37
    obtain rfl := g38.1 _ rfl
    clear g38
    obtain rfl := g39.1 _ rfl
    clear g39
    replace g40 := g40.2 _ rfl
    subst hA
    simp only [List.foldl, List.setIfInBounds_toArray, List.set_cons_zero, List.set_cons_succ]
    obtain ⟨A5, c5, rfl, hN⟩ := g40
    clear g35 g36
    simp only [List.drop_succ_cons, List.drop_zero]
    have htr := tree_rn A5 c5 (tmG k (y + 1)) (tmN k (y + 1)) u hN (tm_rn HBN.out) hTu.out
    have hpa := hidd (parse_again (tm_rn HBN.out) (tm_40 HBN.out).1 (tm_40 HBN.out).2)
    have q1 : Hid ((timesT k (y + 1) = [42] → (txt (treeT (tmN k (y + 1)))).toList = [120, 42]) ∧ (¬ timesT k (y + 1) = [42] → ¬ (txt (treeT (tmN k (y + 1)))).toList = [120, 42])) := ⟨tm_is HBN.out 42, tm_no HBN.out 42⟩
    have q2 : Hid ((timesT k (y + 1) = [43] → (txt (treeT (tmN k (y + 1)))).toList = [120, 43]) ∧ (¬ timesT k (y + 1) = [43] → ¬ (txt (treeT (tmN k (y + 1)))).toList = [120, 43])) := ⟨tm_is HBN.out 43, tm_no HBN.out 43⟩
    have q3 : Hid ((timesT k (y + 1) = [63] → (txt (treeT (tmN k (y + 1)))).toList = [120, 63]) ∧ (¬ timesT k (y + 1) = [63] → ¬ (txt (treeT (tmN k (y + 1)))).toList = [120, 63])) := ⟨tm_is HBN.out 63, tm_no HBN.out 63⟩
    simp only [tm_len]
    rw [tm_len] at htr
    have HN := hidd hN
    generalize txt (treeT (tmN k (y + 1))) = s at *
    clear hN
    go_wp2_with fail
    refine htr.mono ?_
    rintro e u2 ⟨rfl, b2⟩
    have hpb := hpa.out u2 (hEu.out.below b2)
    have HB2 := hidd b2
    clear htr hpa b2
    go_wp2_with fail
    refine hpb.mono ?_
    rintro e u3 ⟨A6, c6, gs6, rfl, hN6, hG6, b3⟩
    have b23 := HB2.out.trans (b3.mono HB2.out.size)
    have hsm := same_gn (tm_rn HBN.out) hG6 A5 A6 c5 c6 u3 ((HN.out.below b23).more b23.size) hN6
    rw [tm_len] at hsm
    have D5 := hidd (D4.out.trans (b23.mono D4.out.size))
    clear hpb HB2 HN b3 b23 hN6 hG6 D4 hEu hTu
    by_cases hs : k = 0 ∧ y = 0
    · obtain ⟨rfl, rfl⟩ := hs
      have t1 : timesT 0 (0 + 1) = [63] := by decide
      have q1' := q1.out.2 (by rw [t1]; decide)
      have q2' := q2.out.2 (by rw [t1]; decide)
      have q3' := q3.out.1 t1
      clear q1 q2 q3 t1
      go_wp2_with fail
      refine hsm.mono ?_
      rintro e u4 ⟨rfl, b4⟩
      have D6 := hidd (D5.out.trans (b4.mono D5.out.size))
      clear hsm b4 D5
      go_wp2
      go_ret
      first
      | exact ⟨rfl, D6.out⟩
      | (refine ⟨?_, D6.out⟩
         simp [q1', q2', q3']
         done)
      | (refine ⟨?_, D6.out⟩
         simp
         rw [beq_eq_false_iff_ne.2 q1', beq_eq_false_iff_ne.2 q2', beq_eq_false_iff_ne.2 q3', decide_eq_false (by omega)]
         rfl)
    · obtain ⟨r, hr⟩ := times_long (lo := k) (hi := y + 1) (by omega) (by omega) (by omega)
      have q1' := q1.out.2 (by rw [hr]; intro e; cases e)
      have q2' := q2.out.2 (by rw [hr]; intro e; cases e)
      have q3' := q3.out.2 (by rw [hr]; intro e; cases e)
      clear q1 q2 q3 hr
      have hz : ((k == 0) && (y + 1 == 1)) = false := by simp; omega
      by_cases hk : k = 0
      · subst hk
        have hy : (y + 1 == 1) = false := by simp; omega
        go_wp2_with fail
        refine hsm.mono ?_
        rintro e u4 ⟨rfl, b4⟩
        have D6 := hidd (D5.out.trans (b4.mono D5.out.size))
        clear hsm b4 D5
        go_wp2
        go_ret
        first
        | exact ⟨rfl, D6.out⟩
        | (refine ⟨?_, D6.out⟩
           simp [q1', q2', q3']
           done)
        | (refine ⟨?_, D6.out⟩
           simp
           rw [beq_eq_false_iff_ne.2 q1', beq_eq_false_iff_ne.2 q2', beq_eq_false_iff_ne.2 q3', decide_eq_false (by omega)]
           rfl)
      · have hkk : (k == 0) = false := by simp; omega
        go_wp2_with fail
        refine hsm.mono ?_
        rintro e u4 ⟨rfl, b4⟩
        have D6 := hidd (D5.out.trans (b4.mono D5.out.size))
        clear hsm b4 D5
        go_wp2
        go_ret
        first
        | exact ⟨rfl, D6.out⟩
        | (refine ⟨?_, D6.out⟩
           simp [q1', q2', q3']
           done)
        | (refine ⟨?_, D6.out⟩
           simp
           rw [beq_eq_false_iff_ne.2 q1', beq_eq_false_iff_ne.2 q2', beq_eq_false_iff_ne.2 q3', decide_eq_false (by omega)]
           rfl)
  | true =>
    have HBN : Hid (Bnd k (-1)) := ⟨hk0, by omega, .inl rfl⟩
    go_wp2
    have hbox := RowA.new (w1.alloc (.cells #[.int .i64 0] 3)) 38 (repC k (-1) (some ⟨w1.heap.size, 0, none⟩))
    have D1 : Below w1.heap.size w1 ((w1.alloc (.cells #[.int .i64 0] 3)).alloc (.cells (repC k (-1) (some ⟨w1.heap.size, 0, none⟩)) 38)) := ((Below.refl _ _).alloc (Nat.le_refl _) _).alloc (by rw [hsz]; omega) _
    have I2 := (I1.keep fun p hp => Below.cell ((Below.refl _ (w1.alloc (.cells #[.int .i64 0] 3))).alloc (Nat.le_refl _) (.cells (repC k (-1) (some ⟨w1.heap.size, 0, none⟩)) 38)) hp)
    rw [hsz] at hbox I2
    generalize (w1.alloc (.cells #[.int .i64 0] 3)).alloc (.cells (repC k (-1) (some ⟨w1.heap.size, 0, none⟩)) 38) = w3 at *
    have hits : Its w3 w3.heap.size (some ⟨w1.heap.size, 0, none⟩) [0] := I2.more (by have := hbox.lt; omega)
    have HD := hidd (b1.trans (D1.mono b1.size))
    have hE3 := hidd (hE1.below D1)
    have hT3 := hidd (hT1.below D1)
    clear I1 I2 D1 b1 hE1 hT1 hsz HQ hq1 hq2 hmn
    generalize w1.heap.size + 1 = q at *
    generalize (some ⟨w1.heap.size, 0, none⟩ : Option Addr) = A at *
    refine wp_region_slotsT 6 (by decide) (by kernel_rfl) (by kernel_rfl) (fun _ _ => true) (TmS w3) (TmG q w3.heap.size k (-1) A) (Em w3.heap.size) (by kernel_rfl) (by kernel_rfl) (by kernel_rfl) (by kernel_rfl) ?_ ⟨bel_drew (Below.refl _ _)⟩ [10] (by kernel_rfl) ?_ ?_ ?_
    · intro t d v u u' _ _ hh he
      refine ⟨hh.1, fun R hR => ?_⟩
      have h2 := hh.2 R hR
      unfold TmGP at hR
      split at hR
      · cases hR; exact h2.keep he
      · cases hR; exact by_keep h2 he
      · cases hR; exact ns_keep h2 he
      · cases hR
    · intro u _
      refine ⟨⟨_, rfl, ?_⟩, trivial⟩
      exact ⟨fun _ h => Option.some.inj h, fun _ h => no_some h⟩
    · refine ⟨?_, ?_, ?_, ?_, ?_, ?_, trivial⟩
      · intro a u hS hr K hK
        rw [if_pos (want_none rfl)]
        unfold Oper.wp
        go_simp
        exact hK _ _ ⟨fun _ h => no_some h, fun _ h => spec_ok h (⟨_, (0, 0), rfl, hS.bel.size, by simp, heap_new _ _⟩)⟩ (hS.below ((Below.refl _ _).alloc (Nat.le_refl _) _)) (eby rfl ((Below.refl _ _).alloc (Nat.le_refl _) _))
      · intro a u hS hr K hK
        obtain ⟨⟨vl0, e0, g0⟩, -⟩ := hr
        replace g0 := g0.2 _ rfl
        rw [if_pos (want_none rfl)]
        have hl := g0.by_ (by omega) (by omega)
        obtain ⟨g9, m9, rfl, hg9, hg8, hg7⟩ := g0
        have hcv := conv_mark u g9 1 1 _ m9 hg7
        unfold Oper.wp
        go_simp
        exact hK _ _ ⟨fun _ h => no_some h, fun _ h => spec_ok h (by_keep (base := w3.heap.size) (d := some 36) hl (em36 hg9))⟩ ⟨hS.bel.trans (freeze_below u g9 1 _ hg9)⟩ (em36 hg9)
      · intro a u hS hr K hK
        obtain ⟨⟨vl0, e0, g0⟩, -⟩ := hr
        replace g0 := g0.2 _ rfl
        rw [if_pos (want_none rfl)]
        unfold Oper.wp
        go_simp
        refine (rof_one g0).mono ?_
        rintro e u1 ⟨rfl, hb⟩
        exact hK _ _ ⟨fun _ h => Option.some.inj h, fun _ h => no_some h⟩ (hS.below hb) (eby rfl hb)
      · intro a u hS hr K hK
        obtain ⟨⟨vl0, e0, g0⟩, -⟩ := hr
        obtain rfl := g0.1 _ rfl
        clear g0
        rw [if_pos (want_none rfl)]
        unfold Oper.wp
        go_simp
        exact hK _ _ ⟨fun _ h => Option.some.inj h, fun _ h => no_some h⟩ hS (eby rfl (Below.refl _ _))
      · intro a u hS hr K hK
        obtain ⟨⟨vl0, e0, g0⟩, -⟩ := hr
        obtain rfl := g0.1 _ rfl
        clear g0
        rw [if_pos (want_none rfl)]
        have hbx := hbox.below hS.bel hbox.lt
        obtain ⟨d0, d1, d2, d3, d4, d5, d6, d7, d8⟩ := repC_cells hbx
        unfold Oper.wp
        go_simp
        exact hK _ _ ⟨fun _ h => Option.some.inj h, fun _ h => no_some h⟩ hS (eby rfl (Below.refl _ _))
      · intro a u hS hr K hK
        obtain ⟨⟨vl0, e0, g0⟩, ⟨vl1, e1, g1⟩, -⟩ := hr
        obtain rfl := g0.1 _ rfl
        clear g0
        obtain rfl := g1.1 _ rfl
        clear g1
        rw [if_pos (want_none rfl)]
        unfold Oper.wp
        go_simp
        exact hK _ _ ⟨fun _ h => no_some h, fun _ h => spec_ok h (tm_new ((hits.below hS.bel).more hS.bel.size))⟩ (hS.below ((Below.refl _ _).alloc (Nat.le_refl _) _)) (eby rfl ((Below.refl _ _).alloc (Nat.le_refl _) _))
    intro a u hS hts hd hkn hf
    have D4 := hidd (HD.out.trans (hS.bel.mono HD.out.size))
    have hEu := hidd (hE3.out.below hS.bel)
    have hTu := hidd (hT3.out.below hS.bel)
    clear hbox hits HD hE3 hT3 hS
    obtain ⟨v35, e35, g35⟩ := hf 0 _ 35 (by decide) rfl rfl (fun _ => rfl)
    obtain ⟨v36, e36, g36⟩ := hf 1 _ 36 (by decide) rfl rfl (fun _ => rfl)
    obtain ⟨v37, e37, g37⟩ := hf 2 _ 37 (by decide) rfl rfl (fun _ => rfl)
    obtain ⟨v38, e38, g38⟩ := hf 3 _ 38 (by decide) rfl rfl (fun _ => rfl)
    obtain ⟨v39, e39, g39⟩ := hf 4 _ 39 (by decide) rfl rfl (fun _ => rfl)
    obtain ⟨v40, e40, g40⟩ := hf 5 _ 40 (by decide) rfl rfl (fun _ => rfl)
    obtain ⟨v11, e11⟩ : ∃ z, a.tmps[11]? = some z := ⟨_, Array.getElem?_eq_getElem (by rw [hts]; simp)⟩
    have hA := act_puts [(35, v35), (36, v36), (37, v37), (38, v38), (39, v39), (40, v40), (11, v11)] hts hd hkn (by kernel_rfl) (by simp [e35, e36, e37, e38, e39, e40, e11])
    clear hf hts hd hkn e35 e36 e37 e38 e39 e40 e11
    replace g35 := g35.2 _ rfl
    replace g36 := g36.2 _ rfl
    obtain rfl := g37.1 _ rfl
    clear g37
    obtain rfl := g38.1 _ rfl
    clear g38
    obtain rfl := g39.1 _ rfl
    clear g39
    replace g40 := g40.2 _ rfl
    subst hA
    simp only [List.foldl, List.setIfInBounds_toArray, List.set_cons_zero, List.set_cons_succ]
    obtain ⟨A5, c5, rfl, hN⟩ := g40
    clear g35 g36
    simp only [List.drop_succ_cons, List.drop_zero]
    have htr := tree_rn A5 c5 (tmG k (-1)) (tmN k (-1)) u hN (tm_rn HBN.out) hTu.out
    have hpa := hidd (parse_again (tm_rn HBN.out) (tm_40 HBN.out).1 (tm_40 HBN.out).2)
    have q1 : Hid ((timesT k (-1) = [42] → (txt (treeT (tmN k (-1)))).toList = [120, 42]) ∧ (¬ timesT k (-1) = [42] → ¬ (txt (treeT (tmN k (-1)))).toList = [120, 42])) := ⟨tm_is HBN.out 42, tm_no HBN.out 42⟩
    have q2 : Hid ((timesT k (-1) = [43] → (txt (treeT (tmN k (-1)))).toList = [120, 43]) ∧ (¬ timesT k (-1) = [43] → ¬ (txt (treeT (tmN k (-1)))).toList = [120, 43])) := ⟨tm_is HBN.out 43, tm_no HBN.out 43⟩
    have q3 : Hid ((timesT k (-1) = [63] → (txt (treeT (tmN k (-1)))).toList = [120, 63]) ∧ (¬ timesT k (-1) = [63] → ¬ (txt (treeT (tmN k (-1)))).toList = [120, 63])) := ⟨tm_is HBN.out 63, tm_no HBN.out 63⟩
    simp only [tm_len]
    rw [tm_len] at htr
    have HN := hidd hN
    generalize txt (treeT (tmN k (-1))) = s at *
    clear hN
    go_wp2_with fail
    refine htr.mono ?_
    rintro e u2 ⟨rfl, b2⟩
    have hpb := hpa.out u2 (hEu.out.below b2)
    have HB2 := hidd b2
    clear htr hpa b2
    go_wp2_with fail
    refine hpb.mono ?_
    rintro e u3 ⟨A6, c6, gs6, rfl, hN6, hG6, b3⟩
    have b23 := HB2.out.trans (b3.mono HB2.out.size)
    have hsm := same_gn (tm_rn HBN.out) hG6 A5 A6 c5 c6 u3 ((HN.out.below b23).more b23.size) hN6
    rw [tm_len] at hsm
    have D5 := hidd (D4.out.trans (b23.mono D4.out.size))
    clear hpb HB2 HN b3 b23 hN6 hG6 D4 hEu hTu
    by_cases hs0 : k = 0
    · subst hs0
      have t1 : timesT 0 (-1) = [42] := by decide
      have q1' := q1.out.1 t1
      clear q1 q2 q3 t1
      go_wp2_with fail
      refine hsm.mono ?_
      rintro e u4 ⟨rfl, b4⟩
      have D6 := hidd (D5.out.trans (b4.mono D5.out.size))
      clear hsm b4 D5
      go_wp2
      go_ret
      first
      | exact ⟨rfl, D6.out⟩
      | (refine ⟨?_, D6.out⟩
         simp [q1', q2', q3']
         done)
      | (refine ⟨?_, D6.out⟩
         simp
         rw [beq_eq_false_iff_ne.2 q1', beq_eq_false_iff_ne.2 q2', beq_eq_false_iff_ne.2 q3', decide_eq_false (by omega)]
         rfl)
    by_cases hs1 : k = 1
    · subst hs1
      have t1 : timesT 1 (-1) = [43] := by decide
      have q1' := q1.out.2 (by rw [t1]; decide)
      have q2' := q2.out.1 t1
      clear q1 q2 q3 t1
      go_wp2_with fail
      refine hsm.mono ?_
      rintro e u4 ⟨rfl, b4⟩
      have D6 := hidd (D5.out.trans (b4.mono D5.out.size))
      clear hsm b4 D5
      go_wp2
      go_ret
      first
      | exact ⟨rfl, D6.out⟩
      | (refine ⟨?_, D6.out⟩
         simp [q1', q2', q3']
         done)
      | (refine ⟨?_, D6.out⟩
         simp
         rw [beq_eq_false_iff_ne.2 q1', beq_eq_false_iff_ne.2 q2', beq_eq_false_iff_ne.2 q3', decide_eq_false (by omega)]
         rfl)
    · obtain ⟨r, hr⟩ := times_long (lo := k) (hi := -1) (by omega) (by omega) (by omega)
      have q1' := q1.out.2 (by rw [hr]; intro e; cases e)
      have q2' := q2.out.2 (by rw [hr]; intro e; cases e)
      have q3' := q3.out.2 (by rw [hr]; intro e; cases e)
      clear q1 q2 q3 hr
      have hk2 : ¬ k < 2 := by omega
      go_wp2_with fail
      refine hsm.mono ?_
      rintro e u4 ⟨rfl, b4⟩
      have D6 := hidd (D5.out.trans (b4.mono D5.out.size))
      clear hsm b4 D5
      go_wp2
      go_ret
      first
      | exact ⟨rfl, D6.out⟩
      | (refine ⟨?_, D6.out⟩
         simp [q1', q2', q3']
         done)
      | (refine ⟨?_, D6.out⟩
         simp
         rw [beq_eq_false_iff_ne.2 q1', beq_eq_false_iff_ne.2 q2', beq_eq_false_iff_ne.2 q3', decide_eq_false (by omega)]
         rfl)
end Go.Proofs.YtghjkbjpdjlddaaGreatDoor.Sy.Pn.Tm

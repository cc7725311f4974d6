/- The landed Fold. -/
import Derived.Test.YtgppanbikfobbaaAv
namespace Go.Proofs.Ytgppanbikfobbaa.Sy.Ap
open Go.RowKit
set_option maxRecDepth 100000
set_option linter.unusedVariables false

def setSG (g : Gd) (s : Nat → Bool) : Gd := ⟨g.op, s, g.l, g.lo, g.hi, g.nm⟩
def foldG (g : Gd) : Gd := if g.op = 2 then setSG g (foldK 123 g.s) else g
theorem foldK_congr {p q : Nat → Bool} (h : ∀ b, b < 256 → p b = q b) : ∀ b, b < 256 → foldK 123 p b = foldK 123 q b := fun b hb => by
  unfold foldK
  rw [h b hb]
  congr 1
  · congr 1
    by_cases h1 : 97 ≤ b ∧ b < 123
    · rw [h (b - 32) (by omega)]
    · rw [decide_eq_false h1]; rfl
  · by_cases h1 : 65 ≤ b ∧ b + 32 < 123
    · rw [h (b + 32) (by omega)]
    · rw [decide_eq_false h1]; rfl
theorem shape_set {n : Nd} (h : shapeB n = true) (h2 : n.op ≠ 2) : emptyS n.s = true := by
  unfold shapeB zeroB at h
  repeat' split at h
  all_goals first
    | contradiction
    | (simp only [Bool.and_eq_true] at h; simp only [h])
    | cases h
theorem gn1_fold {g : Gd} {n : Nd} (h : GN1 g n) (hs : shapeB n = true) : GN1 (foldG g) (foldN n) := by
  unfold foldG
  by_cases h2 : g.op = 2
  · rw [if_pos h2]
    exact ⟨h.op, foldK_congr h.s, h.l, h.lo, h.hi, h.nm⟩
  · rw [if_neg h2]
    have he := shape_set hs (fun q => h2 (by rw [h.op, q]; rfl))
    have hf : emptyS (foldK 123 n.s) = true := by rw [emptyS_fold]; exact he
    refine ⟨h.op, fun b hb => ?_, h.l, h.lo, h.hi, h.nm⟩
    rw [h.s b hb, (emptyS_iff _).1 he b hb]
    exact ((emptyS_iff _).1 hf b hb).symm
theorem gn_fold {gs : List Gd} {ns : List Nd} (h : GN gs ns) (hs : Shp ns) : GN (gs.map foldG) (foldL ns) := by
  refine ⟨by rw [List.length_map, foldL_len]; exact h.1, fun i hi => ?_⟩
  rw [List.length_map] at hi
  have hi2 : i < ns.length := by rw [← h.1]; exact hi
  have h1 := h.2 i hi
  unfold foldL
  rw [List.getD_eq_getElem?_getD, List.getElem?_eq_getElem hi, List.getD_eq_getElem?_getD, List.getElem?_eq_getElem hi2] at h1
  rw [List.getD_eq_getElem?_getD, List.getElem?_map, List.getElem?_eq_getElem hi, List.getD_eq_getElem?_getD, List.getElem?_map, List.getElem?_eq_getElem hi2]
  exact gn1_fold h1 (hs _ (List.getElem_mem hi2))
theorem gn_nm {gs : List Gd} {ns : List Nd} (hg : GN gs ns) (hs : Shp ns) : ∀ g ∈ gs, g.nm.size ≤ 100000 := by
  intro g hgm
  obtain ⟨i, hi, rfl⟩ := List.getElem_of_mem hgm
  have h1 := (hg.2 i hi).nm
  have hi2 : i < ns.length := by rw [← hg.1]; exact hi
  rw [List.getD_eq_getElem?_getD, List.getElem?_eq_getElem hi, List.getD_eq_getElem?_getD, List.getElem?_eq_getElem hi2] at h1
  simp only [Option.getD_some] at h1
  have h3 := name_short (hs _ (List.getElem_mem hi2))
  rw [← h1, bs_len] at h3
  omega

theorem there_row {w : World} {g : Nat} {t : TypeId} {cs : Array Value} (r : RowA w g t cs) {o n : Nat} (h : o + n ≤ cs.size) : w.there g o n := fun j hj => by
  refine ⟨?_, r.thawed _⟩
  have hlt : o + j < cs.size := by omega
  rw [r.at_ (k := o + j) (v := cs[o + j]) (Array.getElem?_eq_getElem hlt)]
  rfl
theorem row_cells {g : Nat} {t : TypeId} : ∀ (vs : List Value) (o : Nat) (w : World) (cs : Array Value), RowA w g t cs → ∃ cs', RowA (w.setCells g o vs) g t cs' ∧ cs'.size = cs.size
  | [], _, w, cs, r => ⟨cs, r, rfl⟩
  | v :: vs, o, w, cs, r => by
    obtain ⟨c2, r2, h2⟩ := row_cells vs (o + 1) _ _ (r.set o v)
    exact ⟨c2, r2, by rw [h2]; simp⟩
theorem bel_cells {B g : Nat} {a : World} (hB : B ≤ g) : ∀ (vs : List Value) (o : Nat) (w : World), Below B a w → Below B a (w.setCells g o vs)
  | [], _, w, h => h
  | v :: vs, o, w, h => bel_cells hB vs (o + 1) _ (bel_set h _ v hB)
theorem own_cells {base : Nat} {e e' : TypeId} {sz n g : Nat} {v : Value} {xs : List Value} (hne : e ≠ e') : ∀ (vs : List Value) (o : Nat) (w : World) (cs : Array Value), RowA w g e' cs → w.ownsRow base e sz v n xs → (w.setCells g o vs).ownsRow base e sz v n xs
  | [], _, w, cs, _, h => h
  | u :: vs, o, w, cs, r, h => own_cells hne vs (o + 1) _ _ (r.set o u) (own_sb h (own_neR h r hne) u)
/-- So many nodes are folded. -/
structure FdS (w : World) (b n : Nat) (gs : List Gd) (k : Nat) (wr : World) : Prop where
  row : ∃ cs, RowA wr b 41 cs ∧ cs.size = n * 9
  rows : ∀ i, i < k → ∃ A c, wr.ownsRow w.heap.size 3 1 (.slice A (gs.getD i gd0).l.length c) (gs.getD i gd0).l.length (ints (gs.getD i gd0).l) ∧ wr.rangeAt b (i * 9) (gdL (foldG (gs.getD i gd0)) A c)
  bel : Below w.heap.size w wr
  base : w.heap.size ≤ b
theorem foldG_l (g : Gd) : (foldG g).l = g.l := by unfold foldG; split <;> rfl
/-- Once more round: what the round did far from the row (w'), and the row's node. -/
theorem FdS.next {w : World} {b n : Nat} {gs : List Gd} {k : Nat} {wr w' : World} (h : FdS w b n gs k wr) (hk : k < n) (hb : Below wr.heap.size wr w') {A : Option Addr} {c : Nat} {g : Gd} (hg : gs.getD k gd0 = g)
    (ho : w'.ownsRow w.heap.size 3 1 (.slice A g.l.length c) g.l.length (ints g.l)) : FdS w b n gs (k + 1) (w'.setCells b (k * 9) (gdL (foldG g) A c)) := by
  obtain ⟨cs, r, hcs⟩ := h.row
  have r' : RowA w' b 41 cs := r.below hb r.lt
  obtain ⟨cs2, r2, h2⟩ := row_cells (gdL (foldG g) A c) (k * 9) w' cs r'
  have hth : w'.there b (k * 9) (gdL (foldG g) A c).length := there_row r' (by rw [hcs]; show k * 9 + 9 ≤ _; omega)
  refine ⟨⟨cs2, r2, h2.trans hcs⟩, fun i hi => ?_, bel_cells h.base _ _ _ (h.bel.trans (hb.mono h.bel.size)), h.base⟩
  by_cases hik : i = k
  · subst hik
    rw [hg]
    exact ⟨A, c, own_cells (by decide) _ _ _ _ r' ho, World.rangeAt_setCells_same w' b (i * 9) _ hth⟩
  · obtain ⟨A1, c1, o1, r1⟩ := h.rows i (by omega)
    refine ⟨A1, c1, own_cells (by decide) _ _ _ _ r' (own_below o1 hb (Nat.le_refl _)), ?_⟩
    refine World.rangeAt_setCells_apart (fun j v hv => ?_) b (k * 9) _ (.inr (.inl (by show i * 9 + 9 ≤ k * 9; omega)))
    rw [hb.cell (by exact r.lt)]
    exact r1 j v hv
theorem FdS.nds {w : World} {b n : Nat} {gs : List Gd} {wr : World} (h : FdS w b n gs n wr) (hn : gs.length = n) : Nds wr wr.heap.size (some ⟨b, 0, none⟩) (gs.map foldG) := fun _ => by
  obtain ⟨cs, r, hcs⟩ := h.row
  refine ⟨b, 0, rfl, r.lt, fun i hi => ?_⟩
  rw [List.length_map] at hi
  obtain ⟨A, c, o1, r1⟩ := h.rows i (by omega)
  have e : (gs.map foldG).getD i gd0 = foldG (gs.getD i gd0) := by
    rw [List.getD_eq_getElem?_getD, List.getElem?_map, List.getD_eq_getElem?_getD, List.getElem?_eq_getElem hi]
    rfl
  rw [e, Nat.zero_add]
  refine ⟨A, c, ?_, r1⟩
  rw [foldG_l]
  exact its_own o1 rfl
/-- Nodes whose rows are told by their types: they stay where rows of other types grow. -/
def NdT (u : World) (A : Option Addr) (gs : List Gd) : Prop :=
  gs ≠ [] → ∃ b cs, A = some ⟨b, 0, none⟩ ∧ RowA u b 41 cs ∧ ∀ i, i < gs.length → ∃ A' c', u.ownsRow 0 3 1 (.slice A' (gs.getD i gd0).l.length c') (gs.getD i gd0).l.length (ints (gs.getD i gd0).l) ∧ u.rangeAt b (i * 9) (gdL (gs.getD i gd0) A' c')
theorem NdT.nds {u : World} {A : Option Addr} {gs : List Gd} (h : NdT u A gs) : Nds u u.heap.size A gs := fun hne => by
  obtain ⟨b, cs, e, R, hi⟩ := h hne
  refine ⟨b, 0, e, R.lt, fun i hi2 => ?_⟩
  obtain ⟨A', c', o, r⟩ := hi i hi2
  rw [Nat.zero_add]
  exact ⟨A', c', its_own o rfl, r⟩
theorem NdT.below {u u' : World} {A : Option Addr} {gs : List Gd} (h : NdT u A gs) (hb : Below u.heap.size u u') : NdT u' A gs := fun hne => by
  obtain ⟨b, cs, e, R, hi⟩ := h hne
  refine ⟨b, cs, e, R.below hb R.lt, fun i hi2 => ?_⟩
  obtain ⟨A', c', o, r⟩ := hi i hi2
  exact ⟨A', c', own_below o hb (Nat.le_refl _), fun j v hv => by rw [hb.cell (by exact R.lt)]; exact r j v hv⟩
theorem NdT.grown {u u' : World} {A : Option Addr} {gs : List Gd} {B n : Nat} {yv : Value} {xs : List Value} (h : NdT u A gs) (hy : u.ownsRow B 35 2 yv n xs) (hg : u.grownBy u' yv.ownBlock) : NdT u' A gs := fun hne => by
  obtain ⟨b, cs, e, R, hi⟩ := h hne
  have hblk : u'.heap[b]? = u.heap[b]? := hg.block b R.lt (fun q => own_neR hy R (by decide) q.symm)
  have R' : RowA u' b 41 cs := hblk.trans R
  refine ⟨b, cs, e, R', fun i hi2 => ?_⟩
  obtain ⟨A', c', o, r⟩ := hi i hi2
  refine ⟨A', c', own_kept o hg (fun k hk => fun q => own_apart hy o (by decide) k hk q), fun j v hv => ?_⟩
  have h1 := r j v hv
  unfold RowA at R R'
  simp only [World.cell?, R] at h1
  simp only [World.cell?, R']
  exact h1
theorem own_less {w : World} {b b' : Nat} {e : TypeId} {size : Nat} {v : Value} {n : Nat} {xs : List Value} (h : w.ownsRow b e size v n xs) (hb : b' ≤ b) : w.ownsRow b' e size v n xs := by
  obtain ⟨h1, h2⟩ := h
  refine ⟨h1, ?_⟩
  rcases h2 with h2 | ⟨g, cap, cur, hv, hg, r⟩
  · exact .inl h2
  · exact .inr ⟨g, cap, cur, hv, Nat.le_trans hb hg, r⟩
theorem FdS.ndT {w : World} {b n : Nat} {gs : List Gd} {wr : World} (h : FdS w b n gs n wr) (hn : gs.length = n) : NdT wr (some ⟨b, 0, none⟩) (gs.map foldG) := fun _ => by
  obtain ⟨cs, r, hcs⟩ := h.row
  refine ⟨b, cs, rfl, r, fun i hi => ?_⟩
  rw [List.length_map] at hi
  obtain ⟨A, c, o1, r1⟩ := h.rows i (by omega)
  have e : (gs.map foldG).getD i gd0 = foldG (gs.getD i gd0) := by
    rw [List.getD_eq_getElem?_getD, List.getElem?_map, List.getD_eq_getElem?_getD, List.getElem?_eq_getElem hi]
    rfl
  rw [e, foldG_l]
  exact ⟨A, c, own_less o1 (Nat.zero_le _), r1⟩
def FldT (w : World) (gs : List Gd) (e : Ending) (w' : World) : Prop :=
  Below w.heap.size w w' ∧ ∃ A, e = .returned (.slice A gs.length gs.length) ∧ NdT w' A (gs.map foldG)
def FldR (w : World) (gs : List Gd) (e : Ending) (w' : World) : Prop :=
  Below w.heap.size w w' ∧ ∃ A, e = .returned (.slice A gs.length gs.length) ∧ Nds w' w'.heap.size A (gs.map foldG)
set_option maxHeartbeats 1000000 in
theorem fold_bad (A : Option Addr) (c : Nat) (gs : List Gd) (w : World) (hN : Nds w w.heap.size A gs) (hl : gs.length ≤ 2000) (hsm : Small gs) (hno : ¬ RightG gs) :
    Calls Try.prog 12 #[.slice A gs.length c] w fun e w' => Below w.heap.size w w' ∧ e = .returned (.slice none 0 0) := by
  have hR := right_any A c gs w hN hl hsm
  have HNO := hidd hno
  clear hN hsm hno hl
  generalize gs.length = n at *
  go_enter Try.func12, Try.ntmps12
  go_wp2_with fail
  refine hR.mono ?_
  rintro e w2 ⟨z, rfl, hz, hb2⟩
  have hz2 : z = false := by
    cases z with
    | false => rfl
    | true => exact absurd (hz.1 rfl) HNO.out
  subst hz2
  have HB := hidd hb2
  clear hz hb2 hR
  go_wp2
  go_ret
  exact ⟨HB.out, rfl⟩
theorem make_nodes (n : Nat) (hn : n ≤ 100000) (w : World) : (Instr.makeSlice 22 (.int .i64 (n : Int)) (.int .i64 (n : Int))).run Try.prog w =
    .ok (.slice (some ⟨w.heap.size, 0, none⟩) n n) (w.alloc (.cells (madeCells (Value.agg zeroC).cells (n * 9)) 41)) := by
  obtain ⟨i0, hi0, hz0, hz1, hz2⟩ := info_parts node_info
  have := run_make (P := Try.prog) w 22 41 i0 _ Try.underlying22 hi0 hz0 .i64 .i64 (n : Int) (n : Int) (by omega) (Int.le_refl _) (by rw [hz2]; omega) (by omega)
  rw [this, hz1, Int.toNat_natCast]
theorem range_row {w : World} {g : Nat} {t : TypeId} {cs : List Value} (r : RowA w g t cs.toArray) : w.rangeAt g 0 cs := fun j v hv => by
  rw [Nat.zero_add]
  exact r.at_ (by rw [List.getElem?_toArray]; exact hv)
theorem range_set {w : World} {q : Nat} {g : Gd} {A : Option Addr} {c : Nat} (r : RowA w q 41 (gdL g A c).toArray) : w.rangeAt q 1 [.int .u64 (W g.s 0), .int .u64 (W g.s 1), .int .u64 (W g.s 2), .int .u64 (W g.s 3)] := fun j v hv => by
  have hj : j < 4 := by
    rcases Nat.lt_or_ge j 4 with h | h
    · exact h
    · rw [List.getElem?_eq_none (by show 4 ≤ j; exact h)] at hv; cases hv
  obtain ⟨d0, d1, d2, d3, d4, -⟩ := node_cells r
  rcases (by omega : j = 0 ∨ j = 1 ∨ j = 2 ∨ j = 3) with rfl | rfl | rfl | rfl
  · cases hv; exact d1
  · cases hv; exact d2
  · cases hv; exact d3
  · cases hv; exact d4
set_option maxHeartbeats 1000000 in
theorem fold_okT (A : Option Addr) (c : Nat) (gs : List Gd) (ns : List Nd) (w : World) (hN : Nds w w.heap.size A gs) (hg : GN gs ns) (ht : TreeN ns) :
    Calls Try.prog 12 #[.slice A gs.length c] w fun e w' => FldT w gs e w' := by
  have hsm := gn_sm hg ht
  have hfew := gn_few hg ht
  have hR := right_any A c gs w hN (by omega) hsm
  have HRG := hidd (tree_rg hg ht)
  have HNM := hidd (gn_nm hg ht.shp)
  have HKD := hidd (gn_kids hg ht)
  have hmk := make_nodes gs.length (by omega)
  have HP : Hid (1 ≤ gs.length) := by show _ ≤ _; rw [hg.1]; exact ht.pos
  clear hsm hg ht
  have HN := hidd hN
  clear hN
  unfold FldT
  generalize hn : gs.length = n at *
  have HN0 := hidd hn
  clear hn
  go_enter Try.func12, Try.ntmps12
  go_wp2_with fail
  refine hR.mono ?_
  rintro e w1 ⟨z, rfl, hz, b1⟩
  have hz2 : z = true := hz.2 HRG.out
  subst hz2
  have HS0 : Hid (FdS w w1.heap.size n gs 0 (w1.alloc (.cells (madeCells (Value.agg zeroC).cells (n * 9)) 41))) :=
    ⟨⟨_, RowA.new _ _ _, size_madeCells _ _⟩, fun i hi => absurd hi (Nat.not_lt_zero _), b1.alloc b1.size _, b1.size⟩
  clear hz b1 hR
  go_wp2
  go_loopw [14] (fun s14 wr => ∃ k : Nat, k ≤ n ∧ s14 = .int .i64 (k : Int) ∧ FdS w w1.heap.size n gs k wr) (fun s14 _ => n - (intOf s14).toNat)
  case atStart => exact ⟨0, Nat.zero_le _, rfl, HS0.out⟩
  case round =>
    clear HS0
    obtain ⟨k, hk0, rfl, L⟩ := hrel
    have D := L.bel
    by_cases hlt : k < n
    · have hlt2 : k < gs.length := by rw [HN0.out]; exact hlt
      obtain ⟨bb, o1, rfl, hb1, A3, c3, I1, r1⟩ := (HN.out.below D).at_ hlt2
      have hgm : gs.getD k gd0 ∈ gs := by
        rw [List.getD_eq_getElem?_getD, List.getElem?_eq_getElem hlt2]
        exact List.getElem_mem hlt2
      have hnm := HNM.out _ hgm
      have hkd := HKD.out _ hgm
      generalize hgd : gs.getD k gd0 = g at *
      have HGD := hidd hgd
      clear hgd hgm
      have hki : (k : Int) < (n : Int) := by omega
      have hbs := D.size
      have HL := hidd L
      have Z1 := RowA.new wr 41 zeroC
      have hW1 : Below wr.heap.size wr ((wr.alloc (.cells zeroC 41)).setRow wr.heap.size (gdL g A3 c3).toArray) := bel_setRow ((Below.refl _ _).alloc (Nat.le_refl _) _) _ _ (Nat.le_refl _)
      have R1 := Z1.row (gdL g A3 c3).toArray
      go_upto_region 7 with (first
        | refine wpList_load_mid rfl 41 (.tmp 17) rfl bb (o1 + k * 9) rfl (gdL g A3 c3) _ r1 Try.underlying41 rfl (gdL_info g A3 c3) ?_
        | refine wpList_store_row rfl 41 (.tmp 5) (.tmp 18) rfl wr.heap.size (gdL g A3 c3).toArray rfl rfl 41 zeroC Z1 (gdL_infoA g A3 c3) rfl (gdL_one g A3 c3) ?_)
      have HW1 := hidd hW1
      have hI1 : Its ((wr.alloc (.cells zeroC 41)).setRow wr.heap.size (gdL g A3 c3).toArray) ((wr.alloc (.cells zeroC 41)).setRow wr.heap.size (gdL g A3 c3).toArray).heap.size A3 g.l := (I1.below (hW1.mono D.size)).more (Nat.le_trans D.size hW1.size)
      have hsz1 : w.heap.size ≤ ((wr.alloc (.cells zeroC 41)).setRow wr.heap.size (gdL g A3 c3).toArray).heap.size := Nat.le_trans D.size hW1.size
      change RowA ((wr.alloc (.cells zeroC 41)).setRow wr.heap.size (gdL g A3 c3).toArray) _ _ _ at R1
      generalize (wr.alloc (.cells zeroC 41)).setRow wr.heap.size (gdL g A3 c3).toArray = w2 at *
      have HQ : Hid (wr.heap.size < w2.heap.size) := R1.lt
      have HI1 := hidd hI1
      have HR1 := hidd R1
      obtain ⟨d0, d1, d2, d3, d4, d5, d6, d7, d8⟩ := node_cells R1
      clear Z1 hW1 r1 I1 hI1 R1 L D
      obtain ⟨q, hq⟩ : ∃ q, wr.heap.size = q := ⟨_, rfl⟩
      rw [hq] at HR1 d0 d1 d2 d3 d4 d5 d6 d7 d8
      rw [hq]
      have HQQ := hidd hq
      clear hq
      go_upto_region 8 with (at_builtin; refine wpList_plain rfl fun K hK => ?_; refine wp_app_its (.const (.slice none 0 0)) (.tmp 20) rfl w.heap.size (.slice none 0 0) rfl (World.ownsRow_nil _ _ _ _) _ _ _ _ rfl rfl HI1.out (by omega) hsz1 ?_; intro kA kc w3 o3 g3 at3; have R3 : RowA w3 q 41 (gdL g A3 c3).toArray := (g3.block q HR1.out.lt nofun).trans HR1.out; have ht3 := R3.thawed; obtain ⟨f0, f1, f2, f3, f4, f5, f6, f7, f8⟩ := node_cells R3; refine hK _ _ ?_)
      have b4 : Below q wr (w3.setCell ⟨q, 5, none⟩ (.slice kA g.l.length kc)) := bel_set (by rw [← HQQ.out]; exact HW1.out.trans ((bel_none g3).mono (Nat.le_of_lt HQ.out))) _ _ (Nat.le_refl _)
      have R4 : RowA (w3.setCell ⟨q, 5, none⟩ (.slice kA g.l.length kc)) q 41 (gdL g kA kc).toArray := R3.set 5 (.slice kA g.l.length kc)
      have o4 := own_sb (k := 5) o3 (own_neR o3 R3 (by decide)) (.slice kA g.l.length kc)
      clear R3 o3 g3 at3 ht3 f0 f1 f2 f3 f4 f5 f6 f7 f8 HW1 HQ HI1 HR1 hsz1 d0 d1 d2 d3 d4 d5 d6 d7 d8
      generalize w3.setCell ⟨q, 5, none⟩ (.slice kA g.l.length kc) = w4 at *
      obtain ⟨d0, d1, d2, d3, d4, d5, d6, d7, d8⟩ := node_cells R4
      have hcl := clone_any g.nm w4 hnm
      have HB4 := hidd b4
      have HR4 := hidd R4
      have HO4 := hidd o4
      clear b4 R4 o4
      go_wp2_with fail
      refine hcl.mono ?_
      rintro e w5 ⟨rfl, b5⟩
      have R5 := HR4.out.below b5 HR4.out.lt
      have ht5 := R5.thawed
      have b6 : Below q wr (w5.setCell ⟨q, 8, none⟩ (.string g.nm)) := bel_set (HB4.out.trans (b5.mono (Nat.le_of_lt HR4.out.lt))) _ _ (Nat.le_refl _)
      have R6 : RowA (w5.setCell ⟨q, 8, none⟩ (.string g.nm)) q 41 (gdL g kA kc).toArray := R5.set 8 (.string g.nm)
      have o5 := own_below HO4.out b5 (Nat.le_refl _)
      have o6 := own_sb (k := 8) o5 (own_neR o5 R5 (by decide)) (.string g.nm)
      clear d0 d1 d2 d3 d4 d5 d6 d7 d8
      obtain ⟨d0, d1, d2, d3, d4, d5, d6, d7, d8⟩ := node_cells R5
      have HB6 := hidd b6
      have HR6 := hidd R6
      have HO6 := hidd o6
      clear hcl b6 R6 o5 o6 b5 R5 HB4 HR4 HO4
      go_upto_region 9 with fail
      generalize w5.setCell ⟨q, 8, none⟩ (.string g.nm) = w6 at *
      clear d0 d1 d2 d3 d4 d5 d6 d7 d8 ht5
      have R6 := HR6.out
      have ht6 := R6.thawed
      obtain ⟨d0, d1, d2, d3, d4, d5, d6, d7, d8⟩ := node_cells R6
      rw [← HQQ.out] at HB6
      by_cases h2 : g.op = 2
      · have h2b : (g.op == 2) = true := by simp [h2]
        have hfo := fold_any g.s w6
        have hrs := range_set R6
        clear R6
        go_wp2_with (first
          | refine wpList_load_mid rfl 38 (.tmp 30) rfl q 1 rfl [.int .u64 (W g.s 0), .int .u64 (W g.s 1), .int .u64 (W g.s 2), .int .u64 (W g.s 3)] _ hrs Try.underlying38 rfl (by kernel_rfl) ?_)
        refine hfo.mono ?_
        rintro e w7 ⟨rfl, b7⟩
        have R7 := HR6.out.below b7 HR6.out.lt
        have hth1 : w7.there q 1 4 := there_row R7 (by show 1 + 4 ≤ 9; omega)
        have b8 : Below wr.heap.size wr (w7.setCells q 1 [.int .u64 (W (foldK 123 g.s) 0), .int .u64 (W (foldK 123 g.s) 1), .int .u64 (W (foldK 123 g.s) 2), .int .u64 (W (foldK 123 g.s) 3)]) := bel_cells (by rw [HQQ.out]; exact Nat.le_refl _) _ _ _ (HB6.out.trans (b7.mono (by rw [HQQ.out]; exact Nat.le_of_lt HR6.out.lt)))
        have R8 : RowA (w7.setCells q 1 [.int .u64 (W (foldK 123 g.s) 0), .int .u64 (W (foldK 123 g.s) 1), .int .u64 (W (foldK 123 g.s) 2), .int .u64 (W (foldK 123 g.s) 3)]) q 41 (gdL (setSG g (foldK 123 g.s)) kA kc).toArray := (((R7.set 1 _).set 2 _).set 3 _).set 4 _
        have o8 := own_cells (e := 3) (e' := 41) (by decide) [.int .u64 (W (foldK 123 g.s) 0), .int .u64 (W (foldK 123 g.s) 1), .int .u64 (W (foldK 123 g.s) 2), .int .u64 (W (foldK 123 g.s) 3)] 1 w7 _ R7 (own_below HO6.out b7 (Nat.le_refl _))
        have HB8 := hidd b8
        have HO8 := hidd o8
        have HR8 := hidd R8
        clear hfo hrs b7 R7 b8 o8 R8 HB6 HR6 HO6 d0 d1 d2 d3 d4 d5 d6 d7 d8 ht6
        go_upto_region 11 with (refine wpList_store_mid rfl 38 (.tmp 33) (.tmp 32) rfl q 1 #[.int .u64 (W (foldK 123 g.s) 0), .int .u64 (W (foldK 123 g.s) 1), .int .u64 (W (foldK 123 g.s) 2), .int .u64 (W (foldK 123 g.s) 3)] rfl rfl hth1 (by kernel_rfl) (by simp [Value.oneCell']) ?_)
        generalize w7.setCells q 1 [.int .u64 (W (foldK 123 g.s) 0), .int .u64 (W (foldK 123 g.s) 1), .int .u64 (W (foldK 123 g.s) 2), .int .u64 (W (foldK 123 g.s) 3)] = w8 at *
        clear hth1
        have R8 := HR8.out
        have hth : w8.there w1.heap.size (k * 9) (gdL (setSG g (foldK 123 g.s)) kA kc).toArray.size := by
          obtain ⟨cs, r, hcs⟩ := HL.out.row
          exact there_row (r.below HB8.out r.lt) (by rw [hcs]; show k * 9 + 9 ≤ _; omega)
        have hrg := range_row R8
        obtain ⟨w9, hw9⟩ : ∃ w9, w9 = w8.setCells w1.heap.size (k * 9) (gdL (setSG g (foldK 123 g.s)) kA kc).toArray.toList := ⟨_, rfl⟩
        have HF : Hid (FdS w w1.heap.size n gs (k + 1) w9) := by
          have := HL.out.next hlt HB8.out HGD.out HO8.out
          rw [show foldG g = setSG g (foldK 123 g.s) from if_pos h2] at this
          rw [hw9]
          exact this
        obtain ⟨cs9, hcs9⟩ : ∃ cs9, cs9 = (gdL (setSG g (foldK 123 g.s)) kA kc).toArray := ⟨_, rfl⟩
        have hst : ∀ (ops : Array Oper) (rest : List Oper) (op : Oper) (a : Act) (Q : Exit → Act → World → Prop), op.guard = none → op.op = .store 41 (.tmp 37) (.tmp 36) → a.eval (.tmp 37) = .pointer (some ⟨w1.heap.size, k * 9, none⟩) → a.eval (.tmp 36) = .agg cs9 → wpList Try.prog ops Q rest (a.put op.dst undef) w9 → wpList Try.prog ops Q (op :: rest) a w8 := by
          intro ops rest op a Q h1 h2 h3 h4 h5
          rw [hw9] at h5
          exact wpList_store_mid h1 41 (.tmp 37) (.tmp 36) h2 w1.heap.size (k * 9) (gdL (setSG g (foldK 123 g.s)) kA kc).toArray h3 (hcs9 ▸ h4) hth (gdL_infoA _ kA kc) (gdL_one _ kA kc) h5
        have hld : ∀ (ops : Array Oper) (rest : List Oper) (op : Oper) (a : Act) (Q : Exit → Act → World → Prop), op.guard = none → op.op = .load 41 (.tmp 5) → a.eval (.tmp 5) = .pointer (some ⟨q, 0, none⟩) → wpList Try.prog ops Q rest (a.put op.dst (.agg cs9)) w8 → wpList Try.prog ops Q (op :: rest) a w8 := by
          intro ops rest op a Q h1 h2 h3 h4
          exact wpList_load_mid h1 41 (.tmp 5) h2 q 0 h3 (gdL (setSG g (foldK 123 g.s)) kA kc) _ hrg Try.underlying41 rfl (gdL_info _ kA kc) (hcs9 ▸ h4)
        have HST := hidd hst
        have HLD := hidd hld
        clear hw9 hcs9 R8 hth hrg hst hld
        go_wp2_with (first
          | refine HLD.out _ _ _ _ _ rfl rfl rfl ?_
          | refine HST.out _ _ _ _ _ rfl rfl rfl rfl ?_)
        exact ⟨⟨k + 1, by omega, rfl, HF.out⟩, by simp [intOf]; omega⟩
      · have h2b : (g.op == 2) = false := beq_eq_false_iff_ne.2 h2
        clear d1 d2 d3 d4 d5 d6 d7 d8
        have hth : w6.there w1.heap.size (k * 9) (gdL (g) kA kc).toArray.size := by
          obtain ⟨cs, r, hcs⟩ := HL.out.row
          exact there_row (r.below HB6.out r.lt) (by rw [hcs]; show k * 9 + 9 ≤ _; omega)
        have hrg := range_row R6
        obtain ⟨w9, hw9⟩ : ∃ w9, w9 = w6.setCells w1.heap.size (k * 9) (gdL (g) kA kc).toArray.toList := ⟨_, rfl⟩
        have HF : Hid (FdS w w1.heap.size n gs (k + 1) w9) := by
          have := HL.out.next hlt HB6.out HGD.out HO6.out
          rw [show foldG g = g from if_neg h2] at this
          rw [hw9]
          exact this
        obtain ⟨cs9, hcs9⟩ : ∃ cs9, cs9 = (gdL (g) kA kc).toArray := ⟨_, rfl⟩
        have hst : ∀ (ops : Array Oper) (rest : List Oper) (op : Oper) (a : Act) (Q : Exit → Act → World → Prop), op.guard = none → op.op = .store 41 (.tmp 37) (.tmp 36) → a.eval (.tmp 37) = .pointer (some ⟨w1.heap.size, k * 9, none⟩) → a.eval (.tmp 36) = .agg cs9 → wpList Try.prog ops Q rest (a.put op.dst undef) w9 → wpList Try.prog ops Q (op :: rest) a w6 := by
          intro ops rest op a Q h1 h2 h3 h4 h5
          rw [hw9] at h5
          exact wpList_store_mid h1 41 (.tmp 37) (.tmp 36) h2 w1.heap.size (k * 9) (gdL (g) kA kc).toArray h3 (hcs9 ▸ h4) hth (gdL_infoA _ kA kc) (gdL_one _ kA kc) h5
        have hld : ∀ (ops : Array Oper) (rest : List Oper) (op : Oper) (a : Act) (Q : Exit → Act → World → Prop), op.guard = none → op.op = .load 41 (.tmp 5) → a.eval (.tmp 5) = .pointer (some ⟨q, 0, none⟩) → wpList Try.prog ops Q rest (a.put op.dst (.agg cs9)) w6 → wpList Try.prog ops Q (op :: rest) a w6 := by
          intro ops rest op a Q h1 h2 h3 h4
          exact wpList_load_mid h1 41 (.tmp 5) h2 q 0 h3 (gdL (g) kA kc) _ hrg Try.underlying41 rfl (gdL_info _ kA kc) (hcs9 ▸ h4)
        have HST := hidd hst
        have HLD := hidd hld
        clear hw9 hcs9 R6 hth hrg hst hld
        go_wp2_with (first
          | refine HLD.out _ _ _ _ _ rfl rfl rfl ?_
          | refine HST.out _ _ _ _ _ rfl rfl rfl rfl ?_)
        exact ⟨⟨k + 1, by omega, rfl, HF.out⟩, by simp [intOf]; omega⟩
    · have hke : k = n := by omega
      subst hke
      have HND := hidd (L.ndT HN0.out)
      have HBE := hidd D
      clear L D
      go_wp2
      go_ret
      exact ⟨HBE.out, _, rfl, HND.out⟩
theorem fold_ok (A : Option Addr) (c : Nat) (gs : List Gd) (ns : List Nd) (w : World) (hN : Nds w w.heap.size A gs) (hg : GN gs ns) (ht : TreeN ns) :
    Calls Try.prog 12 #[.slice A gs.length c] w fun e w' => FldR w gs e w' :=
  (fold_okT A c gs ns w hN hg ht).mono fun e w' h => by
    obtain ⟨h1, A', h2, h3⟩ := h
    exact ⟨h1, A', h2, h3.nds⟩
end Go.Proofs.Ytgppanbikfobbaa.Sy.Ap

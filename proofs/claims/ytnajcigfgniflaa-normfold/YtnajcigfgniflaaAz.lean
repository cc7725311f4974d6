/- NormFold. -/
import Derived.Test.YtnajcigfgniflaaAy
namespace Go.Proofs.Ytnajcigfgniflaa.Sy.Ap
open Go.RowKit
set_option maxRecDepth 100000
set_option linter.unusedVariables false

theorem foldN_twice (n : Nd) : foldN (foldN n) = foldN n := by
  unfold foldN
  rw [show foldK 123 (foldK 123 n.s) = foldK 123 n.s from funext (fold_fold n.s)]
theorem foldL_twice (l : List Nd) : foldL (foldL l) = foldL l := by
  unfold foldL
  rw [List.map_map]
  exact List.map_congr_left fun n _ => foldN_twice n
theorem set_back (g : Gd) : setSG (foldG g) g.s = g := by
  unfold foldG
  split <;> rfl
theorem leq_refl (gs : List Gd) : LEq gs gs := ⟨rfl, fun i hi => ⟨rfl, fun _ _ => rfl, rfl, rfl, rfl, rfl⟩⟩
/-- One node in a row of its own. -/
def NdOne (g : Gd) (A : Option Addr) (c : Nat) (v : Value) (u : World) : Prop := ∃ q, v = .slice (some ⟨q, 0, none⟩) 1 1 ∧ RowA u q 41 (gdL g A c).toArray
theorem NdOne.below {g : Gd} {A : Option Addr} {c : Nat} {v : Value} {u u' : World} (h : NdOne g A c v u) (hb : Below u.heap.size u u') : NdOne g A c v u' := by
  obtain ⟨q, h1, h2⟩ := h
  exact ⟨q, h1, h2.below hb h2.lt⟩
theorem nds_one {u : World} {q : Nat} {g : Gd} {A : Option Addr} {c : Nat} (R : RowA u q 41 (gdL g A c).toArray) (hI : Its u u.heap.size A g.l) : Nds u u.heap.size (some ⟨q, 0, none⟩) [g] := fun _ => by
  refine ⟨q, 0, rfl, R.lt, fun i hi => ?_⟩
  have : i = 0 := by simp at hi; omega
  subst this
  exact ⟨A, c, hI, range_row R⟩
theorem put_none (a : Act) (v : Value) : a.put none v = a := rfl
structure FlS (w : World) (q bb o : Nat) (g : Gd) (A1 : Option Addr) (c1 : Nat) (A2 : Option Addr) (c2 : Nat) (u : World) : Prop where
  box : RowA u q 41 (gdL g A1 c1).toArray
  nd : u.rangeAt bb o (gdL g A2 c2)
  i1 : Its u w.heap.size A1 g.l
  i2 : Its u w.heap.size A2 g.l
  bel : Below w.heap.size w u
  lt : bb < w.heap.size
theorem FlS.below {w : World} {q bb o : Nat} {g : Gd} {A1 : Option Addr} {c1 : Nat} {A2 : Option Addr} {c2 : Nat} {u u' : World} (h : FlS w q bb o g A1 c1 A2 c2 u) (hb : Below u.heap.size u u') : FlS w q bb o g A1 c1 A2 c2 u' :=
  ⟨h.box.below hb h.box.lt, fun j v hv => by rw [hb.cell (by have := h.lt; have := h.bel.size; show bb < _; omega)]; exact h.nd j v hv, h.i1.below (hb.mono h.bel.size), h.i2.below (hb.mono h.bel.size), h.bel.trans (hb.mono h.bel.size), h.lt⟩
theorem same_ones {w : World} {q bb o : Nat} {g : Gd} {A1 : Option Addr} {c1 : Nat} {A2 : Option Addr} {c2 : Nat} {u : World} {v1 v2 : Value} (hl : g.l.length ≤ 1024) (hS : FlS w q bb o g A1 c1 A2 c2 u) (h1 : NdOne g A1 c1 v1 u) (h2 : NdOne g A2 c2 v2 u) :
    Calls Try.prog 15 #[v1, v2] u fun e w' => e = .returned (.bool true) ∧ Below u.heap.size u w' := by
  obtain ⟨q1, rfl, R1⟩ := h1
  obtain ⟨q2, rfl, R2⟩ := h2
  exact same_any (some ⟨q1, 0, none⟩) (some ⟨q2, 0, none⟩) 1 1 [g] [g] u (nds_one R1 (hS.i1.more hS.bel.size)) (nds_one R2 (hS.i2.more hS.bel.size)) (leq_refl _) (by show 1 ≤ _; omega) (fun x hx => by rw [List.mem_singleton] at hx; subst hx; omega)
set_option linter.unusedVariables false in
def FnGV (q bb o1 i k c : Nat) (g : Gd) (Ay : Option Addr) (cy : Nat) (Ax : Option Addr) (cx : Nat) (t : Nat) : Option Value :=
  match t with
  | 4 => some (.slice (some ⟨bb, o1, none⟩) k c)
  | 6 => some (.int .i64 (i : Int))
  | 7 => some (.pointer (some ⟨q, 0, none⟩))
  | 58 => some (.agg #[.int .u8 g.op, .int .u64 (W g.s 0), .int .u64 (W g.s 1), .int .u64 (W g.s 2), .int .u64 (W g.s 3), .slice Ay g.l.length cy, .int .i64 g.lo, .int .i64 g.hi, .string g.nm])
  | 60 => some (.slice (some ⟨bb, o1, none⟩) k c)
  | 61 => some (.int .i64 (i : Int))
  | 62 => some (.pointer (some ⟨bb, o1 + i * 9, none⟩))
  | 63 => some (.agg #[.int .u8 g.op, .int .u64 (W g.s 0), .int .u64 (W g.s 1), .int .u64 (W g.s 2), .int .u64 (W g.s 3), .slice Ax g.l.length cx, .int .i64 g.lo, .int .i64 g.hi, .string g.nm])
  | 65 => some (.bool true)
  | 66 => some (.bool false)
  | _ => none
set_option linter.unusedVariables false in
def FnGP (q bb o1 i k c : Nat) (g : Gd) (Ay : Option Addr) (cy : Nat) (Ax : Option Addr) (cx : Nat) (t : Nat) : Option (Value → World → Prop) :=
  match t with
  | 59 => some (NdOne g Ay cy)
  | 64 => some (NdOne g Ax cx)
  | _ => none
def FnG (q bb o1 i k c : Nat) (g : Gd) (Ay : Option Addr) (cy : Nat) (Ax : Option Addr) (cx : Nat) (t : Nat) (v : Value) (u : World) : Prop := (∀ z9, FnGV q bb o1 i k c g Ay cy Ax cx t = some z9 → v = z9) ∧ ∀ R, FnGP q bb o1 i k c g Ay cy Ax cx t = some R → R v u
theorem range_mid {w : World} {b o : Nat} {g : Gd} {A : Option Addr} {c : Nat} (r : w.rangeAt b o (gdL g A c)) : w.rangeAt b (o + 1) [.int .u64 (W g.s 0), .int .u64 (W g.s 1), .int .u64 (W g.s 2), .int .u64 (W g.s 3)] := fun j v hv => by
  have hj : j < 4 := by
    rcases Nat.lt_or_ge j 4 with h | h
    · exact h
    · rw [List.getElem?_eq_none (by show 4 ≤ j; exact h)] at hv; cases hv
  have := r (j + 1) v (by
    rcases (by omega : j = 0 ∨ j = 1 ∨ j = 2 ∨ j = 3) with rfl | rfl | rfl | rfl <;> exact hv)
  rw [show o + 1 + j = o + (j + 1) from by omega]
  exact this
set_option maxHeartbeats 800000 in
theorem lawFold_any (A : Option Addr) (c : Nat) (l : List Gd) (w : World) (hN0 : Nds w w.heap.size A l) (hc : l.length ≤ c) (hm : l.length ≤ maxLen) (hsm0 : Small l) :
    Calls Try.prog 9 #[.slice A l.length c] w fun e w' => e = .returned (.bool true) ∧ Below w.heap.size w w' := by
  have hsh := shown_any w
  unfold maxLen at hm
  have hN := nds_take hN0 100
  have hsm := small_take hsm0 100
  have hk1 : (l.take 100).length ≤ c := by rw [List.length_take]; omega
  have hk2 : (l.take 100).length ≤ 100 := by rw [List.length_take]; omega
  have hmin : min (l.length : Int) 100 = ((l.take 100).length : Int) := by rw [List.length_take]; omega
  have hkl : (l.take 100).length ≤ l.length := by rw [List.length_take]; omega
  clear hN0 hsm0
  generalize l.length = n at *
  generalize l.take 100 = gs at *
  have HR : Hid (∀ u, Below w.heap.size w u → Calls Try.prog 23 #[.slice A gs.length c] u fun e w' => RgtR gs u e w') := fun u hu => refRight_any A c gs u ((hN.below hu).more hu.size) (by omega) hsm
  have HN := hidd hN
  have HSM := hidd hsm
  clear hN hsm
  generalize hk : gs.length = k at *
  have HK := hidd hk
  clear hk
  have hki : (k : Int) ≤ (c : Int) := by omega
  have hk0 : (0 : Int) ≤ (k : Int) := by omega
  go_enter Try.func9, Try.ntmps9
  go_wp2_with fail
  refine hsh.mono ?_
  rintro e w1 ⟨rfl, b1⟩
  have hr := HR.out w1 b1
  have HB1 := hidd b1
  clear hsh b1 HR
  go_wp2_with fail
  refine hr.mono ?_
  rintro e w2 ⟨z, rfl, hz, b2⟩
  have B2 := HB1.out.trans (b2.mono HB1.out.size)
  clear hr b2 HB1
  have N2 := (HN.out.below B2).more B2.size
  cases z with
  | false =>
    have hno : ¬ RightG gs := fun q => by have := hz.2 q; cases this
    have hf := fold_bad A c gs w2 N2 (by rw [HK.out]; omega) HSM.out hno
    rw [HK.out] at hf
    have HB2 := hidd B2
    clear hz B2 N2 hno
    go_wp2_with fail
    refine hf.mono ?_
    rintro e w3 ⟨b3, rfl⟩
    have HBE := hidd (HB2.out.trans (b3.mono HB2.out.size))
    clear hf b3
    go_wp2
    go_ret
    exact ⟨rfl, HBE.out⟩
  | true =>
    obtain ⟨ns, hg, ht⟩ := gn_tree (hz.1 rfl)
    have HT : Hid (GN gs ns ∧ TreeN ns) := ⟨hg, ht⟩
    have hf := fold_ok A c gs ns w2 N2 hg ht
    rw [HK.out] at hf
    have HB2 := hidd B2
    clear hz B2 N2 hg ht
    go_wp2_with fail
    refine hf.mono ?_
    rintro e w3 ⟨b3, A3, h3, N3⟩
    rw [HK.out] at h3
    subst h3
    have B3 := HB2.out.trans (b3.mono HB2.out.size)
    have HG3 := hidd (gn_fold HT.out.1 HT.out.2.shp)
    have hf2 := fold_ok A3 k (gs.map foldG) (foldL ns) w3 N3 HG3.out HT.out.2.fold
    rw [List.length_map, HK.out] at hf2
    have HN3 := hidd N3
    have HB3 := hidd B3
    have hnn : ((k : Int) == (k : Int)) = true := by simp
    clear hf b3 B3 N3 HB2
    go_wp2_with fail
    refine hf2.mono ?_
    rintro e w4 ⟨b4, A4, h4, N4⟩
    rw [List.length_map, HK.out] at h4
    subst h4
    have G4 := gn_fold HG3.out HT.out.2.fold.shp
    rw [foldL_twice] at G4
    have hsa := same_tree (c := k) (c' := k) N4 ((HN3.out.below b4).more b4.size) G4 HG3.out HT.out.2.fold
    rw [List.length_map, List.length_map, HK.out] at hsa
    have HB4 := hidd b4
    clear hf2 b4 N4 G4
    go_wp2_with fail
    refine hsa.mono ?_
    rintro e w5 ⟨rfl, b5⟩
    have b35 := HB4.out.trans (b5.mono HB4.out.size)
    have B5 := HB3.out.trans (b35.mono HB3.out.size)
    have hnu := null_ok A c gs ns w5 ((HN.out.below B5).more B5.size) HT.out.1 HT.out.2
    rw [HK.out] at hnu
    have HB35 := hidd b35
    have HB5 := hidd B5
    clear hsa b5 b35 B5 HB4
    go_wp2_with fail
    refine hnu.mono ?_
    rintro e w6 ⟨rfl, b6⟩
    have b36 := HB35.out.trans (b6.mono HB35.out.size)
    have B6 := HB5.out.trans (b6.mono HB5.out.size)
    have hnv := null_ok A3 k (gs.map foldG) (foldL ns) w6 ((HN3.out.below b36).more b36.size) HG3.out HT.out.2.fold
    rw [List.length_map, HK.out, nulN_fold] at hnv
    have HB36 := hidd b36
    have HB6 := hidd B6
    clear hnu b6 b36 B6 HB35 HB5
    generalize nulN ns = z at *
    go_wp2_with fail
    refine hnv.mono ?_
    rintro e w7 ⟨rfl, b7⟩
    have b37 := HB36.out.trans (b7.mono HB36.out.size)
    have B7 := HB6.out.trans (b7.mono HB6.out.size)
    have HN7 := hidd ((HN3.out.below b37).more b37.size)
    have HX7 := hidd ((HN.out.below B7).more B7.size)
    have HB7 := hidd B7
    have HKD := hidd (gn_kids HT.out.1 HT.out.2)
    have hzz : (z == z) = true := by simp
    have hzn : (z != z) = false := by simp
    clear hnv b7 b37 B7 HB36 HB6 HN3 HB3
    go_wp2
    go_loopw [47] (fun s47 wr => ∃ i : Nat, i ≤ k ∧ s47 = .int .i64 (i : Int) ∧ Below w7.heap.size w7 wr) (fun s47 _ => k - (intOf s47).toNat)
    case atStart => exact ⟨0, Nat.zero_le _, rfl, Below.refl _ _⟩
    case round =>
      obtain ⟨i, hi0, rfl, D⟩ := hrel
      by_cases hlt : i < k
      · have hlt2 : i < gs.length := by rw [HK.out]; exact hlt
        obtain ⟨bb, o1, rfl, hb1, Ax, cx, Ix, rx⟩ := (HX7.out.below D).at_ hlt2
        obtain ⟨by_, oy, rfl, hby, Ay, cy, Iy, ry⟩ := (HN7.out.below D).at_ (k := i) (by rw [List.length_map]; exact hlt2)
        have hgm : gs.getD i gd0 ∈ gs := by
          rw [List.getD_eq_getElem?_getD, List.getElem?_eq_getElem hlt2]
          exact List.getElem_mem hlt2
        have hl1 := HKD.out _ hgm
        have efg : (gs.map foldG).getD i gd0 = foldG (gs.getD i gd0) := by
          rw [List.getD_eq_getElem?_getD, List.getElem?_map, List.getD_eq_getElem?_getD, List.getElem?_eq_getElem hlt2]
          rfl
        rw [efg] at Iy ry
        generalize gs.getD i gd0 = g at *
        clear hgm efg
        have hii : (i : Int) < (k : Int) := by omega
        have hbs := D.size
        have HD := hidd D
        have Z1 := RowA.new wr 41 zeroC
        have hW1 : Below wr.heap.size wr ((wr.alloc (.cells zeroC 41)).setRow wr.heap.size (gdL (foldG g) Ay cy).toArray) := bel_setRow ((Below.refl _ _).alloc (Nat.le_refl _) _) _ _ (Nat.le_refl _)
        have R1 := Z1.row (gdL (foldG g) Ay cy).toArray
        go_upto_region 11 with (first
          | refine wpList_load_mid rfl 41 (.tmp 50) rfl by_ (oy + i * 9) rfl (gdL (foldG g) Ay cy) _ ry Try.underlying41 rfl (gdL_info _ Ay cy) ?_
          | refine wpList_store_row rfl 41 (.tmp 7) (.tmp 51) rfl wr.heap.size (gdL (foldG g) Ay cy).toArray rfl rfl 41 zeroC Z1 (gdL_infoA _ Ay cy) rfl (gdL_one _ Ay cy) ?_)
        change RowA ((wr.alloc (.cells zeroC 41)).setRow wr.heap.size (gdL (foldG g) Ay cy).toArray) _ _ _ at R1
        have B8 := hW1
        generalize (wr.alloc (.cells zeroC 41)).setRow wr.heap.size (gdL (foldG g) Ay cy).toArray = w8 at *
        have hx8 : w8.rangeAt bb (o1 + i * 9) (gdL g Ax cx) := fun j v hv => by
          rw [B8.cell (by show bb < _; omega)]
          exact rx j v hv
        have hrs := range_mid hx8
        have hth1 : w8.there wr.heap.size 1 4 := there_row R1 (by show 1 + 4 ≤ 9; omega)
        have R9 : RowA (w8.setCells wr.heap.size 1 [.int .u64 (W g.s 0), .int .u64 (W g.s 1), .int .u64 (W g.s 2), .int .u64 (W g.s 3)]) wr.heap.size 41 (gdL (setSG (foldG g) g.s) Ay cy).toArray := (((R1.set 1 _).set 2 _).set 3 _).set 4 _
        rw [set_back] at R9
        have B9 : Below wr.heap.size wr (w8.setCells wr.heap.size 1 [.int .u64 (W g.s 0), .int .u64 (W g.s 1), .int .u64 (W g.s 2), .int .u64 (W g.s 3)]) := bel_cells (Nat.le_refl _) _ _ _ B8
        rw [foldG_l] at Iy
        have HS9 : Hid (FlS (w8.setCells wr.heap.size 1 [.int .u64 (W g.s 0), .int .u64 (W g.s 1), .int .u64 (W g.s 2), .int .u64 (W g.s 3)]) wr.heap.size bb (o1 + i * 9) g Ay cy Ax cx (w8.setCells wr.heap.size 1 [.int .u64 (W g.s 0), .int .u64 (W g.s 1), .int .u64 (W g.s 2), .int .u64 (W g.s 3)])) := by
          have h1 := B9.size
          refine ⟨R9, fun j v hv => ?_, (Iy.below (B9.mono hbs)).more (by omega), (Ix.below (B9.mono hbs)).more (by omega), Below.refl _ _, by omega⟩
          rw [B9.cell (by show bb < _; omega)]
          exact rx j v hv
        have HB9 := hidd (HD.out.trans (B9.mono hbs))
        obtain ⟨w9, hw9⟩ : ∃ w9, w9 = w8.setCells wr.heap.size 1 [.int .u64 (W g.s 0), .int .u64 (W g.s 1), .int .u64 (W g.s 2), .int .u64 (W g.s 3)] := ⟨_, rfl⟩
        rw [← hw9] at HS9 HB9
        obtain ⟨q, hq⟩ : ∃ q, wr.heap.size = q := ⟨_, rfl⟩
        rw [hq] at HS9 hw9 hth1
        rw [hq]
        have HST : Hid (∀ (ops : Array Oper) (rest : List Oper) (op : Oper) (a : Act) (Q : Exit → Act → World → Prop), op.guard = none → op.op = .store 38 (.tmp 57) (.tmp 56) → a.eval (.tmp 57) = .pointer (some ⟨q, 1, none⟩) → a.eval (.tmp 56) = .agg #[.int .u64 (W g.s 0), .int .u64 (W g.s 1), .int .u64 (W g.s 2), .int .u64 (W g.s 3)] → wpList Try.prog ops Q rest (a.put op.dst undef) w9 → wpList Try.prog ops Q (op :: rest) a w8) := by
          intro ops rest op a Q h1 h2 h3 h4 h5
          rw [hw9] at h5
          exact wpList_store_mid h1 38 (.tmp 57) (.tmp 56) h2 q 1 #[.int .u64 (W g.s 0), .int .u64 (W g.s 1), .int .u64 (W g.s 2), .int .u64 (W g.s 3)] h3 h4 hth1 (by kernel_rfl) (by simp [Value.oneCell']) h5
        clear hw9 hq Z1 hW1 R1 R9 B8 B9 hx8 hth1 Ix Iy rx ry D hbs HD
        go_upto_region 12 with (first
          | refine wpList_load_mid rfl 38 (.tmp 55) rfl bb (o1 + i * 9 + 1) rfl [.int .u64 (W g.s 0), .int .u64 (W g.s 1), .int .u64 (W g.s 2), .int .u64 (W g.s 3)] _ hrs Try.underlying38 rfl (by kernel_rfl) ?_
          | refine HST.out _ _ _ _ _ rfl rfl rfl rfl ?_)
        clear HST hrs
        rw [put_none]
        refine wp_region_slots (FlS w9 q bb (o1 + i * 9) g Ay cy Ax cx) (FnG q bb o1 i k c g Ay cy Ax cx) (by kernel_rfl) (by kernel_rfl) (by kernel_rfl) ?_ (HS9.out.below (bel_drew (Below.refl _ _))) [4, 6, 7] (by kernel_rfl) ?_ ?_ ?_
        · intro t v u u' h hb
          refine ⟨h.1, fun R hR => ?_⟩
          have hh := h.2 R hR
          unfold FnGP at hR
          split at hR
          · cases hR; exact hh.below hb
          · cases hR; exact hh.below hb
          · cases hR
        · intro u _
          refine ⟨⟨_, rfl, ?_⟩, ⟨_, rfl, ?_⟩, ⟨_, rfl, ?_⟩, trivial⟩ <;> exact ⟨fun _ h => Option.some.inj h, fun _ h => no_some h⟩
        · refine ⟨?_, ?_, ?_, ?_, ?_, ?_, ?_, ?_, ?_, trivial⟩
          · intro a u hS hr K hK
            obtain ⟨⟨vl0, e0, g0⟩, -⟩ := hr
            obtain rfl := g0.1 _ rfl
            clear g0
            rw [if_pos (want_none rfl)]
            obtain ⟨c0, c1, c2, c3, c4, c5, c6, c7, c8⟩ := node_cells hS.box
            unfold Oper.wp
            go_simp
            exact hK _ _ ⟨fun _ h => Option.some.inj h, fun _ h => no_some h⟩ hS (Below.refl _ _)
          · intro a u hS hr K hK
            obtain ⟨⟨vl0, e0, g0⟩, -⟩ := hr
            obtain rfl := g0.1 _ rfl
            clear g0
            rw [if_pos (want_none rfl)]
            unfold Oper.wp
            go_simp
            exact hK _ _ ⟨fun _ h => no_some h, fun _ h => spec_ok h (⟨_, rfl, RowA.new _ _ _⟩)⟩ (hS.below ((Below.refl _ _).alloc (Nat.le_refl _) _)) ((Below.refl _ _).alloc (Nat.le_refl _) _)
          · intro a u hS hr K hK
            obtain ⟨⟨vl0, e0, g0⟩, -⟩ := hr
            obtain rfl := g0.1 _ rfl
            clear g0
            rw [if_pos (want_none rfl)]
            unfold Oper.wp
            go_simp
            exact hK _ _ ⟨fun _ h => Option.some.inj h, fun _ h => no_some h⟩ hS (Below.refl _ _)
          · intro a u hS hr K hK
            obtain ⟨⟨vl0, e0, g0⟩, -⟩ := hr
            obtain rfl := g0.1 _ rfl
            clear g0
            rw [if_pos (want_none rfl)]
            unfold Oper.wp
            go_simp
            exact hK _ _ ⟨fun _ h => Option.some.inj h, fun _ h => no_some h⟩ hS (Below.refl _ _)
          · intro a u hS hr K hK
            obtain ⟨⟨vl0, e0, g0⟩, ⟨vl1, e1, g1⟩, -⟩ := hr
            obtain rfl := g0.1 _ rfl
            clear g0
            obtain rfl := g1.1 _ rfl
            clear g1
            rw [if_pos (want_none rfl)]
            unfold Oper.wp
            go_simp
            exact hK _ _ ⟨fun _ h => Option.some.inj h, fun _ h => no_some h⟩ hS (Below.refl _ _)
          · intro a u hS hr K hK
            obtain ⟨⟨vl0, e0, g0⟩, -⟩ := hr
            obtain rfl := g0.1 _ rfl
            clear g0
            rw [if_pos (want_none rfl)]
            refine wp_load_mid 41 (.tmp 62) rfl bb (o1 + i * 9) (eval_at e0) (gdL g Ax cx) _ hS.nd Try.underlying41 rfl (gdL_info g Ax cx) ?_
            exact hK _ _ ⟨fun _ h => Option.some.inj h, fun _ h => no_some h⟩ hS (Below.refl _ _)
          · intro a u hS hr K hK
            obtain ⟨⟨vl0, e0, g0⟩, -⟩ := hr
            obtain rfl := g0.1 _ rfl
            clear g0
            rw [if_pos (want_none rfl)]
            unfold Oper.wp
            go_simp
            exact hK _ _ ⟨fun _ h => no_some h, fun _ h => spec_ok h (⟨_, rfl, RowA.new _ _ _⟩)⟩ (hS.below ((Below.refl _ _).alloc (Nat.le_refl _) _)) ((Below.refl _ _).alloc (Nat.le_refl _) _)
          · intro a u hS hr K hK
            obtain ⟨⟨vl0, e0, g0⟩, ⟨vl1, e1, g1⟩, -⟩ := hr
            replace g0 := g0.2 _ rfl
            replace g1 := g1.2 _ rfl
            rw [if_pos (want_none rfl)]
            unfold Oper.wp
            go_simp
            refine (same_ones hl1 hS g0 g1).mono ?_
            rintro e u1 ⟨rfl, hb⟩
            exact hK _ _ ⟨fun _ h => Option.some.inj h, fun _ h => no_some h⟩ (hS.below hb) hb
          · intro a u hS hr K hK
            obtain ⟨⟨vl0, e0, g0⟩, -⟩ := hr
            obtain rfl := g0.1 _ rfl
            clear g0
            rw [if_pos (want_none rfl)]
            unfold Oper.wp
            go_simp
            exact hK _ _ ⟨fun _ h => Option.some.inj h, fun _ h => no_some h⟩ hS (Below.refl _ _)
        intro a u hS hts hd hkn hf
        have HBU := hidd (HB9.out.trans (hS.bel.mono HB9.out.size))
        clear hS HS9 HB9
        obtain ⟨v58, e58, g58⟩ := hf 0 _ 58 rfl rfl
        obtain ⟨v59, e59, g59⟩ := hf 1 _ 59 rfl rfl
        obtain ⟨v60, e60, g60⟩ := hf 2 _ 60 rfl rfl
        obtain ⟨v61, e61, g61⟩ := hf 3 _ 61 rfl rfl
        obtain ⟨v62, e62, g62⟩ := hf 4 _ 62 rfl rfl
        obtain ⟨v63, e63, g63⟩ := hf 5 _ 63 rfl rfl
        obtain ⟨v64, e64, g64⟩ := hf 6 _ 64 rfl rfl
        obtain ⟨v65, e65, g65⟩ := hf 7 _ 65 rfl rfl
        obtain ⟨v66, e66, g66⟩ := hf 8 _ 66 rfl rfl
        have hA := act_puts [(58, v58), (59, v59), (60, v60), (61, v61), (62, v62), (63, v63), (64, v64), (65, v65), (66, v66)] hts hd hkn (by kernel_rfl) (by simp [e58, e59, e60, e61, e62, e63, e64, e65, e66])
        clear hf hts hd hkn e58 e59 e60 e61 e62 e63 e64 e65 e66
        obtain rfl := g58.1 _ rfl
        clear g58
        replace g59 := g59.2 _ rfl
        obtain rfl := g60.1 _ rfl
        clear g60
        obtain rfl := g61.1 _ rfl
        clear g61
        obtain rfl := g62.1 _ rfl
        clear g62
        obtain rfl := g63.1 _ rfl
        clear g63
        replace g64 := g64.2 _ rfl
        obtain rfl := g65.1 _ rfl
        clear g65
        obtain rfl := g66.1 _ rfl
        clear g66
        subst hA
        simp only [List.foldl, List.setIfInBounds_toArray, List.set_cons_zero, List.set_cons_succ]
        simp only [Exit.then]
        apply_assumption
        go_wp2
        exact ⟨⟨i + 1, by omega, rfl, HBU.out⟩, by simp [intOf]; omega⟩
      · have hke : i = k := by omega
        subst hke
        have HBE := hidd (HB7.out.trans (D.mono HB7.out.size))
        clear D
        go_wp2
        go_ret
        exact ⟨rfl, HBE.out⟩
end Go.Proofs.Ytnajcigfgniflaa.Sy.Ap

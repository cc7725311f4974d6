/- The reference of layer 5: a node. -/
import Derived.Test.YtaagkfiaccmepaaPDk
namespace Go.Proofs.Ytaagkfiaccmepaa.Sy.Pn.Rp
open Go.RowKit
set_option maxRecDepth 100000
set_option linter.unusedVariables false
set_option linter.unusedSimpArgs false

structure RkS (w0 : World) (q : Nat) (cs : Array Value) (u : World) : Prop where
  box : RowA u q 39 cs
  bel : Below w0.heap.size w0 u
theorem RkS.below {w0 : World} {q : Nat} {cs : Array Value} {u u' : World} (h : RkS w0 q cs u) (hb : Below u.heap.size u u') : RkS w0 q cs u' := ⟨h.box.below hb h.box.lt, h.bel.trans (hb.mono h.bel.size)⟩
abbrev ndC (gop : Int) (gset : Nat → Bool) (gl : List Int) (glo ghi : Int) (gnm : ByteArray) (Ax : Option Addr) (cx : Nat) : Array Value :=
  #[.int .u8 gop, .int .u64 (W gset 0), .int .u64 (W gset 1), .int .u64 (W gset 2), .int .u64 (W gset 3), .slice Ax gl.length cx, .int .i64 glo, .int .i64 ghi, .string gnm]
theorem node_cellsC {w : World} {b : Nat} {gop : Int} {gset : Nat → Bool} {gl : List Int} {glo ghi : Int} {gnm : ByteArray} {Ax : Option Addr} {cx : Nat} (r : RowA w b 39 (ndC gop gset gl glo ghi gnm Ax cx)) :
    w.cell? ⟨b, 0, none⟩ = some (.int .u8 gop) ∧ w.cell? ⟨b, 1, none⟩ = some (.int .u64 (W gset 0)) ∧ w.cell? ⟨b, 2, none⟩ = some (.int .u64 (W gset 1)) ∧ w.cell? ⟨b, 3, none⟩ = some (.int .u64 (W gset 2)) ∧ w.cell? ⟨b, 4, none⟩ = some (.int .u64 (W gset 3)) ∧
    w.cell? ⟨b, 5, none⟩ = some (.slice Ax gl.length cx) ∧ w.cell? ⟨b, 6, none⟩ = some (.int .i64 glo) ∧ w.cell? ⟨b, 7, none⟩ = some (.int .i64 ghi) ∧ w.cell? ⟨b, 8, none⟩ = some (.string gnm) :=
  ⟨r.at_ rfl, r.at_ rfl, r.at_ rfl, r.at_ rfl, r.at_ rfl, r.at_ rfl, r.at_ rfl, r.at_ rfl, r.at_ rfl⟩
set_option linter.unusedVariables false in
def NqGV (gA oA N c q : Nat) (gset : Nat → Bool) (gl : List Int) (glo ghi : Int) (gnm : ByteArray) (Ax : Option Addr) (cx : Nat) (K L : List Nat) (t : Nat) : Option Value :=
  match t with
  | 0 => some (.slice (some ⟨gA, oA, none⟩) N c)
  | 5 => some (.pointer (some ⟨q, 0, none⟩))
  | 27 => some (.slice (some ⟨gA, oA, none⟩) N c)
  | 28 => some (.agg #[.int .u8 5, .int .u64 (W gset 0), .int .u64 (W gset 1), .int .u64 (W gset 2), .int .u64 (W gset 3), .slice Ax gl.length cx, .int .i64 glo, .int .i64 ghi, .string gnm])
  | 30 => some (.pointer (some ⟨q, 6, none⟩))
  | 31 => some (.int .i64 glo)
  | 32 => some (.pointer (some ⟨q, 7, none⟩))
  | 33 => some (.int .i64 ghi)
  | _ => none
set_option linter.unusedVariables false in
def NqGP (gA oA N c q : Nat) (gset : Nat → Bool) (gl : List Int) (glo ghi : Int) (gnm : ByteArray) (Ax : Option Addr) (cx : Nat) (K L : List Nat) (t : Nat) : Option (Value → World → Prop) :=
  match t with
  | 29 => some (Sx K)
  | 34 => some (Sx L)
  | 35 => some (Sx (K ++ L))
  | _ => none
def NqG (gA oA N c q : Nat) (gset : Nat → Bool) (gl : List Int) (glo ghi : Int) (gnm : ByteArray) (Ax : Option Addr) (cx : Nat) (K L : List Nat) (t : Nat) (v : Value) (u : World) : Prop := (∀ z9, NqGV gA oA N c q gset gl glo ghi gnm Ax cx K L t = some z9 → v = z9) ∧ ∀ R, NqGP gA oA N c q gset gl glo ghi gnm Ax cx K L t = some R → R v u
theorem kid_len {sep : List Nat} {KT : Nat → List Nat} {i m : Nat} (h : i < m) : (KT i).length ≤ (kidsT sep KT m).length := by
  have h1 := kidsT_len sep KT (i := i + 1) (n := m) (by omega)
  rw [kidsT_succ, List.length_append, List.length_append] at h1
  omega
section
variable {W0 : World} {B b N c : Nat} {A : Option Addr} {gs : List Gd} {ns : List Nd}
set_option maxHeartbeats 4000000 in
theorem rnode_of (E : Env W0 B b N A gs ns) {f : Nat} (ih : RKid W0 B N c A gs ns f) : RNode W0 B N c A ns (f + 1) := by
  intro a ha haf w hW hl
  have hG := node_at E ha
  have hsh := E.shp a ha
  have hln := E.lens (gs.getD a gd0) (by rw [List.getD_eq_getElem?_getD, List.getElem?_eq_getElem (by rw [E.len]; exact ha)]; exact List.getElem_mem _)
  have haN : (a : Int) < (N : Int) := by omega
  obtain ⟨gA, oA, rfl, hgA, Ax, cx, hIx, rx⟩ := E.nds.at_ (k := a) (by rw [E.len]; exact ha)
  have hkd := fun i hi u hu hI hl => ih a i ha haf hi Ax cx u hu hI hl
  obtain ⟨g, hg⟩ : ∃ g, gs.getD a gd0 = g := ⟨_, rfl⟩
  rw [hg] at hG hln hIx rx hkd
  obtain ⟨n, hn⟩ : ∃ n, ns.getD a nd0 = n := ⟨_, rfl⟩
  rw [hn] at hl hG hsh hkd
  rw [hn]
  rw [nodeT_succ] at hl ⊢
  clear hn hg ih
  obtain ⟨gop, gset, gl, glo, ghi, gnm⟩ := g
  have hop : gop = (n.op : Int) := hG.op
  have hgl : gl.length = n.l.length := by have : gl = n.l.map fun k : Nat => (k : Int) := hG.l; rw [this]; simp
  obtain ⟨d0, d1, d2, d3, d4, d5, d6, d7, d8⟩ := range9 (u := w) (fun j z hz => (hW.cell (p := ⟨gA, oA + a * 9 + j, none⟩) hgA).trans (rx j z hz))
  simp only at d0 d1 d2 d3 d4 d5 d6 d7 d8
  have hBw := hW.size
  have hbase := E.base
  have D0 : Below w.heap.size w (w.alloc (.cells (ndC gop gset gl glo ghi gnm Ax cx) 39)) := (Below.refl _ _).alloc (Nat.le_refl _) _
  have R0 := RowA.new w 39 (ndC gop gset gl glo ghi gnm Ax cx)
  have HW0 := hidd (hW.trans (D0.mono (by omega)))
  have hm9 : gl.length ≤ 100000000 := hln.2
  have HKD0 : Hid (∀ i, i < gl.length → ∀ u, Below (w.alloc (.cells (ndC gop gset gl glo ghi gnm Ax cx) 39)).heap.size (w.alloc (.cells (ndC gop gset gl glo ghi gnm Ax cx) 39)) u → (kidT ns f n i).length ≤ 10000000000 → Calls Try.prog 58 #[.slice (some ⟨gA, oA, none⟩) N c, .agg (ndC gop gset gl glo ghi gnm Ax cx), .int .i64 (i : Int)] u fun e w' => TxtR (kidT ns f n i) u e w') := fun i hi u hu hll => by
    have hbu : Below B W0 u := HW0.out.trans (hu.mono (by have := HW0.out.size; omega))
    exact hkd i (by omega) u hbu (hIx.keep fun p hp => hbu.cell (by omega)) hll
  have hnm8 : gnm.size ≤ 1000 := hln.1
  obtain ⟨a0, a1, a2, a3, a4, a5, a6, a7, a8⟩ := node_cellsC R0
  have HD0 := hidd D0
  have HR0 := hidd R0
  obtain ⟨KT, hKT⟩ : ∃ KT, kidT ns f n = KT := ⟨_, rfl⟩
  have hb2 : ∀ b, b < 256 → gset b = n.s b := hG.s
  have hb6 : bs gnm = n.name := hG.nm
  have hlo : glo = n.lo := hG.lo
  have hhi : ghi = n.hi := hG.hi
  rw [hKT] at hl HKD0 ⊢
  have hsk := shape_kind hsh
  have hs5 := shape_op5 hsh
  clear hG hln rx hkd hIx hW D0 R0 hKT hsh
  by_cases h2 : n.op = 2
  · have HT : Hid (headT KT n = setT gset) := by
      show _ = _
      unfold headT
      rw [if_pos h2]
      exact (setT_congr hb2).symm
    obtain rfl : gop = 2 := by rw [hop, h2]; rfl
    rw [HT.out]
    clear hop h2 hsk hs5 hl hb2 hb6 hlo hhi HKD0 HW0 hgl
    go_enter Try.func49, Try.ntmps49
    go_wp2_with fail
    refine (rset_any gset _).mono ?_
    rintro e w2 ⟨s, rfl, hs, b2⟩
    have HS := hidd hs
    have HB := hidd (HD0.out.trans (b2.mono HD0.out.size))
    clear hs b2
    go_wp2
    go_ret
    exact ⟨s, rfl, HS.out, HB.out⟩
  by_cases h6 : n.op = 6
  · have HT : Hid (headT KT n = 123 :: (bs gnm ++ [125])) := by
      show _ = _
      unfold headT
      rw [if_neg h2, if_pos h6, hb6]
    obtain rfl : gop = 6 := by rw [hop, h6]; rfl
    rw [HT.out]
    clear hop h2 h6 hsk hs5 hl hb2 hb6 hlo hhi HKD0 HW0 hgl
    go_enter Try.func49, Try.ntmps49
    go_wp2
    go_ret
    exact ⟨_, rfl, by rw [bs_append, bs_append]; rfl, HD0.out⟩
  by_cases h5 : n.op = 5
  · obtain ⟨kk, hkk⟩ : ∃ k, n.l = [k] := by
      rcases hsk with h | h | h | h | h | h
      · omega
      · omega
      · omega
      · omega
      · exact h.2.1
      · omega
    have hg1 : gl.length = 1 := by rw [hgl, hkk]; rfl
    have HT : Hid (headT KT n = KT 0 ++ timesT glo ghi) := by
      show _ = _
      unfold headT
      rw [if_neg h2, if_neg h6, if_pos h5, hkk, ← hlo, ← hhi]
      have : kidsT [] KT [kk].length = KT 0 := by simp [kidsT, List.range_succ]
      rw [this]
    obtain ⟨q1, q2, q3, q4⟩ := hs5 h5
    rw [← hlo] at q1 q3 q4
    rw [← hhi] at q2 q4
    have htm := fun (u : World) => rtimes_any glo ghi q3 (by omega) (by omega) (by omega) u
    have hll : (KT 0).length + (timesT glo ghi).length ≤ 10000000000 := by rw [HT.out, List.length_append] at hl; exact hl
    have hkid := fun u hu => HKD0.out 0 (by omega) u hu (by omega)
    have hKl : Hid ((KT 0).length ≤ 10000000000) := by show _ ≤ _; omega
    have hLl : Hid ((timesT glo ghi).length ≤ 10000000000) := by show _ ≤ _; omega
    obtain rfl : gop = 5 := by rw [hop, h5]; rfl
    rw [HT.out]
    obtain ⟨K, hK⟩ : ∃ K, KT 0 = K := ⟨_, rfl⟩
    obtain ⟨L, hL⟩ : ∃ L, timesT glo ghi = L := ⟨_, rfl⟩
    rw [hK] at hkid hKl ⊢
    rw [hL] at htm hLl ⊢
    have HHK := hidd hkid
    have HHT := hidd htm
    clear hop h2 h5 h6 hsk hs5 hl hb2 hb6 hlo hhi HKD0 HW0 hgl hkk q1 q2 q3 q4 hll hK hL HT hg1 hkid htm
    go_enter Try.func49, Try.ntmps49
    go_wp2
    generalize w.alloc (.cells (ndC 5 gset gl glo ghi gnm Ax cx) 39) = u0 at *
    have hkid := HHK.out
    have htm := HHT.out
    refine wp_region_slotsT 9 (by decide) (by kernel_rfl) (by kernel_rfl) (fun _ _ => true) (RkS u0 w.heap.size (ndC 5 gset gl glo ghi gnm Ax cx)) (NqG gA oA N c w.heap.size gset gl glo ghi gnm Ax cx K L) Eb (by kernel_rfl) (by kernel_rfl) (by kernel_rfl) (by kernel_rfl) ?_ ⟨HR0.out, bel_drew (Below.refl _ _)⟩ [0, 5] (by kernel_rfl) ?_ ?_ ?_
    · intro t d v u u' _ _ h hE
      refine ⟨h.1, fun R hR => ?_⟩
      have h2 := h.2 R hR
      unfold NqGP at hR
      split at hR
      · cases hR; exact h2
      · cases hR; exact h2
      · cases hR; exact h2
      · cases hR
    · intro u _
      refine ⟨⟨_, rfl, ?_⟩, ⟨_, rfl, ?_⟩, trivial⟩ <;> exact ⟨fun _ h => Option.some.inj h, fun _ h => no_some h⟩
    · refine ⟨?_, ?_, ?_, ?_, ?_, ?_, ?_, ?_, ?_, trivial⟩
      · intro a u hS hr K hK
        obtain ⟨⟨vl0, e0, g0⟩, -⟩ := hr
        obtain rfl := g0.1 _ rfl
        clear g0
        rw [if_pos (want_none rfl)]
        unfold Oper.wp
        go_simp
        exact hK _ _ ⟨fun _ h => Option.some.inj h, fun _ h => no_some h⟩ hS (eby rfl (Below.refl _ _))
      · intro a u hS hr K hK
        obtain ⟨⟨vl0, e0, g0⟩, -⟩ := hr
        obtain rfl := g0.1 _ rfl
        clear g0
        rw [if_pos (want_none rfl)]
        obtain ⟨c0, c1, c2, c3, c4, c5, c6, c7, c8⟩ := node_cellsC hS.box
        unfold Oper.wp
        go_simp
        exact hK _ _ ⟨fun _ h => Option.some.inj h, fun _ h => no_some h⟩ hS (eby rfl (Below.refl _ _))
      · intro a u hS hr K hK
        obtain ⟨⟨vl0, e0, g0⟩, ⟨vl1, e1, g1⟩, -⟩ := hr
        obtain rfl := g0.1 _ rfl
        clear g0
        obtain rfl := g1.1 _ rfl
        clear g1
        rw [if_pos (want_none rfl)]
        unfold Oper.wp
        go_simp
        refine (hkid u hS.bel).mono ?_
        rintro e u1 ⟨s, rfl, hs, hb⟩
        exact hK _ _ ⟨fun _ h => no_some h, fun _ h => spec_ok h ⟨s, rfl, hs⟩⟩ (hS.below hb) (eby rfl hb)
      · intro a u hS hr K hK
        obtain ⟨⟨vl0, e0, g0⟩, -⟩ := hr
        obtain rfl := g0.1 _ rfl
        clear g0
        rw [if_pos (want_none rfl)]
        unfold Oper.wp
        go_simp
        exact hK _ _ ⟨fun _ h => Option.some.inj h, fun _ h => no_some h⟩ hS (eby rfl (Below.refl _ _))
      · intro a u hS hr K hK
        obtain ⟨⟨vl0, e0, g0⟩, -⟩ := hr
        obtain rfl := g0.1 _ rfl
        clear g0
        rw [if_pos (want_none rfl)]
        obtain ⟨c0, c1, c2, c3, c4, c5, c6, c7, c8⟩ := node_cellsC hS.box
        unfold Oper.wp
        go_simp
        exact hK _ _ ⟨fun _ h => Option.some.inj h, fun _ h => no_some h⟩ hS (eby rfl (Below.refl _ _))
      · intro a u hS hr K hK
        obtain ⟨⟨vl0, e0, g0⟩, -⟩ := hr
        obtain rfl := g0.1 _ rfl
        clear g0
        rw [if_pos (want_none rfl)]
        unfold Oper.wp
        go_simp
        exact hK _ _ ⟨fun _ h => Option.some.inj h, fun _ h => no_some h⟩ hS (eby rfl (Below.refl _ _))
      · intro a u hS hr K hK
        obtain ⟨⟨vl0, e0, g0⟩, -⟩ := hr
        obtain rfl := g0.1 _ rfl
        clear g0
        rw [if_pos (want_none rfl)]
        obtain ⟨c0, c1, c2, c3, c4, c5, c6, c7, c8⟩ := node_cellsC hS.box
        unfold Oper.wp
        go_simp
        exact hK _ _ ⟨fun _ h => Option.some.inj h, fun _ h => no_some h⟩ hS (eby rfl (Below.refl _ _))
      · intro a u hS hr K hK
        obtain ⟨⟨vl0, e0, g0⟩, ⟨vl1, e1, g1⟩, -⟩ := hr
        obtain rfl := g0.1 _ rfl
        clear g0
        obtain rfl := g1.1 _ rfl
        clear g1
        rw [if_pos (want_none rfl)]
        unfold Oper.wp
        go_simp
        refine (htm u).mono ?_
        rintro e u1 ⟨s, rfl, hs, hb⟩
        exact hK _ _ ⟨fun _ h => no_some h, fun _ h => spec_ok h ⟨s, rfl, hs⟩⟩ (hS.below hb) (eby rfl hb)
      · intro a u hS hr K hK
        obtain ⟨⟨vl0, e0, g0⟩, ⟨vl1, e1, g1⟩, -⟩ := hr
        replace g0 := g0.2 _ rfl
        replace g1 := g1.2 _ rfl
        rw [if_pos (want_none rfl)]
        obtain ⟨s1, rfl, hs1⟩ := g0
        obtain ⟨s2, rfl, hs2⟩ := g1
        have hz1 : s1.size ≤ 10000000000 := by rw [← bs_len, hs1]; exact hKl.out
        have hz2 : s2.size ≤ 10000000000 := by rw [← bs_len, hs2]; exact hLl.out
        have hz3 : ¬ 9223372036854775807 < s1.size + s2.size := by omega
        unfold Oper.wp
        go_simp
        exact hK _ _ ⟨fun _ h => no_some h, fun _ h => spec_ok h ⟨s1 ++ s2, rfl, by rw [bs_append, hs1, hs2]⟩⟩ hS (eby rfl (Below.refl _ _))
    intro a u hS hts hd hkn hf
    have HB := hidd (HD0.out.trans (hS.bel.mono HD0.out.size))
    clear hS
    obtain ⟨v27, e27, g27⟩ := hf 0 _ 27 (by decide) rfl rfl (fun _ => rfl)
    obtain ⟨v28, e28, g28⟩ := hf 1 _ 28 (by decide) rfl rfl (fun _ => rfl)
    obtain ⟨v29, e29, g29⟩ := hf 2 _ 29 (by decide) rfl rfl (fun _ => rfl)
    obtain ⟨v30, e30, g30⟩ := hf 3 _ 30 (by decide) rfl rfl (fun _ => rfl)
    obtain ⟨v31, e31, g31⟩ := hf 4 _ 31 (by decide) rfl rfl (fun _ => rfl)
    obtain ⟨v32, e32, g32⟩ := hf 5 _ 32 (by decide) rfl rfl (fun _ => rfl)
    obtain ⟨v33, e33, g33⟩ := hf 6 _ 33 (by decide) rfl rfl (fun _ => rfl)
    obtain ⟨v34, e34, g34⟩ := hf 7 _ 34 (by decide) rfl rfl (fun _ => rfl)
    obtain ⟨v35, e35, g35⟩ := hf 8 _ 35 (by decide) rfl rfl (fun _ => rfl)
    obtain ⟨v4, e4⟩ : ∃ z, a.tmps[4]? = some z := ⟨_, Array.getElem?_eq_getElem (by rw [hts]; simp)⟩
    have hA := act_puts [(27, v27), (28, v28), (29, v29), (30, v30), (31, v31), (32, v32), (33, v33), (34, v34), (35, v35), (4, v4)] hts hd hkn (by kernel_rfl) (by simp [e27, e28, e29, e30, e31, e32, e33, e34, e35, e4])
    clear hf hts hd hkn e27 e28 e29 e30 e31 e32 e33 e34 e35 e4
    obtain rfl := g27.1 _ rfl
    clear g27
    obtain rfl := g28.1 _ rfl
    clear g28
    replace g29 := g29.2 _ rfl
    obtain rfl := g30.1 _ rfl
    clear g30
    obtain rfl := g31.1 _ rfl
    clear g31
    obtain rfl := g32.1 _ rfl
    clear g32
    obtain rfl := g33.1 _ rfl
    clear g33
    replace g34 := g34.2 _ rfl
    replace g35 := g35.2 _ rfl
    subst hA
    simp only [List.foldl, List.setIfInBounds_toArray, List.set_cons_zero, List.set_cons_succ]
    simp only [List.drop_succ_cons, List.drop_zero]
    obtain ⟨s, rfl, hs⟩ := g35
    have HS := hidd hs
    clear hs g29 g34
    go_wp2
    go_ret
    exact ⟨s, rfl, HS.out, HB.out⟩
  have i2 : (gop == 2) = false := by rw [hop]; simp; omega
  have i5 : (gop == 5) = false := by rw [hop]; simp; omega
  have i6 : (gop == 6) = false := by rw [hop]; simp; omega
  by_cases h4 : n.op = 4
  · have HT : Hid (headT KT n = kidsT [124] KT gl.length) := by
      show _ = _
      unfold headT
      rw [if_neg h2, if_neg h6, if_neg h5, if_neg (by omega), if_pos h4, hgl]
    have HL : Hid ((kidsT [124] KT gl.length).length ≤ 10000000000) := by show _ ≤ _; rw [← HT.out]; exact hl
    have HKD : Hid (∀ i, i < gl.length → ∀ u, Below (w.alloc (.cells (ndC gop gset gl glo ghi gnm Ax cx) 39)).heap.size (w.alloc (.cells (ndC gop gset gl glo ghi gnm Ax cx) 39)) u → Calls Try.prog 58 #[.slice (some ⟨gA, oA, none⟩) N c, .agg (ndC gop gset gl glo ghi gnm Ax cx), .int .i64 (i : Int)] u fun e w' => TxtR (KT i) u e w') := fun i hi u hu => HKD0.out i hi u hu (Nat.le_trans (kid_len hi) HL.out)
    have i4 : (gop == 4) = true := by rw [hop, h4]; rfl
    clear hop h2 h4 h5 h6 hsk hs5 hl hb2 hb6 hlo hhi HKD0 HW0 hgl
    go_enter Try.func49, Try.ntmps49
    go_wp2_with fail
    generalize w.alloc (.cells (ndC gop gset gl glo ghi gnm Ax cx) 39) = u0 at *
    go_loopw [6, 7] (fun s6 s7 wr => ∃ (i : Nat) (b9 : ByteArray), s7 = .int .i64 (i : Int) ∧ s6 = .string b9 ∧ i ≤ gl.length ∧ bs b9 = kidsT [124] KT i ∧ Below u0.heap.size u0 wr) (fun _ s7 _ => gl.length - (intOf s7).toNat)
    case atStart => exact ⟨0, _, rfl, rfl, Nat.zero_le _, by rw [kidsT_zero]; rfl, Below.refl _ _⟩
    case round =>
      obtain ⟨i, b9, rfl, rfl, him, hb9, D4⟩ := hrel
      have HB9 := hidd hb9
      have HD4 := hidd D4
      have hbl : b9.size ≤ 10000000000 := by rw [← bs_len, hb9]; exact Nat.le_trans (kidsT_len [124] KT him) HL.out
      clear a0 a1 a2 a3 a4 a5 a6 a7 a8 hb9
      obtain ⟨a0, a1, a2, a3, a4, a5, a6, a7, a8⟩ := node_cellsC (HR0.out.below D4 HR0.out.lt)
      clear D4
      by_cases hlt : i < gl.length
      · have hii : (i : Int) < (gl.length : Int) := by omega
        have HSUC := hidd (kidsT_succ [124] KT i)
        have HLE := hidd (kidsT_len [124] KT (i := i + 1) (n := gl.length) (by omega))
        have hkid := HKD.out i hlt wr HD4.out
        by_cases h0 : i = 0
        · have hig : decide (0 < i) = false := decide_eq_false (by omega)
          have hig2 : ¬ ((0 : Int) < (i : Int)) := by omega
          have HS0 : Hid (kidsT [124] KT (i + 1) = kidsT [124] KT i ++ KT i) := by show _ = _; rw [HSUC.out, if_neg (by omega)]; rfl
          clear h0 HSUC
          go_wp2_with fail
          refine hkid.mono ?_
          rintro e w5 ⟨s5, rfl, hs5, b5⟩
          have HREL : Hid (bs (b9 ++ s5) = kidsT [124] KT (i + 1)) := by show _ = _; rw [bs_append, HB9.out, hs5, HS0.out]
          have hl5 : s5.size ≤ 10000000000 := by
            have h1 := HLE.out
            rw [HS0.out, List.length_append, ← hs5, bs_len] at h1
            have := HL.out
            omega
          have D5 := hidd (HD4.out.trans (b5.mono HD4.out.size))
          clear hs5 b5 HB9 HS0 HLE hkid HD4
          go_wp2
          exact ⟨⟨i + 1, _, rfl, rfl, by omega, HREL.out, D5.out⟩, by simp [intOf]; omega⟩
        · have hig : decide (0 < i) = true := decide_eq_true (by omega)
          have hig2 : (0 : Int) < (i : Int) := by omega
          have HS0 : Hid (kidsT [124] KT (i + 1) = kidsT [124] KT i ++ ([124] ++ KT i)) := by show _ = _; rw [HSUC.out, if_pos (by omega)]
          clear h0 HSUC
          go_wp2_with fail
          refine hkid.mono ?_
          rintro e w5 ⟨s5, rfl, hs5, b5⟩
          have HREL : Hid (bs ((b9 ++ { data := #[124] }) ++ s5) = kidsT [124] KT (i + 1)) := by show _ = _; rw [bs_append, bs_append, HB9.out, hs5, HS0.out]; simp [bs]
          have hl5 : s5.size ≤ 10000000000 := by
            have h1 := HLE.out
            rw [HS0.out, List.length_append, List.length_append, ← hs5, bs_len] at h1
            have := HL.out
            omega
          have D5 := hidd (HD4.out.trans (b5.mono HD4.out.size))
          clear hs5 b5 HB9 HS0 HLE hkid HD4
          go_wp2
          exact ⟨⟨i + 1, _, rfl, rfl, by omega, HREL.out, D5.out⟩, by simp [intOf]; omega⟩
      · have hie : i = gl.length := by omega
        have hif : ¬ ((i : Int) < (gl.length : Int)) := by omega
        have HEND : Hid (bs b9 = kidsT [124] KT gl.length) := by show _ = _; rw [HB9.out, hie]
        have HDE := hidd (HD0.out.trans (HD4.out.mono HD0.out.size))
        clear hie HB9 hlt
        go_wp2
        go_ret
        exact ⟨_, rfl, by rw [HEND.out, HT.out], HDE.out⟩
  · have HT : Hid (headT KT n = kidsT [] KT gl.length) := by
      show _ = _
      unfold headT
      by_cases h3 : n.op = 3
      · rw [if_neg h2, if_neg h6, if_neg h5, if_pos h3, hgl]
      · rw [if_neg h2, if_neg h6, if_neg h5, if_neg h3, if_neg h4, hgl]
        rcases hsk with h | h | h | h | h | h
        · rw [h.2]; rfl
        · omega
        · omega
        · omega
        · omega
        · omega
    have HL : Hid ((kidsT [] KT gl.length).length ≤ 10000000000) := by show _ ≤ _; rw [← HT.out]; exact hl
    have HKD : Hid (∀ i, i < gl.length → ∀ u, Below (w.alloc (.cells (ndC gop gset gl glo ghi gnm Ax cx) 39)).heap.size (w.alloc (.cells (ndC gop gset gl glo ghi gnm Ax cx) 39)) u → Calls Try.prog 58 #[.slice (some ⟨gA, oA, none⟩) N c, .agg (ndC gop gset gl glo ghi gnm Ax cx), .int .i64 (i : Int)] u fun e w' => TxtR (KT i) u e w') := fun i hi u hu => HKD0.out i hi u hu (Nat.le_trans (kid_len hi) HL.out)
    have i4 : (gop == 4) = false := by rw [hop]; simp; omega
    clear hop h2 h4 h5 h6 hsk hs5 hl hb2 hb6 hlo hhi HKD0 HW0 hgl
    go_enter Try.func49, Try.ntmps49
    go_wp2_with fail
    generalize w.alloc (.cells (ndC gop gset gl glo ghi gnm Ax cx) 39) = u0 at *
    go_loopw [6, 7] (fun s6 s7 wr => ∃ (i : Nat) (b9 : ByteArray), s7 = .int .i64 (i : Int) ∧ s6 = .string b9 ∧ i ≤ gl.length ∧ bs b9 = kidsT [] KT i ∧ Below u0.heap.size u0 wr) (fun _ s7 _ => gl.length - (intOf s7).toNat)
    case atStart => exact ⟨0, _, rfl, rfl, Nat.zero_le _, by rw [kidsT_zero]; rfl, Below.refl _ _⟩
    case round =>
      obtain ⟨i, b9, rfl, rfl, him, hb9, D4⟩ := hrel
      have HB9 := hidd hb9
      have HD4 := hidd D4
      have hbl : b9.size ≤ 10000000000 := by rw [← bs_len, hb9]; exact Nat.le_trans (kidsT_len [] KT him) HL.out
      clear a0 a1 a2 a3 a4 a5 a6 a7 a8 hb9
      obtain ⟨a0, a1, a2, a3, a4, a5, a6, a7, a8⟩ := node_cellsC (HR0.out.below D4 HR0.out.lt)
      clear D4
      by_cases hlt : i < gl.length
      · have hii : (i : Int) < (gl.length : Int) := by omega
        have HSUC := hidd (kidsT_succ [] KT i)
        have HLE := hidd (kidsT_len [] KT (i := i + 1) (n := gl.length) (by omega))
        have hkid := HKD.out i hlt wr HD4.out
        by_cases h0 : i = 0
        · have hig : decide (0 < i) = false := decide_eq_false (by omega)
          have hig2 : ¬ ((0 : Int) < (i : Int)) := by omega
          have HS0 : Hid (kidsT [] KT (i + 1) = kidsT [] KT i ++ KT i) := by show _ = _; rw [HSUC.out, if_neg (by omega)]; rfl
          clear h0 HSUC
          go_wp2_with fail
          refine hkid.mono ?_
          rintro e w5 ⟨s5, rfl, hs5, b5⟩
          have HREL : Hid (bs (b9 ++ s5) = kidsT [] KT (i + 1)) := by show _ = _; rw [bs_append, HB9.out, hs5, HS0.out]
          have hl5 : s5.size ≤ 10000000000 := by
            have h1 := HLE.out
            rw [HS0.out, List.length_append, ← hs5, bs_len] at h1
            have := HL.out
            omega
          have D5 := hidd (HD4.out.trans (b5.mono HD4.out.size))
          clear hs5 b5 HB9 HS0 HLE hkid HD4
          go_wp2
          exact ⟨⟨i + 1, _, rfl, rfl, by omega, HREL.out, D5.out⟩, by simp [intOf]; omega⟩
        · have hig : decide (0 < i) = true := decide_eq_true (by omega)
          have hig2 : (0 : Int) < (i : Int) := by omega
          have HS0 : Hid (kidsT [] KT (i + 1) = kidsT [] KT i ++ ([] ++ KT i)) := by show _ = _; rw [HSUC.out, if_pos (by omega)]
          clear h0 HSUC
          go_wp2_with fail
          refine hkid.mono ?_
          rintro e w5 ⟨s5, rfl, hs5, b5⟩
          have HREL : Hid (bs (b9 ++ s5) = kidsT [] KT (i + 1)) := by show _ = _; rw [bs_append, (show bs b9 = bs b9 from rfl), HB9.out, hs5, HS0.out]; simp [bs]
          have hl5 : s5.size ≤ 10000000000 := by
            have h1 := HLE.out
            rw [HS0.out, List.length_append, List.length_append, ← hs5, bs_len] at h1
            have := HL.out
            omega
          have D5 := hidd (HD4.out.trans (b5.mono HD4.out.size))
          clear hs5 b5 HB9 HS0 HLE hkid HD4
          go_wp2
          exact ⟨⟨i + 1, _, rfl, rfl, by omega, HREL.out, D5.out⟩, by simp [intOf]; omega⟩
      · have hie : i = gl.length := by omega
        have hif : ¬ ((i : Int) < (gl.length : Int)) := by omega
        have HEND : Hid (bs b9 = kidsT [] KT gl.length) := by show _ = _; rw [HB9.out, hie]
        have HDE := hidd (HD0.out.trans (HD4.out.mono HD0.out.size))
        clear hie HB9 hlt
        go_wp2
        go_ret
        exact ⟨_, rfl, by rw [HEND.out, HT.out], HDE.out⟩
theorem rnode_all (E : Env W0 B b N A gs ns) : ∀ f, RNode W0 B N c A ns f
  | 0 => fun a _ h => absurd h (Nat.not_lt_zero a)
  | f + 1 => rnode_of E (rkid_of E (rnode_all E f))
end
end Go.Proofs.Ytaagkfiaccmepaa.Sy.Pn.Rp

/- The reference's ends: where a node may end, from some places on. -/
import Derived.Test.YtdaaigkmlbpbgaaPGy
namespace Go.Proofs.Ytdaaigkmlbpbgaa.Sy.Lg.Rn
open Go.RowKit Go.Proofs.Ytdaaigkmlbpbgaa.Sy.Ap Go.Proofs.Ytdaaigkmlbpbgaa.Sy.Ap.Wk Go.Proofs.Ytdaaigkmlbpbgaa.Sy.Lg.En
set_option maxRecDepth 100000
set_option linter.unusedVariables false

theorem BlR.conv {n : Nat} {u w2 w' : World} {Y X : Nat → Prop} {e : Ending} (h : BlR n w2 Y e w') (hb : Below u.heap.size u w2) (hY : ∀ j, j < n → (Y j ↔ X j)) : BlR n u X e w' := by
  obtain ⟨b, A, c, f, e1, e2, e3⟩ := h
  exact ⟨hb.trans (b.mono hb.size), A, c, f, e1, e2, fun j hj => (e3 j hj).trans (hY j hj)⟩
theorem bsl (s : ByteArray) (i : Nat) : (bs s).getD i 0 < 256 := by
  rw [List.getD_eq_getElem?_getD]
  unfold bs
  rw [List.getElem?_map]
  cases s.data.toList[i]? with
  | none => decide
  | some b => exact b.toNat_lt
theorem node_ops {ns : List Nd} (ht : TreeN ns) (hp : PlainN ns) {n : Nd} (hn : n ∈ ns) : n.op = 1 ∨ n.op = 2 ∨ n.op = 3 ∨ n.op = 4 ∨ n.op = 5 := by
  have hs := ht.shp n hn
  have h6 := hp n hn
  unfold shapeB at hs
  by_cases h1 : n.op = 1
  · exact .inl h1
  · by_cases h2 : n.op = 2
    · exact .inr (.inl h2)
    · by_cases h3 : n.op = 3
      · exact .inr (.inr (.inl h3))
      · by_cases h4 : n.op = 4
        · exact .inr (.inr (.inr (.inl h4)))
        · by_cases h5 : n.op = 5
          · exact .inr (.inr (.inr (.inr h5)))
          · rw [if_neg h1, if_neg h2, if_neg (by omega), if_neg h5, if_neg h6] at hs
            cases hs
theorem rep_bnd {n : Nd} (hs : shapeB n = true) (h5 : n.op = 5) : n.l.length = 1 ∧ 0 ≤ n.lo ∧ n.lo ≤ 4096 ∧ (n.hi = -1 ∨ (1 ≤ n.hi ∧ n.hi ≤ 4096 ∧ n.lo ≤ n.hi)) := by
  unfold shapeB at hs
  rw [if_neg (by omega), if_neg (by omega), if_neg (by omega), if_pos h5] at hs
  simp only [Bool.and_eq_true, Bool.or_eq_true, decide_eq_true_eq, beq_iff_eq] at hs
  refine ⟨hs.1.1.1.2, hs.1.1.2, hs.1.2, ?_⟩
  rcases hs.2 with q | q
  · exact .inl q
  · exact .inr ⟨q.1.1, q.1.2, q.2⟩
theorem img_rel {R R' : Rel} {X : Nat → Prop} (h : ∀ i j, R' i j ↔ R i j) (j : Nat) : img R X j ↔ img R' X j := by
  constructor
  · rintro ⟨i, q1, q2⟩; exact ⟨i, q1, (h i j).2 q2⟩
  · rintro ⟨i, q1, q2⟩; exact ⟨i, q1, (h i j).1 q2⟩
theorem chain_lt {R : Nat → Rel} {n : Nat} (hR : ∀ k i j, R k i j → i < n → j < n) : ∀ (l : List Nat) (i j : Nat), chainR R l i j → i < n → j < n
  | [], i, j, h, hi => by cases h; exact hi
  | x :: l, i, j, ⟨m, h1, h2⟩, hi => chain_lt hR l m j h2 (hR x i m h1 hi)
set_option maxHeartbeats 4000000 in
theorem rends_any (base : World) (b1 o1 : Nat) (hb1 : b1 < base.heap.size) (lc : Nat) (gs : List Gd) (ns : List Nd) (s : ByteArray) (n : Nat) (hN : Nds base base.heap.size (some ⟨b1, o1, none⟩) gs) (hg : GN gs ns) (ht : TreeN ns) (hp : PlainN ns) (hn : s.size + 1 = n) (hl : n ≤ 1000) :
    ∀ k, k < ns.length → KidC base n (some ⟨b1, o1, none⟩) gs.length lc s k (Mt ns (bs s) k) := by
  intro k
  induction k using Nat.strongRecOn with
  | ind k ih =>
    intro hk u A c f X hb hx hf hX
    have hkg : k < gs.length := by rw [hg.1]; exact hk
    have hgn := hg.2 k hkg
    have hnk : ns[k]? = some ns[k] := List.getElem?_eq_getElem hk
    have e0 : ns.getD k nd0 = ns[k] := by rw [List.getD_eq_getElem?_getD, hnk]; rfl
    rw [e0] at hgn
    obtain ⟨bb, oo, ebb, _, A3, c3, hI, r1⟩ := (hN.below hb).at_ (k := k) hkg
    injection ebb with ebb
    injection ebb with eb eo
    subst eb eo
    have hmem := List.mem_of_getElem? hnk
    have hops := node_ops ht hp hmem
    have hsh := ht.shp _ hmem
    have hlow := (ht.low k _ hnk).2
    have hfew := ht.few
    have hRlt : ∀ k i j, Mt ns (bs s) k i j → i < n → j < n := fun k i j h hi => by
      have := (Mt_in ht.low (bs s) k i j h).2
      rw [bs_len] at this
      have := this (by omega)
      omega
    have hMt : ∀ i j, Mt ns (bs s) k i j ↔ node1 (bs s) ns[k] (Mt ns (bs s)) i j := fun i j => Mt_eq ht.low (bs s) k hnk i j
    have hkids : ∀ c ∈ ns[k].l, KidC base n (some ⟨b1, o1, none⟩) gs.length lc s c (Mt ns (bs s) c) := fun c hc => ih c (hlow c hc) (by have := hlow c hc; omega)
    have hkl : ns[k].l.length ≤ 1024 := by
      have := gn_kids hg ht (gs.getD k gd0) (by rw [List.getD_eq_getElem?_getD, List.getElem?_eq_getElem hkg]; exact List.getElem_mem hkg)
      rw [hgn.l, List.length_map] at this
      omega
    have hkb : ∀ c ∈ ns[k].l, c < 1024 := fun c hc => by have := hlow c hc; omega
    generalize gs.getD k gd0 = g at *
    generalize ns[k] = nd at *
    generalize hM : (fun k => Mt ns (bs s) k) = M at *
    have hMe : ∀ k, Mt ns (bs s) k = M k := fun k => congrFun hM k
    simp only [hMe] at hRlt hMt hkids ⊢
    have hMt : ∀ i j, M k i j ↔ node1 (bs s) nd M i j := fun i j => by rw [hMt]; rw [← hM]
    have hgop : g.op = (nd.op : Int) := hgn.op
    have hgl : g.l = nd.l.map fun k : Nat => (k : Int) := hgn.l
    have hglo : g.lo = nd.lo := hgn.lo
    have hghi : g.hi = nd.hi := hgn.hi
    have hgs : ∀ x, x < 256 → g.s x = nd.s x := hgn.s
    have hgll : g.l.length = nd.l.length := by rw [hgl, List.length_map]
    have hnpos : 0 < n := by omega
    have Z1 := RowA.new u 38 zeroC
    have hW1 : Below u.heap.size u ((u.alloc (.cells zeroC 38)).setRow u.heap.size (gdL g A3 c3).toArray) := bel_setRow ((Below.refl _ _).alloc (Nat.le_refl _) _) _ _ (Nat.le_refl _)
    have R1 := Z1.row (gdL g A3 c3).toArray
    obtain ⟨ll, hll⟩ : ∃ ll, gs.length = ll := ⟨_, rfl⟩
    rw [hll] at hkids hkg ⊢
    have hkgi : (k : Int) < (ll : Int) := by omega
    have HK := hidd hkids
    have HMT := hidd hMt
    have HRL := hidd hRlt
    have HB := hidd hb
    have HF := hidd hf
    have HX := hidd hX
    have HBX := hidd hx
    have HN := hidd hn
    have HI := hidd hI
    clear ih hN hg ht hp hgn hnk e0 hmem hlow hfew hM hMe hkids hMt hRlt hb hf hX hx hn hI hll
    go_enter Try.func33, Try.ntmps33
    go_upto_region 2 with (first
      | refine wpList_load_mid rfl 38 (.tmp 15) rfl b1 (o1 + k * 9) rfl (gdL g A3 c3) _ r1 Try.underlying38 rfl (gdL_info g A3 c3) ?_
      | refine wpList_store_row rfl 38 (.tmp 9) (.tmp 16) rfl u.heap.size (gdL g A3 c3).toArray rfl rfl 38 zeroC Z1 (gdL_infoA g A3 c3) rfl (gdL_one g A3 c3) ?_)
    change RowA ((u.alloc (.cells zeroC 38)).setRow u.heap.size (gdL g A3 c3).toArray) _ _ _ at R1
    generalize (u.alloc (.cells zeroC 38)).setRow u.heap.size (gdL g A3 c3).toArray = w2 at *
    obtain ⟨q, hq⟩ : ∃ q, u.heap.size = q := ⟨_, rfl⟩
    rw [hq] at R1
    rw [hq]
    rw [put_none]
    have HQ := hidd hq
    have HW := hidd hW1
    have HR1 := hidd R1
    have x0 : w2.cell? ⟨q, 0, none⟩ = some (.int .u8 g.op) := R1.at_ rfl
    have HX2 := hidd ((HBX.out.below hW1).more hW1.size)
    clear Z1 r1 hq hW1 R1
    rw [hgop] at x0
    rcases hops with h | h | h | h | h
    · rw [h] at x0
      have HF9 : Hid (BlR n u (img (M k) X) (.returned (.slice A n c)) w2) := ⟨HW.out, _, _, f, rfl, HX2.out, fun j hj => by
        rw [HF.out j hj]
        have : ∀ i j, M k i j ↔ i = j := fun i j => by
          rw [HMT.out]
          unfold node1
          rw [if_neg (by omega), if_neg (by omega), if_neg (by omega), if_neg (by omega)]
        constructor
        · intro q; exact ⟨j, q, (this j j).2 rfl⟩
        · rintro ⟨i, q1, q2⟩; rw [← (this i j).1 q2]; exact q1⟩
      go_wp2
      go_ret
      exact HF9.out
    · rw [h] at x0
      have x1 : w2.cell? ⟨q, 1, none⟩ = some (.int .u64 (W g.s 0)) := HR1.out.at_ rfl
      have x2 : w2.cell? ⟨q, 2, none⟩ = some (.int .u64 (W g.s 1)) := HR1.out.at_ rfl
      have x3 : w2.cell? ⟨q, 3, none⟩ = some (.int .u64 (W g.s 2)) := HR1.out.at_ rfl
      have x4 : w2.cell? ⟨q, 4, none⟩ = some (.int .u64 (W g.s 3)) := HR1.out.at_ rfl
      have hone := one_any g.s s A c n f w2 HX2.out HN.out hl
      go_wp2_with fail
      refine hone.mono ?_
      intro e w5 hres
      have hcv : BlR n u (img (M k) X) e w5 := hres.conv HW.out fun j hj => by
        have : ∀ i j, M k i j ↔ i < s.size ∧ nd.s ((bs s).getD i 0) = true ∧ j = i + 1 := fun i j => by
          rw [HMT.out]
          unfold node1
          rw [if_pos h, bs_len]
        constructor
        · rintro ⟨i, q1, q2, q3, q4⟩
          exact ⟨i, (HF.out i (by have := HN.out; omega)).1 q1, (this i j).2 ⟨q2, by rw [← hgs _ (bsl s i)]; exact q3, q4⟩⟩
        · rintro ⟨i, q1, q2⟩
          obtain ⟨r1, r2, r3⟩ := (this i j).1 q2
          exact ⟨i, (HF.out i (by have := HN.out; omega)).2 q1, r1, by rw [hgs _ (bsl s i)]; exact r2, r3⟩
      obtain ⟨_, A5, c5, f5, rfl, _, _⟩ := hres
      have HCV := hidd hcv
      clear hcv hone x1 x2 x3 x4
      go_wp2
      go_ret
      exact HCV.out
    · rw [h] at x0
      obtain ⟨m, hm⟩ : ∃ m, nd.l.length = m := ⟨_, rfl⟩
      rw [hm] at hgll hkl
      have HM := hidd hm
      have HGL := hidd hgl
      have HGLL := hidd hgll
      have HKB := hidd hkb
      clear hm hgl hgll hkb x0
      have x0 : w2.cell? ⟨q, 0, none⟩ = some (.int .u8 3) := by
        have this : w2.cell? ⟨q, 0, none⟩ = some (.int .u8 g.op) := HR1.out.at_ rfl
        rw [hgop, h] at this
        exact this
      go_wp2
      go_loopw [3, 10] (fun s3 s10 wr => ∃ (i : Nat) (A2 : Option Addr) (c2 : Nat) (f2 : Nat → Bool), i ≤ m ∧ s10 = .int .i64 (i : Int) ∧ s3 = .slice A2 n c2 ∧ Below w2.heap.size w2 wr ∧ Bls wr wr.heap.size A2 n f2 ∧ ∀ j, j < n → (f2 j = true ↔ img (chainR M (nd.l.take i)) X j)) (fun _ s10 _ => m - (intOf s10).toNat)
      case atStart => exact ⟨0, _, _, f, Nat.zero_le _, rfl, rfl, Below.refl _ _, HX2.out, fun j hj => by rw [HF.out j hj, List.take_zero, Wl.img_nil]⟩
      case round =>
        obtain ⟨i, A2, c2, f2, hi0, rfl, rfl, hbw, hb2, hf2⟩ := hrel
        have y5 : wr.cell? ⟨q, 5, none⟩ = some (.slice A3 m c3) := by
          rw [hbw.cell (by exact HR1.out.lt), ← HGLL.out]; exact HR1.out.at_ rfl
        by_cases hlt : i < m
        · have hii : (i : Int) < (m : Int) := by omega
          have hig : i < g.l.length := by rw [HGLL.out]; exact hlt
          have hin : i < nd.l.length := by rw [HM.out]; exact hlt
          obtain ⟨gb, go, rfl, hgb, hkc⟩ := HI.out.at_ (k := i) hig
          have hkc2 : wr.cell? ⟨gb, go + i, none⟩ = some (.int .i64 ((nd.l.getD i 0 : Nat) : Int)) := by
            have e1 : u.heap.size = q := HQ.out
            rw [hbw.cell (by show gb < w2.heap.size; have := HW.out.size; have := HB.out.size; omega), HW.out.cell (by show gb < u.heap.size; have := HB.out.size; omega), hkc, HGL.out, List.getD_eq_getElem?_getD, List.getElem?_map, List.getElem?_eq_getElem hin, List.getD_eq_getElem?_getD, List.getElem?_eq_getElem hin]
            rfl
          have hcm : nd.l.getD i 0 ∈ nd.l := by
            rw [List.getD_eq_getElem?_getD, List.getElem?_eq_getElem hin]
            exact List.getElem_mem hin
          have hkid := HK.out _ hcm wr A2 c2 f2 (img (chainR M (nd.l.take i)) X) (HB.out.trans ((HW.out.trans (hbw.mono HW.out.size)).mono HB.out.size)) hb2 hf2 (fun j q => img_lt (chain_lt HRL.out _) HX.out j q)
          have hcb := HKB.out _ hcm
          have HTK : Hid (∀ j, img (M (nd.l.getD i 0)) (img (chainR M (nd.l.take i)) X) j ↔ img (chainR M (nd.l.take (i + 1))) X j) := fun j => by rw [Wl.take_next hin, Wl.img_chain]
          generalize nd.l.getD i 0 = kd at *
          have HBW := hidd hbw
          clear hkc hig hin hcm hbw hb2 hf2
          go_wp2_with fail
          refine hkid.mono ?_
          rintro e w5 ⟨b5, A5, c5, f5, rfl, hb5, hf5⟩
          have HS5 : Hid (Below w2.heap.size w2 w5 ∧ Bls w5 w5.heap.size A5 n f5 ∧ ∀ j, j < n → (f5 j = true ↔ img (chainR M (nd.l.take (i + 1))) X j)) := ⟨HBW.out.trans (b5.mono HBW.out.size), hb5, fun j hj => by rw [hf5 j hj, HTK.out]⟩
          clear hkid b5 hb5 hf5
          go_wp2
          exact ⟨⟨i + 1, _, _, f5, by omega, rfl, rfl, HS5.out.1, HS5.out.2.1, HS5.out.2.2⟩, by simp [intOf]; omega⟩
        · have hie : m = i := by omega
          have htk : nd.l.take i = nd.l := List.take_of_length_le (by rw [HM.out]; omega)
          rw [htk] at hf2
          have HF9 : Hid (BlR n u (img (M k) X) (.returned (.slice A2 n c2)) wr) := ⟨HW.out.trans (hbw.mono HW.out.size), _, _, f2, rfl, hb2, fun j hj => by
            rw [hf2 j hj]
            refine img_rel (fun i j => ?_) j
            rw [HMT.out]
            unfold node1
            rw [if_neg (by omega), if_pos h]⟩
          have hnlt : ¬ (i : Int) < (m : Int) := by omega
          clear hbw hb2 hf2 hie htk
          go_wp2
          go_ret
          exact HF9.out
    · rw [h] at x0
      obtain ⟨m, hm⟩ : ∃ m, nd.l.length = m := ⟨_, rfl⟩
      rw [hm] at hgll hkl
      have HM := hidd hm
      have HGL := hidd hgl
      have HGLL := hidd hgll
      have HKB := hidd hkb
      clear hm hgl hgll hkb x0
      have x0 : w2.cell? ⟨q, 0, none⟩ = some (.int .u8 4) := by
        have this : w2.cell? ⟨q, 0, none⟩ = some (.int .u8 g.op) := HR1.out.at_ rfl
        rw [hgop, h] at this
        exact this
      have hpl := places_any s n HN.out hl w2
      go_wp2_with fail
      refine hpl.mono ?_
      rintro e w3 ⟨b3, q3, hq3, rfl, r3⟩
      have HB3 := hidd b3
      have HBF := hidd (Bls.of_row (f := fun _ => false) r3)
      clear hpl b3 hq3 r3
      go_wp2
      go_loopw [11, 12] (fun s11 s12 wr => ∃ (i : Nat) (A2 : Option Addr) (c2 : Nat) (f2 : Nat → Bool), i ≤ m ∧ s12 = .int .i64 (i : Int) ∧ s11 = .slice A2 n c2 ∧ Below w2.heap.size w2 wr ∧ Bls wr wr.heap.size A2 n f2 ∧ ∀ j, j < n → (f2 j = true ↔ ∃ d, d ∈ nd.l.take i ∧ img (M d) X j)) (fun _ s12 _ => m - (intOf s12).toNat)
      case atStart => exact ⟨0, _, _, _, Nat.zero_le _, rfl, rfl, HB3.out, HBF.out, fun j hj => by simp⟩
      case round =>
        clear HBF
        obtain ⟨i, A2, c2, f2, hi0, rfl, rfl, hbw, hb2, hf2⟩ := hrel
        have y5 : wr.cell? ⟨q, 5, none⟩ = some (.slice A3 m c3) := by
          rw [hbw.cell (by exact HR1.out.lt), ← HGLL.out]; exact HR1.out.at_ rfl
        by_cases hlt : i < m
        · have hii : (i : Int) < (m : Int) := by omega
          have hig : i < g.l.length := by rw [HGLL.out]; exact hlt
          have hin : i < nd.l.length := by rw [HM.out]; exact hlt
          obtain ⟨gb, go, rfl, hgb, hkc⟩ := HI.out.at_ (k := i) hig
          have hkc2 : wr.cell? ⟨gb, go + i, none⟩ = some (.int .i64 ((nd.l.getD i 0 : Nat) : Int)) := by
            have e1 : u.heap.size = q := HQ.out
            rw [hbw.cell (by show gb < w2.heap.size; have := HW.out.size; have := HB.out.size; omega), HW.out.cell (by show gb < u.heap.size; have := HB.out.size; omega), hkc, HGL.out, List.getD_eq_getElem?_getD, List.getElem?_map, List.getElem?_eq_getElem hin, List.getD_eq_getElem?_getD, List.getElem?_eq_getElem hin]
            rfl
          have hcm : nd.l.getD i 0 ∈ nd.l := by
            rw [List.getD_eq_getElem?_getD, List.getElem?_eq_getElem hin]
            exact List.getElem_mem hin
          have hkid := HK.out _ hcm wr A c f X (HB.out.trans ((HW.out.trans (hbw.mono HW.out.size)).mono HB.out.size)) ((HX2.out.below hbw).more hbw.size) HF.out HX.out
          have hcb := HKB.out _ hcm
          have HTK : Hid (∀ x, x ∈ nd.l.take (i + 1) ↔ x ∈ nd.l.take i ∨ x = nd.l.getD i 0) := take_mem_snoc hin
          generalize nd.l.getD i 0 = kd at *
          have HBW := hidd hbw
          have HB2 := hidd hb2
          have HF2 := hidd hf2
          clear hkc hig hin hcm hbw hb2 hf2
          go_wp2_with fail
          refine hkid.mono ?_
          rintro e w5 ⟨b5, A5, c5, f5, rfl, hb5, hf5⟩
          have hor := or_any A2 A5 c2 c5 n f2 f5 w5 ((HB2.out.below b5).more b5.size) hb5 hnpos hl
          have HB5 := hidd (HBW.out.trans (b5.mono HBW.out.size))
          have HF5 := hidd hf5
          clear hkid b5 hb5 hf5
          go_wp2_with fail
          refine hor.mono ?_
          rintro e w6 ⟨b6, A6, c6, f6, rfl, hb6, hf6⟩
          have HS6 : Hid (Below w2.heap.size w2 w6 ∧ Bls w6 w6.heap.size A6 n f6 ∧ ∀ j, j < n → (f6 j = true ↔ ∃ d, d ∈ nd.l.take (i + 1) ∧ img (M d) X j)) := ⟨HB5.out.trans (b6.mono HB5.out.size), hb6, fun j hj => by
            rw [hf6 j hj]
            show (f2 j = true ∨ f5 j = true) ↔ _
            rw [HF2.out j hj, HF5.out j hj]
            constructor
            · rintro (⟨d, q1, q2⟩ | q)
              · exact ⟨d, (HTK.out d).2 (.inl q1), q2⟩
              · exact ⟨kd, (HTK.out kd).2 (.inr rfl), q⟩
            · rintro ⟨d, q1, q2⟩
              rcases (HTK.out d).1 q1 with r | r
              · exact .inl ⟨d, r, q2⟩
              · rw [r] at q2; exact .inr q2⟩
          clear hor b6 hb6 hf6
          go_wp2
          exact ⟨⟨i + 1, _, _, f6, by omega, rfl, rfl, HS6.out.1, HS6.out.2.1, HS6.out.2.2⟩, by simp [intOf]; omega⟩
        · have hie : m = i := by omega
          have htk : nd.l.take i = nd.l := List.take_of_length_le (by rw [HM.out]; omega)
          rw [htk] at hf2
          have HF9 : Hid (BlR n u (img (M k) X) (.returned (.slice A2 n c2)) wr) := ⟨HW.out.trans (hbw.mono HW.out.size), _, _, f2, rfl, hb2, fun j hj => by
            rw [hf2 j hj]
            have : ∀ i j, M k i j ↔ ∃ d ∈ nd.l, M d i j := fun i j => by
              rw [HMT.out]
              unfold node1
              rw [if_neg (by omega), if_neg (by omega), if_pos h]
            constructor
            · rintro ⟨d, q1, i, q2, q3⟩; exact ⟨i, q2, (this i j).2 ⟨d, q1, q3⟩⟩
            · rintro ⟨i, q2, q3⟩
              obtain ⟨d, q1, q4⟩ := (this i j).1 q3
              exact ⟨d, q1, i, q2, q4⟩⟩
          have hnlt : ¬ (i : Int) < (m : Int) := by omega
          clear hbw hb2 hf2 hie htk
          go_wp2
          go_ret
          exact HF9.out
    · obtain ⟨s1, s2, s3, s4⟩ := rep_bnd hsh h
      obtain ⟨kd, hkd⟩ := List.length_eq_one_iff.1 s1
      have hg1 : g.l = [(kd : Int)] := by rw [hgl, hkd]; rfl
      have hrep := rep_any base g A3 c3 kd (some ⟨b1, o1, none⟩) ll lc s A c n f X (M kd) w2 (HB.out.trans (HW.out.mono HB.out.size)) (HI.out.keep fun p hp => HW.out.cell (Nat.lt_of_lt_of_le hp HB.out.size)) hg1 (hkb kd (by rw [hkd]; simp)) (by rw [hglo]; exact s2) (by rw [hglo]; exact s3) (by rw [hghi, hglo]; exact s4) HX2.out HF.out HX.out (HRL.out kd) hnpos hl (HK.out kd (by rw [hkd]; simp))
      have HCV : Hid (∀ e w', BlR n w2 (img (repR (M kd) g.lo g.hi) X) e w' → BlR n u (img (M k) X) e w') := fun e w' hr => hr.conv HW.out fun j hj => by
        refine img_rel (fun i j => ?_) j
        rw [HMT.out]
        unfold node1
        rw [if_neg (by omega), if_neg (by omega), if_neg (by omega), if_pos h, hkd, hglo, hghi]
        exact Iff.rfl
      have x5 : w2.cell? ⟨q, 5, none⟩ = some (.slice A3 g.l.length c3) := HR1.out.at_ rfl
      have x1 : w2.cell? ⟨q, 1, none⟩ = some (.int .u64 (W g.s 0)) := HR1.out.at_ rfl
      have x2 : w2.cell? ⟨q, 2, none⟩ = some (.int .u64 (W g.s 1)) := HR1.out.at_ rfl
      have x3 : w2.cell? ⟨q, 3, none⟩ = some (.int .u64 (W g.s 2)) := HR1.out.at_ rfl
      have x4 : w2.cell? ⟨q, 4, none⟩ = some (.int .u64 (W g.s 3)) := HR1.out.at_ rfl
      have x6 : w2.cell? ⟨q, 6, none⟩ = some (.int .i64 g.lo) := HR1.out.at_ rfl
      have x7 : w2.cell? ⟨q, 7, none⟩ = some (.int .i64 g.hi) := HR1.out.at_ rfl
      have x8 : w2.cell? ⟨q, 8, none⟩ = some (.string g.nm) := HR1.out.at_ rfl
      clear x0
      have x0 : w2.cell? ⟨q, 0, none⟩ = some (.int .u8 5) := by
        have this : w2.cell? ⟨q, 0, none⟩ = some (.int .u8 g.op) := HR1.out.at_ rfl
        rw [hgop, h] at this
        exact this
      rw [hgop, h] at hrep
      clear hgl hg1 hgop hglo hghi hgll s1 s2 s3 s4 hkd
      generalize g.l.length = gl at *
      generalize g.lo = glo at *
      generalize g.hi = ghi at *
      generalize g.nm = gnm at *
      go_wp2_with fail
      refine hrep.mono ?_
      intro e w5 hres
      have hcv := HCV.out e w5 hres
      obtain ⟨_, A5, c5, f5, rfl, _, _⟩ := hres
      have HCV2 := hidd hcv
      clear hcv hrep x0 x1 x2 x3 x4 x5 x6 x7 x8
      go_wp2
      go_ret
      exact HCV2.out
end Go.Proofs.Ytdaaigkmlbpbgaa.Sy.Lg.Rn

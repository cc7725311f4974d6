/- SyntaxLetters: its walk. -/
import Derived.Test.YtghjkbjpdjlddaaDoorSh
import Derived.Test.YtghjkbjpdjlddaaDoorSc
import Derived.ArgAppend
namespace Go.Proofs.YtghjkbjpdjlddaaDoor.Sy
open Go.RowKit
set_option maxRecDepth 100000
set_option linter.unusedVariables false



/-- Nodes in a row that is owned. -/
theorem nds_own {w : World} {base n : Nat} {v : Value} {l : List NR} (h : w.ownsRow base 30 9 v n (nodesC l)) (hn : n = l.length) (hI : ∀ x ∈ l, Its w w.heap.size x.2.1 x.1.l) : ∃ A c, v = .slice A n c ∧ Nds w w.heap.size A (l.map (·.1)) := by
  obtain ⟨A, c, rfl⟩ := own_form h
  refine ⟨A, c, rfl, fun hne => ?_⟩
  have hl : 0 < l.length := by
    cases l with
    | nil => exact absurd rfl hne
    | cons _ _ => simp
  obtain ⟨g, c', hv, hg0, hg⟩ := own_pos h (by omega)
  cases hv
  refine ⟨g, 0, rfl, hg, fun i hi => ?_⟩
  rw [List.length_map] at hi
  have hx : l[i]? = some l[i] := List.getElem?_eq_getElem hi
  have e : (l.map (·.1)).getD i gd0 = l[i].1 := by rw [List.getD_eq_getElem?_getD, List.getElem?_map, hx]; rfl
  rw [e]
  refine ⟨l[i].2.1, l[i].2.2, hI _ (List.getElem_mem hi), fun j u hu => ?_⟩
  have hj : j < 9 := by
    rcases Nat.lt_or_ge j 9 with q | q
    · exact q
    · rw [List.getElem?_eq_none (by rw [gdL_len]; exact q)] at hu; cases hu
  have := h.cells (g := g) rfl (i * 9 + j) u (by rw [nodesC_at l i j _ hx hj]; exact hu)
  rw [addr_add] at this
  rw [Nat.zero_add]
  exact this
/-- One behind a full slice: a new row. -/
theorem wp_append_full {P : Program} {w : World} {o : Oper} {a : Act} {K : Act → World → Prop} {Q : Exit → Act → World → Prop} (s x : Operand) (t : TypeId) (hop : o.op = Op.call { callee := Callee.builtin Builtin.append, args := #[s, x], argTypes := #[t, t] })
    (e : TypeId) (i : TypeInfo) (z : Value) (size bytes : Nat) (h1 : P.underlying t = some (.slice e)) (h2 : P.info? e = some i) (h3 : i.zero = some z) (h4 : i.size = size) (h5 : i.bytes = bytes) (h6 : z.cells.size = size) (h7 : 0 < size)
    (b : Addr) (n : Nat) (olds : List Value) (hs : a.eval s = .slice (some b) n n) (hlo : olds.length = n * size) (holds : ∀ j u, olds[j]? = some u → w.cell? (b.add j) = some u)
    (ad : Addr) (m c : Nat) (news : List Value) (hx : a.eval x = .slice (some ad) m c) (hn : news.length = m * size) (hc : ∀ j u, news[j]? = some u → w.cell? (ad.add j) = some u)
    (hm : 0 < m) (b1 : n + m ≤ maxLen) (b2 : (n + m) * bytes ≤ 140737488355328)
    (hK : ∀ v' w', w'.ownsRow w.heap.size e size v' (n + m) (olds ++ news) → w.grownBy w' none → K (a.put o.dst v') w') : o.wp P a w K Q := by
  obtain ⟨v', w', hrun, r1, r2⟩ := run_append_arg_grows (P := P) w t o.type e i z size bytes h1 h2 h3 h4 h5 h6 h7 b n n olds hlo holds ad m c news hn hc (by omega) b1 b2
  unfold Oper.wp
  simp [execOp, hop, resolve, invoke, builtin, hs, hx, hrun, Result.andThen]
  exact hK v' w' r1 r2
theorem wpList_on {P : Program} {ops : Array Oper} {rest : List Oper} {o : Oper} {a : Act} {w : World} {Q : Exit → Act → World → Prop} (hw : Region.wanted o (yielded ops a.tmps) = true)
    (h : ∀ K : Act → World → Prop, (∀ a w, wpList P ops Q rest a w → K a w) → o.wp P a w K Q) : wpList P ops Q (o :: rest) a w :=
  wpList_step fun K hK => by rw [if_pos hw]; exact h K hK
def litG (ds : List Nat) : List NR := ds.map fun d => (oneG d, none, 0)
theorem litC_eq (ds : List Nat) : litC ds = nodesC (litG ds) := by
  unfold litC nodesC litG
  rw [List.flatMap_map]
theorem litC_len (ds : List Nat) : (litC ds).length = ds.length * 9 := by
  induction ds with
  | nil => rfl
  | cons x r ih =>
    have e : litC (x :: r) = gdL (oneG x) none 0 ++ litC r := rfl
    rw [e, List.length_append, gdL_len, ih, List.length_cons]
    omega
theorem lit_gn (ds : List Nat) (g : Gd) (A : Option Addr) (c : Nat) (n : Nd) (h : GN1 g n) : GN (((litG ds) ++ [(g, A, c)] : List NR).map fun x : NR => x.1) (litN ds ++ [n]) := by
  refine ⟨by simp [litG, litN], fun i hi => ?_⟩
  simp only [List.length_map, List.length_append, List.length_singleton, litG] at hi
  rcases Nat.lt_or_ge i ds.length with q | q
  · have e1 : (((litG ds) ++ [(g, A, c)] : List NR).map fun x : NR => x.1).getD i gd0 = oneG ds[i] := by
      rw [List.getD_eq_getElem?_getD, List.getElem?_map, List.getElem?_append_left (by simp [litG]; exact q)]
      simp [litG, q]
    have e2 : (litN ds ++ [n]).getD i nd0 = ndBytes (oneS ds[i]) := by
      rw [List.getD_eq_getElem?_getD, List.getElem?_append_left (by rw [litN_len]; exact q)]
      simp [litN, q]
    rw [e1, e2]
    exact gn_one _
  · have hi' : i = ds.length := by omega
    have e1 : (((litG ds) ++ [(g, A, c)] : List NR).map fun x : NR => x.1).getD i gd0 = g := by
      rw [List.getD_eq_getElem?_getD, List.getElem?_map, List.getElem?_append_right (by simp [litG]; omega)]
      simp [litG, hi']
    have e2 : (litN ds ++ [n]).getD i nd0 = n := by
      rw [List.getD_eq_getElem?_getD, List.getElem?_append_right (by rw [litN_len]; omega)]
      simp [litN_len, hi']
    rw [e1, e2]
    exact h

theorem its_own {w : World} {base n c : Nat} {A : Option Addr} {st : List Nat} (h : w.ownsRow base 3 1 (.slice A n c) n (i64s st)) (hn : n = st.length) : Its w w.heap.size A (st.map fun k : Nat => (k : Int)) := fun hne => by
  have hl : 0 < st.length := by
    cases st with
    | nil => exact absurd rfl hne
    | cons _ _ => simp
  obtain ⟨g, c', hv, hg0, hg⟩ := own_pos h (by omega)
  cases hv
  refine ⟨g, 0, rfl, hg, fun i hi => ?_⟩
  rw [List.length_map] at hi
  have := h.cells (g := g) rfl i _ (i64s_at st i hi)
  rw [addr_add] at this
  rw [Nat.zero_add, this]
  simp [List.getD_eq_getElem?_getD, hi]
theorem cat_cells (op : Int) (ks : List Nat) (A : Option Addr) (c n : Nat) (h : ks.length = n) : gdL (catG op (ks.map fun k : Nat => (k : Int))) A c = [.int .u8 op, .int .u64 0, .int .u64 0, .int .u64 0, .int .u64 0, .slice A n c, .int .i64 0, .int .i64 0, .string { data := #[] }] := by
  simp [gdL, catG, W_zero, h]
theorem dsOf_plain (xs : List Int) (i : Nat) : ∀ c ∈ dsOf xs i, specialB c = false := fun c hc => by
  unfold dsOf at hc
  obtain ⟨x, _, rfl⟩ := List.mem_map.1 hc
  exact (ltr_plain _ (Nat.mod_lt _ (by omega))).1
/-- The row with one more node, behind the append. -/
theorem lit_more {u u' : World} {c8 i : Nat} {v' : Value} {ds : List Nat} {g : Gd} {n : Nd} {A : Option Addr} {gs : List Gd} {A2 : Option Addr} (hl : ds.length = i) (hg : GN1 g n)
    (hown : u'.ownsRow u.heap.size 30 9 v' (i + 1) (litC ds ++ gdL g A c8)) (hgr : u.grownBy u' none) (hI : Its u u.heap.size A g.l) (hG : GN gs (litN ds ++ [n])) (hN : Nds u u.heap.size A2 gs) (hgl : g.l.length ≤ 1000) (hi9 : i ≤ 1000) :
    ∃ A4 c4, v' = .slice A4 (i + 1) c4 ∧ Below u.heap.size u u' ∧ ∀ c2, Calls Tryd.prog 9 #[.slice A2 gs.length c2, .slice A4 (i + 1) c4] u' fun e w' => e = .returned (.bool true) ∧ Below u'.heap.size u' w' := by
  have hb : Below u.heap.size u u' := bel_own (Below.refl _ _) hgr (fun _ h => by cases h) (Nat.le_refl _)
  have hI' : Its u' u'.heap.size A g.l := (hI.keep fun p hp => hb.cell hp).more hb.size
  have e : litC ds ++ gdL g A c8 = nodesC (litG ds ++ [(g, A, c8)]) := by rw [litC_eq]; first | exact nodesC_snoc _ (g, A, c8) | exact (nodesC_snoc _ (g, A, c8)).symm
  rw [e] at hown
  have hlen : (litG ds ++ [(g, A, c8)]).length = i + 1 := by simp [litG, hl]
  obtain ⟨A4, c4, rfl, hN4⟩ := nds_own hown hlen.symm (fun x hx => by
    rcases List.mem_append.1 hx with q | q
    · obtain ⟨d, _, rfl⟩ := List.mem_map.1 q
      exact its_nil _ _ _
    · obtain rfl := List.mem_singleton.1 q
      exact hI')
  have hG4 := lit_gn ds g A c8 n hg
  have hl4 : ((litG ds ++ [(g, A, c8)]).map fun x : NR => x.1).length = i + 1 := by rw [List.length_map, hlen]
  refine ⟨A4, c4, rfl, hb, fun c2 => ?_⟩
  have hgs : gs.length = i + 1 := by rw [hG.1, List.length_append, litN_len, hl]; rfl
  have hs := same_any A2 A4 c2 c4 gs _ u' ((hN.below hb).more hb.size) hN4 (hG.leq hG4) (by rw [hgs]; omega) (fun x hx => ?_)
  · rw [hl4] at hs
    exact hs
  · obtain ⟨k, hk, rfl⟩ := List.getElem_of_mem hx
    have h1 := ((hG.leq hG4).2 k hk).l
    rw [List.getD_eq_getElem?_getD, List.getElem?_eq_getElem hk, Option.getD_some] at h1
    rw [h1]
    have hm : ((litG ds ++ [(g, A, c8)]).map fun x : NR => x.1).getD k gd0 ∈ ((litG ds ++ [(g, A, c8)]).map fun x : NR => x.1) := by
      rw [List.getD_eq_getElem?_getD, List.getElem?_eq_getElem (by omega)]
      exact List.getElem_mem _
    generalize ((litG ds ++ [(g, A, c8)]).map fun x : NR => x.1).getD k gd0 = y at hm
    obtain ⟨z, hz, rfl⟩ := List.mem_map.1 hm
    rcases List.mem_append.1 hz with q | q
    · obtain ⟨d, _, rfl⟩ := List.mem_map.1 q
      exact Nat.zero_le _
    · obtain rfl := List.mem_singleton.1 q
      show g.l.length ≤ 1000000
      omega
set_option maxHeartbeats 1000000 in
theorem letters_any (hP : ParseC) (A : Option Addr) (c n : Nat) (xs : List Int) (w : World) (hE : EV w) (hx : Bts w w.heap.size A xs) (hn : n = xs.length) (hl : n ≤ c) (hc : c ≤ maxLen) :
    Calls Tryd.prog 3 #[.slice A n c] w fun e w' => e = .returned (.bool true) ∧ Below w.heap.size w w' := by
  obtain ⟨k, hk⟩ : ∃ k, min n 100 = k := ⟨_, rfl⟩
  have hmi : min (n : Int) 100 = (k : Int) := by omega
  have hkc : (k : Int) ≤ (c : Int) := by omega
  have hk1 : k ≤ 100 := by omega
  have hkn : k ≤ n := by omega
  have HX := hidd hx
  have HN := hidd hn
  unfold maxLen at hc
  clear hk hx hn
  go_enter Tryd.func3, Tryd.ntmps3
  go_wp2_with fail
  refine (shown_any hP _ hE).mono ?_
  rintro e w1 ⟨rfl, b1⟩
  go_wp2
  go_loopw [5, 6, 7, 8, 29] (fun s5 s6 s7 s8 s29 wr => ∃ (i : Nat) (s t : ByteArray), s29 = .int .i64 (i : Int) ∧ i ≤ k ∧ s5 = .string s ∧ s6 = .string t ∧ Ltr w w.heap.size (dsOf xs i) s t s7 s8 wr) (fun _ _ _ _ s29 _ => k - (intOf s29).toNat)
  case atStart => exact ⟨0, _, _, rfl, Nat.zero_le _, rfl, rfl, rfl, rfl, ⟨rfl, .inl ⟨rfl, rfl⟩⟩, ⟨rfl, .inl ⟨rfl, rfl⟩⟩, fun _ h => (by cases h), b1, b1.size⟩
  case round =>
    obtain ⟨i, s, t, rfl, hik, rfl, rfl, R⟩ := hrel
    have HR := hidd R
    by_cases hlt : i < k
    · have hii : (i : Int) < (k : Int) := by omega
      obtain ⟨g, off, rfl, hg, hcell⟩ := (HX.out.keep (fun p hp => R.bel.cell hp)).2 (fun e => by have := HN.out; rw [e] at this; simp at this; omega)
      have hc1 := hcell i (by have := HN.out; omega)
      have hb := HX.out.1 (xs.getD i 0) (by rw [List.getD_eq_getElem?_getD, List.getElem?_eq_getElem (by have := HN.out; omega)]; exact List.getElem_mem _)
      obtain ⟨x, hx⟩ : ∃ x, xs.getD i 0 = x := ⟨_, rfl⟩
      rw [hx] at hc1 hb
      obtain ⟨y, rfl⟩ : ∃ y : Nat, x = (y : Int) := ⟨x.toNat, by omega⟩
      have HXX := hidd hx
      have hy : y ≤ 255 := by omega
      clear hcell hx hb R
      have hst : s.size ≤ 300 ∧ t.size ≤ 300 := by
        have h1 := HR.out.s
        have h2 := HR.out.t
        have h3 := dsOf_len (xs := xs) (i := i) (by have := HN.out; omega)
        have h4 := bars_len (dsOf xs i)
        rw [← h2, bs_len, h3] at h4
        rw [← h1, bs_len] at h3
        omega
      obtain ⟨hs3, ht3⟩ := hst
      go_upto_region 10 with fail
      rw [← at_bs lettersB (y % 62) (by show _ < 62; omega)]
      obtain ⟨hd1, hd2⟩ := ltr_plain (y % 62) (by omega)
      obtain ⟨d, hd⟩ : ∃ d, ltr (y % 62) = d := ⟨_, rfl⟩
      rw [show at_ (bs lettersB) (y % 62) = d from hd]
      rw [hd] at hd1 hd2
      have HDS := hidd (dsOf_snoc (xs := xs) (i := i) (by have := HN.out; omega) HXX.out hd)
      clear hd
      have hB := bts_one wr (d : Int) (by omega) (by omega)
      have hcv := str_bytes (some ⟨wr.heap.size, 0, none⟩) 1 [(d : Int)] _ hB
      have hbn : Hid (bs (strOfNums [(d : Int)]) = [d]) := by
        show _ = _
        rw [bs_nums _ (by simp; omega)]
        simp
      change (convert 22 9 (.slice (some ⟨wr.heap.size, 0, none⟩) 1 1)).run Tryd.prog (wr.alloc (.cells #[.int .u8 (d : Int)] 5)) = _ at hcv
      have hbz : (strOfNums [(d : Int)]).size = 1 := by rw [← bs_len, hbn.out]; rfl
      have hcw := fun (w2 : World) => str_bytes (some ⟨w2.heap.size, 0, none⟩) 1 [(d : Int)] _ (bts_one w2 (d : Int) (by omega) (by omega))
      clear hB
      generalize strOfNums [(d : Int)] = b at *
      go_upto_region 11 with fail
      have D2 := HR.out.bel.alloc HR.out.sz (.cells #[.int .u8 (d : Int)] 5)
      have hown7 := own_below HR.out.nds ((Below.refl wr.heap.size wr).alloc (Nat.le_refl _) (.cells #[.int .u8 (d : Int)] 5)) (Nat.le_refl _)
      have hown8 := own_below HR.out.ints ((Below.refl wr.heap.size wr).alloc (Nat.le_refl _) (.cells #[.int .u8 (d : Int)] 5)) (Nat.le_refl _)
      have hz2 : w.heap.size ≤ (wr.alloc (.cells #[.int .u8 (d : Int)] 5)).heap.size := Nat.le_trans HR.out.sz (by rw [World.size_alloc]; omega)
      clear hcv hc1
      generalize wr.alloc (.cells #[.int .u8 (d : Int)] 5) = w2 at *
      have hcv := hcw w2
      change (convert 22 9 (.slice (some ⟨w2.heap.size, 0, none⟩) 1 1)).run Tryd.prog (w2.alloc (.cells #[.int .u8 (d : Int)] 5)) = _ at hcv
      clear hcw
      by_cases hi0 : i = 0
      · have hig : decide (0 < i) = false := decide_eq_false (by omega)
        have HBAR : Hid (bs (t ++ b) = bars (dsOf xs (i + 1))) := by
          show _ = _
          subst hi0
          rw [bs_append, HR.out.t, hbn.out, HDS.out]
          rfl
        clear hi0
        go_wp2_with fail
        refine (one_any (d : Int) _ (by omega) (by omega)).mono ?_
        rintro e w4 ⟨rfl, b4⟩
        rw [Int.toNat_natCast]
        obtain ⟨x1, hx1⟩ : ∃ x1, oneG d = x1 := ⟨_, rfl⟩
        rw [hx1]
        have HX1 := hidd hx1
        clear hx1
        have b24 := ((Below.refl w2.heap.size w2).alloc (Nat.le_refl _) (.cells #[.int .u8 (d : Int)] 5)).trans (b4.mono (by rw [World.size_alloc]; omega))
        have D4 := D2.trans (b24.mono hz2)
        have hown74 := own_below hown7 b24 (Nat.le_refl _)
        have hown84 := own_below hown8 b24 (Nat.le_refl _)
        have hz4 : w.heap.size ≤ w4.heap.size := Nat.le_trans hz2 b24.size
        have HBS : Hid (bs (s ++ b) = dsOf xs (i + 1)) := by show _ = _; rw [bs_append, HR.out.s, hbn.out, HDS.out]
        have HFAR := hidd HR.out.far
        have HLEN := hidd (dsOf_len (xs := xs) (i := i) (by have := HN.out; omega))
        clear b24 b4 D2 hown7 hown8 hz2 hcv HR hbn
        generalize (t ++ b) = T at *
        generalize s ++ b = S2 at *
        have hown75 := own_below hown74 ((Below.refl w4.heap.size w4).alloc (Nat.le_refl _) (.cells (gdL (x1) none 0).toArray 30)) (Nat.le_refl _)
        have hown85 := own_below hown84 ((Below.refl w4.heap.size w4).alloc (Nat.le_refl _) (.cells (gdL (x1) none 0).toArray 30)) (Nat.le_refl _)
        have hnews : ∀ j u, (gdL (x1) none 0)[j]? = some u → (w4.alloc (.cells (gdL (x1) none 0).toArray 30)).cell? ((⟨w4.heap.size, 0, none⟩ : Addr).add j) = some u := World.news_of_block (heap_alloc_new w4 _)
        have hz5 : (w4.alloc (.cells (gdL (x1) none 0).toArray 30)).heap.size = w4.heap.size + 1 := World.size_alloc ..
        have D5 := D4.alloc hz4 (.cells (gdL (x1) none 0).toArray 30)
        have hlen1 := HLEN.out
        rw [hlen1] at hown75 hown85
        clear hown74 hown84 D4 hlen1
        obtain ⟨i1, hi1, hy0, hy1, hy2⟩ := info_parts node_info
        obtain ⟨A7, c7, rfl⟩ := own_form hown75
        obtain ⟨A8, c8, rfl⟩ := own_form hown85
        unfold gdL
        go_wp2_with (at_builtin; refine Hid.out ?_)
        refine Lib.hid ?_
        refine wpList_append_lies _ rfl _ _ _ rfl w.heap.size 30 i1 _ 9 96 Tryd.underlying24 hi1 hy0 hy1 hy2 rfl (by omega) (.slice A7 i c7) i (litC (dsOf xs i)) rfl hown75 ⟨w4.heap.size, 0, none⟩ 1 1 (gdL (x1) none 0) rfl rfl hnews (gdL_ones _ _ _) (by omega) (by simp only [maxLen]; omega) (by omega) (Nat.le_trans hz4 (by rw [World.size_alloc]; omega)) (w4.heap.size + 1) hz5 ?_
        intro g6 cap6 w6 hown6 hgrow hat hlt6
        have hown86 := own_grown hown85 hgrow (fun j hj e => HFAR.out j e hj)
        have hlt8 := fun j hj => (World.ownsRow.lt hown85 j hj).2
        have hg8 : ∀ j, (Value.slice A8 i c8).ownBlock = some j → g6 ≠ j := fun j hj e => by
          rcases hat with q | q
          · exact HFAR.out g6 q (by rw [e]; exact hj)
          · have := hlt8 j hj
            rw [hz5] at this
            omega
        have D6 := bel_own D5 hgrow (own_least hown75) (Nat.le_refl _)
        have HNDS : Hid (w6.ownsRow w.heap.size 30 9 (.slice (some ⟨g6, 0, none⟩) (i + 1) cap6) (i + 1) (litC (dsOf xs (i + 1)))) := by
          show World.ownsRow _ _ _ _ _ _ _
          have e : litC (dsOf xs (i + 1)) = litC (dsOf xs i) ++ gdL x1 none 0 := by rw [HDS.out]; simp [litC, HX1.out]
          rw [e]
          exact hown6
        have HG8 := hidd hg8
        have hz6 : w.heap.size ≤ w6.heap.size := D6.size
        have HD6 := hidd D6
        have HL6 := hidd hlt6
        clear hown6 hgrow hat hlt6 hown75 hown85 hnews hz5 D5 hlt8 hg8 D6 hi1 hy0 hy1 hy2 hz4
        obtain ⟨i0, hi0, hz0, hz1, hz2⟩ := info_parts int_info
        have hown87 := own_below hown86 ((Below.refl w6.heap.size w6).alloc (Nat.le_refl _) (.cells #[.int .i64 (i : Int)] 3)) (Nat.le_refl _)
        have hnews := int_one w6 (i : Int)
        have hz7 : (w6.alloc (.cells #[.int .i64 (i : Int)] 3)).heap.size = w6.heap.size + 1 := World.size_alloc ..
        clear hown86
        go_wp2_with (at_builtin; refine Hid.out ?_)
        refine Lib.hid ?_
        refine wpList_append_lies _ rfl _ _ _ rfl w.heap.size 3 i0 (.int .i64 0) 1 8 Tryd.underlying25 hi0 hz0 hz1 hz2 rfl (by omega) (.slice A8 i c8) i (i64s (List.range i)) rfl hown87 ⟨w6.heap.size, 0, none⟩ 1 1 [.int .i64 (i : Int)] rfl rfl hnews (by simp [Value.oneCell']) (by omega) (by simp only [maxLen]; omega) (by omega) (Nat.le_trans hz6 (by rw [World.size_alloc]; omega)) (w6.heap.size + 1) hz7 ?_
        intro g9 cap9 w9 hown9 hgrow9 hat9 hlt9
        have HREL : Hid (Ltr w w.heap.size (dsOf xs (i + 1)) S2 T (.slice (some ⟨g6, 0, none⟩) (i + 1) cap6) (.slice (some ⟨g9, 0, none⟩) (i + 1) cap9) w9) := by
          have hl1 := dsOf_len (xs := xs) (i := i + 1) (by have := HN.out; omega)
          have D9 := bel_own ((HD6.out).alloc hz6 (.cells #[.int .i64 (i : Int)] 3)) hgrow9 (own_least hown87) (Nat.le_refl _)
          refine ⟨HBS.out, HBAR.out, ?_, ?_, ?_, D9, D9.size⟩
          · rw [hl1]
            exact own_grown (HNDS.out.alloc _) hgrow9 (fun j hj e => HG8.out j e (by simpa [Value.ownBlock] using hj))
          · rw [hl1, List.range_succ, ← i64s_snoc]
            exact hown9
          · intro j hj e
            simp only [Value.ownBlock, Option.some.injEq] at hj e
            have h6 := HL6.out
            rcases hat9 with q | q
            · exact HG8.out g9 q (by omega)
            · omega
        clear hown9 hgrow9 hat9 hlt9 hown87 hnews hz7
        go_wp2
        exact ⟨⟨i + 1, S2, T, rfl, by omega, rfl, rfl, HREL.out⟩, by simp [intOf]; omega⟩
      · have hig : decide (0 < i) = true := decide_eq_true (by omega)
        have HBAR : Hid (bs (t ++ { data := #[124] } ++ b) = bars (dsOf xs (i + 1))) := by
          show _ = _
          rw [bs_append, bs_append, HR.out.t, hbn.out, HDS.out, bars_snoc _ _ (fun e => by have := dsOf_len (xs := xs) (i := i) (by have := HN.out; omega); rw [e] at this; simp at this; omega), List.append_assoc]
          rfl
        clear hi0
        go_wp2_with fail
        refine (one_any (d : Int) _ (by omega) (by omega)).mono ?_
        rintro e w4 ⟨rfl, b4⟩
        rw [Int.toNat_natCast]
        obtain ⟨x1, hx1⟩ : ∃ x1, oneG d = x1 := ⟨_, rfl⟩
        rw [hx1]
        have HX1 := hidd hx1
        clear hx1
        have b24 := ((Below.refl w2.heap.size w2).alloc (Nat.le_refl _) (.cells #[.int .u8 (d : Int)] 5)).trans (b4.mono (by rw [World.size_alloc]; omega))
        have D4 := D2.trans (b24.mono hz2)
        have hown74 := own_below hown7 b24 (Nat.le_refl _)
        have hown84 := own_below hown8 b24 (Nat.le_refl _)
        have hz4 : w.heap.size ≤ w4.heap.size := Nat.le_trans hz2 b24.size
        have HBS : Hid (bs (s ++ b) = dsOf xs (i + 1)) := by show _ = _; rw [bs_append, HR.out.s, hbn.out, HDS.out]
        have HFAR := hidd HR.out.far
        have HLEN := hidd (dsOf_len (xs := xs) (i := i) (by have := HN.out; omega))
        clear b24 b4 D2 hown7 hown8 hz2 hcv HR hbn
        generalize (t ++ { data := #[124] } ++ b) = T at *
        generalize s ++ b = S2 at *
        have hown75 := own_below hown74 ((Below.refl w4.heap.size w4).alloc (Nat.le_refl _) (.cells (gdL (x1) none 0).toArray 30)) (Nat.le_refl _)
        have hown85 := own_below hown84 ((Below.refl w4.heap.size w4).alloc (Nat.le_refl _) (.cells (gdL (x1) none 0).toArray 30)) (Nat.le_refl _)
        have hnews : ∀ j u, (gdL (x1) none 0)[j]? = some u → (w4.alloc (.cells (gdL (x1) none 0).toArray 30)).cell? ((⟨w4.heap.size, 0, none⟩ : Addr).add j) = some u := World.news_of_block (heap_alloc_new w4 _)
        have hz5 : (w4.alloc (.cells (gdL (x1) none 0).toArray 30)).heap.size = w4.heap.size + 1 := World.size_alloc ..
        have D5 := D4.alloc hz4 (.cells (gdL (x1) none 0).toArray 30)
        have hlen1 := HLEN.out
        rw [hlen1] at hown75 hown85
        clear hown74 hown84 D4 hlen1
        obtain ⟨i1, hi1, hy0, hy1, hy2⟩ := info_parts node_info
        obtain ⟨A7, c7, rfl⟩ := own_form hown75
        obtain ⟨A8, c8, rfl⟩ := own_form hown85
        unfold gdL
        go_wp2_with (at_builtin; refine Hid.out ?_)
        refine Lib.hid ?_
        refine wpList_append_lies _ rfl _ _ _ rfl w.heap.size 30 i1 _ 9 96 Tryd.underlying24 hi1 hy0 hy1 hy2 rfl (by omega) (.slice A7 i c7) i (litC (dsOf xs i)) rfl hown75 ⟨w4.heap.size, 0, none⟩ 1 1 (gdL (x1) none 0) rfl rfl hnews (gdL_ones _ _ _) (by omega) (by simp only [maxLen]; omega) (by omega) (Nat.le_trans hz4 (by rw [World.size_alloc]; omega)) (w4.heap.size + 1) hz5 ?_
        intro g6 cap6 w6 hown6 hgrow hat hlt6
        have hown86 := own_grown hown85 hgrow (fun j hj e => HFAR.out j e hj)
        have hlt8 := fun j hj => (World.ownsRow.lt hown85 j hj).2
        have hg8 : ∀ j, (Value.slice A8 i c8).ownBlock = some j → g6 ≠ j := fun j hj e => by
          rcases hat with q | q
          · exact HFAR.out g6 q (by rw [e]; exact hj)
          · have := hlt8 j hj
            rw [hz5] at this
            omega
        have D6 := bel_own D5 hgrow (own_least hown75) (Nat.le_refl _)
        have HNDS : Hid (w6.ownsRow w.heap.size 30 9 (.slice (some ⟨g6, 0, none⟩) (i + 1) cap6) (i + 1) (litC (dsOf xs (i + 1)))) := by
          show World.ownsRow _ _ _ _ _ _ _
          have e : litC (dsOf xs (i + 1)) = litC (dsOf xs i) ++ gdL x1 none 0 := by rw [HDS.out]; simp [litC, HX1.out]
          rw [e]
          exact hown6
        have HG8 := hidd hg8
        have hz6 : w.heap.size ≤ w6.heap.size := D6.size
        have HD6 := hidd D6
        have HL6 := hidd hlt6
        clear hown6 hgrow hat hlt6 hown75 hown85 hnews hz5 D5 hlt8 hg8 D6 hi1 hy0 hy1 hy2 hz4
        obtain ⟨i0, hi0, hz0, hz1, hz2⟩ := info_parts int_info
        have hown87 := own_below hown86 ((Below.refl w6.heap.size w6).alloc (Nat.le_refl _) (.cells #[.int .i64 (i : Int)] 3)) (Nat.le_refl _)
        have hnews := int_one w6 (i : Int)
        have hz7 : (w6.alloc (.cells #[.int .i64 (i : Int)] 3)).heap.size = w6.heap.size + 1 := World.size_alloc ..
        clear hown86
        go_wp2_with (at_builtin; refine Hid.out ?_)
        refine Lib.hid ?_
        refine wpList_append_lies _ rfl _ _ _ rfl w.heap.size 3 i0 (.int .i64 0) 1 8 Tryd.underlying25 hi0 hz0 hz1 hz2 rfl (by omega) (.slice A8 i c8) i (i64s (List.range i)) rfl hown87 ⟨w6.heap.size, 0, none⟩ 1 1 [.int .i64 (i : Int)] rfl rfl hnews (by simp [Value.oneCell']) (by omega) (by simp only [maxLen]; omega) (by omega) (Nat.le_trans hz6 (by rw [World.size_alloc]; omega)) (w6.heap.size + 1) hz7 ?_
        intro g9 cap9 w9 hown9 hgrow9 hat9 hlt9
        have HREL : Hid (Ltr w w.heap.size (dsOf xs (i + 1)) S2 T (.slice (some ⟨g6, 0, none⟩) (i + 1) cap6) (.slice (some ⟨g9, 0, none⟩) (i + 1) cap9) w9) := by
          have hl1 := dsOf_len (xs := xs) (i := i + 1) (by have := HN.out; omega)
          have D9 := bel_own ((HD6.out).alloc hz6 (.cells #[.int .i64 (i : Int)] 3)) hgrow9 (own_least hown87) (Nat.le_refl _)
          refine ⟨HBS.out, HBAR.out, ?_, ?_, ?_, D9, D9.size⟩
          · rw [hl1]
            exact own_grown (HNDS.out.alloc _) hgrow9 (fun j hj e => HG8.out j e (by simpa [Value.ownBlock] using hj))
          · rw [hl1, List.range_succ, ← i64s_snoc]
            exact hown9
          · intro j hj e
            simp only [Value.ownBlock, Option.some.injEq] at hj e
            have h6 := HL6.out
            rcases hat9 with q | q
            · exact HG8.out g9 q (by omega)
            · omega
        clear hown9 hgrow9 hat9 hlt9 hown87 hnews hz7
        go_wp2
        exact ⟨⟨i + 1, S2, T, rfl, by omega, rfl, rfl, HREL.out⟩, by simp [intOf]; omega⟩
    · have hie : i = k := by omega
      subst hie
      have hie2 := HN.out
      have hl1 := dsOf_len (xs := xs) (i := i) (by omega)
      have hpl := dsOf_plain xs i
      have HEV : Hid (EV wr) := hE.below R.bel
      have hsz : s.size = i := by rw [← bs_len, R.s, hl1]
      have htz : t.size ≤ 200 := by rw [← bs_len, R.t]; have := bars_len (dsOf xs i); omega
      have HBEL := hidd R.bel
      clear hie2 hlt hik
      by_cases h2 : (i : Int) < 2
      · obtain ⟨ns, hns, hnl⟩ : ∃ ns, parse (bs s) = .ok ns ∧ ns.length = 1 := by
          rw [R.s]
          match hd : dsOf xs i with
          | [] => exact ⟨_, parse_none, rfl⟩
          | [d] => exact ⟨_, parse_one d (hpl d (by rw [hd]; simp)), rfl⟩
          | _ :: _ :: _ => rw [hd] at hl1; simp at hl1; omega
        have HNS := hidd hns
        clear hns R hl1 hpl
        go_wp2_with fail
        refine (hP.ok (by omega) HNS.out wr HEV.out).mono ?_
        rintro e w2 ⟨A2, c2, gs, rfl, hN2, hG2, b2⟩
        have hg1 : gs.length = 1 := hG2.1.trans hnl
        rw [hg1]
        have HB2 := hidd (HBEL.out.trans (b2.mono HBEL.out.size))
        clear hN2 hG2 b2 hg1 hnl
        go_wp2
        go_ret
        exact ⟨rfl, HB2.out⟩
      · have hi2 : 2 ≤ i := by omega
        have HPS : Hid (parse (bs s) = .ok (litN (dsOf xs i) ++ [ndCat (List.range i)])) := by
          show _ = _
          rw [R.s, parse_cat _ hpl (by omega) (by omega), hl1]
        have HPT : Hid (parse (bs t) = .ok (litN (dsOf xs i) ++ [ndAlt (List.range i)])) := by
          show _ = _
          rw [R.t, parse_alt _ hpl (by omega) (by omega), hl1]
        have HL1 := hidd hl1
        have HI2 := hidd hi2
        clear R hl1 hpl hi2
        go_wp2_with fail
        refine (hP.ok (by omega) HPS.out wr HEV.out).mono ?_
        rintro e w2 ⟨A2, c2, gs2, rfl, hN2, hG2, b2⟩
        have HN2 := hidd hN2
        have HG2 := hidd hG2
        have HB2 := hidd b2
        clear hN2 hG2 b2
        go_wp2_with fail
        refine (hP.ok (by omega) HPT.out w2 (HEV.out.below HB2.out)).mono ?_
        rintro e w3 ⟨A3, c3, gs3, rfl, hN3, hG3, b3⟩
        have b13 := HB2.out.trans (b3.mono HB2.out.size)
        have HN3 := hidd hN3
        have HG3 := hidd hG3
        have own7 := own_below HR.out.nds b13 (Nat.le_refl _)
        have own8 := own_below HR.out.ints b13 (Nat.le_refl _)
        rw [HL1.out] at own7 own8
        obtain ⟨g7, c7, rfl, hg70, hg7⟩ := own_pos own7 (by have := HI2.out; omega)
        obtain ⟨A8, c8, rfl⟩ := own_form own8
        have hc7 : (i : Int) ≤ (c7 : Int) := by
          rcases own7.2 with ⟨h, _⟩ | ⟨_, _, _, h, _, _, h1, _⟩
          · cases h
          · cases h; omega
        have HN23 := hidd ((HN2.out.below b3).more b3.size)
        have HBE := hidd (HBEL.out.trans (b13.mono HBEL.out.size))
        have HI8 := hidd (its_own own8 (by simp))
        have hcl := own7.cells (g := g7) rfl
        have HC1 := hidd (cat_cells 3 (List.range i) A8 c8 i (by simp))
        have HC2 := hidd (cat_cells 4 (List.range i) A8 c8 i (by simp))
        obtain ⟨i1, hi1, hy0, hy1, hy2⟩ := info_parts node_info
        have HCL := hidd hcl
        have HLC : Hid ((litC (dsOf xs i)).length = i * 9) := by show _ = _; rw [litC_len, HL1.out]
        clear b13 b3 hN3 hG3 own7 own8 HPS HPT HN2 hcl
        have HGx := HG2
        have HNx := HN23
        have HI30 : Hid (Below w3.heap.size w3 w3) := Below.refl _ _
        have HI8b := HI8
        obtain ⟨W, hW⟩ : ∃ W, W = w3.alloc (.cells #[.int .u8 3, .int .u64 0, .int .u64 0, .int .u64 0, .int .u64 0, .slice A8 i c8, .int .i64 0, .int .i64 0, .string { data := #[] }] 30) := ⟨_, rfl⟩
        have hnews : ∀ j u, ([.int .u8 3, .int .u64 0, .int .u64 0, .int .u64 0, .int .u64 0, .slice A8 i c8, .int .i64 0, .int .i64 0, .string { data := #[] }] : List Value)[j]? = some u → (w3.alloc (.cells #[.int .u8 3, .int .u64 0, .int .u64 0, .int .u64 0, .int .u64 0, .slice A8 i c8, .int .i64 0, .int .i64 0, .string { data := #[] }] 30)).cell? ((⟨w3.heap.size, 0, none⟩ : Addr).add j) = some u := World.news_of_block (heap_alloc_new w3 _)
        have hal := (Below.refl w3.heap.size w3).alloc (Nat.le_refl _) (.cells #[.int .u8 3, .int .u64 0, .int .u64 0, .int .u64 0, .int .u64 0, .slice A8 i c8, .int .i64 0, .int .i64 0, .string { data := #[] }] 30)
        have hcl : ∀ j u, (litC (dsOf xs i))[j]? = some u → (w3.alloc (.cells #[.int .u8 3, .int .u64 0, .int .u64 0, .int .u64 0, .int .u64 0, .slice A8 i c8, .int .i64 0, .int .i64 0, .string { data := #[] }] 30)).cell? ((⟨g7, 0, none⟩ : Addr).add j) = some u := fun j u hj => by
          rw [addr_add]
          have := HCL.out j u hj
          rw [addr_add] at this
          exact (hal.cell (p := ⟨g7, j, none⟩) (by show g7 < _; omega)).trans this
        rw [← hW] at hal
        have HW := hidd hW
        clear hW
        go_wp2_with (at_builtin; refine wpList_on rfl fun K hK => ?_; refine wp_append_full (.tmp 108) (.tmp 111) 24 rfl 30 i1 _ 9 96 Tryd.underlying24 hi1 hy0 hy1 hy2 rfl (by omega) ⟨g7, 0, none⟩ i (litC (dsOf xs i)) rfl HLC.out hcl ⟨w3.heap.size, 0, none⟩ 1 1 [.int .u8 3, .int .u64 0, .int .u64 0, .int .u64 0, .int .u64 0, .slice A8 i c8, .int .i64 0, .int .i64 0, .string { data := #[] }] rfl rfl hnews (by omega) (by simp only [maxLen]; omega) (by omega) (fun v4 w4 hown4 hgr4 => hK _ _ ?_))
        rw [← HW.out] at hown4 hgr4
        have hI := (HI8.out.keep fun p hp => (hal.cell (p := p) (by have := HI30.out.size; omega))).more (B' := W.heap.size) (by have := hal.size; have := HI30.out.size; omega)
        obtain ⟨A4, c4, rfl, hb4, hs4⟩ := lit_more (g := catG 3 ((List.range i).map fun k : Nat => (k : Int))) (n := ndCat (List.range i)) (A := A8) (c8 := c8) HL1.out (gn_cat (List.range i)) (by rw [HC1.out]; exact hown4) hgr4 hI (HGx.out) ((HNx.out.below hal).more hal.size) (by simp [catG]; omega) (by omega)
        have HB4 := hidd (hal.trans (hb4.mono hal.size))
        clear hnews hcl hal hown4 hgr4 hI hb4 HW
        have HS4 := hidd hs4
        clear hs4
        go_wp2_with fail
        refine (HS4.out _).mono ?_
        rintro e w5 ⟨rfl, b5⟩
        have HB5 := hidd (HB4.out.trans (b5.mono HB4.out.size))
        clear b5
        have HBm := HB5
        have hg7b : g7 < w5.heap.size := by have := HBm.out.size; omega
        have HI8 := hidd (HI8b.out.keep fun p hp => HBm.out.cell (p := p) hp)
        have HCLb : Hid (∀ j u, (litC (dsOf xs i))[j]? = some u → w5.cell? ((⟨g7, 0, none⟩ : Addr).add j) = some u) := fun j u hj => by
          have := HCL.out j u hj
          rw [addr_add] at this ⊢
          exact (HBm.out.cell (p := ⟨g7, j, none⟩) hg7).trans this
        have HGx := HG3
        have HNx := hidd ((HN3.out.below HBm.out).more HBm.out.size)
        clear HB5 HB4 HS4
        obtain ⟨W, hW⟩ : ∃ W, W = w5.alloc (.cells #[.int .u8 4, .int .u64 0, .int .u64 0, .int .u64 0, .int .u64 0, .slice A8 i c8, .int .i64 0, .int .i64 0, .string { data := #[] }] 30) := ⟨_, rfl⟩
        have hnews : ∀ j u, ([.int .u8 4, .int .u64 0, .int .u64 0, .int .u64 0, .int .u64 0, .slice A8 i c8, .int .i64 0, .int .i64 0, .string { data := #[] }] : List Value)[j]? = some u → (w5.alloc (.cells #[.int .u8 4, .int .u64 0, .int .u64 0, .int .u64 0, .int .u64 0, .slice A8 i c8, .int .i64 0, .int .i64 0, .string { data := #[] }] 30)).cell? ((⟨w5.heap.size, 0, none⟩ : Addr).add j) = some u := World.news_of_block (heap_alloc_new w5 _)
        have hal := (Below.refl w5.heap.size w5).alloc (Nat.le_refl _) (.cells #[.int .u8 4, .int .u64 0, .int .u64 0, .int .u64 0, .int .u64 0, .slice A8 i c8, .int .i64 0, .int .i64 0, .string { data := #[] }] 30)
        have hcl : ∀ j u, (litC (dsOf xs i))[j]? = some u → (w5.alloc (.cells #[.int .u8 4, .int .u64 0, .int .u64 0, .int .u64 0, .int .u64 0, .slice A8 i c8, .int .i64 0, .int .i64 0, .string { data := #[] }] 30)).cell? ((⟨g7, 0, none⟩ : Addr).add j) = some u := fun j u hj => by
          rw [addr_add]
          have := HCLb.out j u hj
          rw [addr_add] at this
          exact (hal.cell (p := ⟨g7, j, none⟩) (by show g7 < _; omega)).trans this
        rw [← hW] at hal
        have HW := hidd hW
        clear hW
        go_wp2_with (at_builtin; refine wpList_on rfl fun K hK => ?_; refine wp_append_full (.tmp 122) (.tmp 125) 24 rfl 30 i1 _ 9 96 Tryd.underlying24 hi1 hy0 hy1 hy2 rfl (by omega) ⟨g7, 0, none⟩ i (litC (dsOf xs i)) rfl HLC.out hcl ⟨w5.heap.size, 0, none⟩ 1 1 [.int .u8 4, .int .u64 0, .int .u64 0, .int .u64 0, .int .u64 0, .slice A8 i c8, .int .i64 0, .int .i64 0, .string { data := #[] }] rfl rfl hnews (by omega) (by simp only [maxLen]; omega) (by omega) (fun v4 w4 hown4 hgr4 => hK _ _ ?_))
        rw [← HW.out] at hown4 hgr4
        have hI := (HI8.out.keep fun p hp => (hal.cell (p := p) (by have := HBm.out.size; omega))).more (B' := W.heap.size) (by have := hal.size; have := HBm.out.size; omega)
        obtain ⟨A4, c4, rfl, hb4, hs4⟩ := lit_more (g := catG 4 ((List.range i).map fun k : Nat => (k : Int))) (n := ndAlt (List.range i)) (A := A8) (c8 := c8) HL1.out (gn_alt (List.range i)) (by rw [HC2.out]; exact hown4) hgr4 hI (HGx.out) ((HNx.out.below hal).more hal.size) (by simp [catG]; omega) (by omega)
        have HB4 := hidd (hal.trans (hb4.mono hal.size))
        clear hnews hcl hal hown4 hgr4 hI hb4 HW
        have HS4 := hidd hs4
        clear hs4
        go_wp2_with fail
        refine (HS4.out _).mono ?_
        rintro e w5 ⟨rfl, b5⟩
        have HB5 := hidd (HB4.out.trans (b5.mono HB4.out.size))
        clear b5
        have HEND := hidd (HBE.out.trans ((HBm.out.trans (HB5.out.mono HBm.out.size)).mono HBE.out.size))
        go_wp2
        go_ret
        exact ⟨rfl, HEND.out⟩
end Go.Proofs.YtghjkbjpdjlddaaDoor.Sy

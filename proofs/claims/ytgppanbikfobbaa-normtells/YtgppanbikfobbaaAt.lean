/- The law's own few and some; the reference's Plain. -/
import Derived.Test.YtgppanbikfobbaaAq
namespace Go.Proofs.Ytgppanbikfobbaa.Sy.Ap
open Go.RowKit
set_option maxRecDepth 100000
set_option linter.unusedVariables false

theorem nds_take {w : World} {B : Nat} {A : Option Addr} {gs : List Gd} (h : Nds w B A gs) (n : Nat) : Nds w B A (gs.take n) := fun hne => by
  obtain ⟨b, off, e, hb, ha⟩ := h (fun e => hne (by rw [e]; simp))
  refine ⟨b, off, e, hb, fun i hi => ?_⟩
  rw [List.length_take] at hi
  have := ha i (by omega)
  rw [List.getD_eq_getElem?_getD, List.getElem?_take, if_pos (by omega), ← List.getD_eq_getElem?_getD]
  exact this
theorem small_take {gs : List Gd} (h : Small gs) (n : Nat) : Small (gs.take n) := fun g hg => h g (List.mem_of_mem_take hg)
set_option maxHeartbeats 400000 in
theorem few_any (A : Option Addr) (c n : Nat) (w : World) (hc : n ≤ c) (hm : n ≤ maxLen) :
    Calls Try.prog 7 #[.slice A n c] w fun e w' => e = .returned (.slice A (min n 400) c) ∧ w' = w := by
  unfold maxLen at hm
  by_cases h : n ≤ 400
  · have e1 : min n 400 = n := by omega
    have e2 : min (n : Int) 400 = (n : Int) := by omega
    rw [e1]
    have hci : (n : Int) ≤ (c : Int) := by omega
    have hn0 : (0 : Int) ≤ (n : Int) := by omega
    clear h e1 hc
    go_enter Try.func7, Try.ntmps7
    go_wp2
    go_ret
    exact ⟨rfl, rfl⟩
  · have e1 : min n 400 = 400 := by omega
    have e2 : min (n : Int) 400 = 400 := by omega
    rw [e1]
    have hci : (400 : Int) ≤ (c : Int) := by omega
    have hcn : 400 ≤ c := by omega
    clear h e1 hc
    go_enter Try.func7, Try.ntmps7
    go_wp2
    go_ret
    exact ⟨rfl, rfl⟩
theorem few_nds (A : Option Addr) (c : Nat) (gs : List Gd) (w : World) (hc : gs.length ≤ c) (hm : gs.length ≤ maxLen) :
    Calls Try.prog 7 #[.slice A gs.length c] w fun e w' => e = .returned (.slice A (gs.take 400).length c) ∧ w' = w := by
  have := few_any A c gs.length w hc hm
  rw [List.length_take, Nat.min_comm]
  exact this

/-! ### some -/
theorem def_info : (Try.prog.info? 35).map (fun i => (i.zero, i.size, i.bytes)) = some (some (.agg zeroDC), 2, 40) := by kernel_rfl
def goodD (d : DG) : Bool := decide (d.2.length ≤ 100)
def someL (ds : List DG) : List DG := (ds.take 6).filter goodD
theorem dfsC_snoc (l : List DR) (x : DR) : dfsC l ++ dfL x.1 x.2.1 x.2.2 = dfsC (l ++ [x]) := by simp [dfsC]
theorem dfs_own {w : World} {B B2 : Nat} {v : Value} {l : List DR} (h : w.ownsRow B 35 2 v l.length (dfsC l)) (hB : ∀ k, v.ownBlock = some k → k < B2) (hI : ∀ x ∈ l, Nds w B2 x.2.1 x.1.2 ∧ x.1.2.length ≤ x.2.2) : ∃ A c, v = .slice A (l.map (·.1)).length c ∧ Dfs w B2 A (l.map (·.1)) := by
  obtain ⟨A, c, hv⟩ := own_form h
  rw [List.length_map]
  rcases Nat.eq_zero_or_pos l.length with h0 | h0
  · refine ⟨A, c, hv, fun hne => absurd ?_ hne⟩
    rw [List.eq_nil_of_length_eq_zero h0]
    rfl
  · obtain ⟨g, c', hv', _, hg⟩ := own_pos h h0
    rw [hv] at hv'
    cases hv'
    refine ⟨_, c, hv, fun _ => ⟨g, 0, rfl, hB g (by rw [hv]; rfl), fun i hi => ?_⟩⟩
    rw [List.length_map] at hi
    have hx : l[i]? = some l[i] := List.getElem?_eq_getElem hi
    have e : (l.map (·.1)).getD i dg0 = l[i].1 := by rw [List.getD_eq_getElem?_getD, List.getElem?_map, hx]; rfl
    rw [e]
    refine ⟨l[i].2.1, l[i].2.2, (hI _ (List.getElem_mem hi)).1, fun j u hu => ?_, (hI _ (List.getElem_mem hi)).2⟩
    have hj : j < 2 := by
      rcases Nat.lt_or_ge j 2 with h | h
      · exact h
      · rw [List.getElem?_eq_none (by show 2 ≤ j; exact h)] at hu; cases hu
    have := h.cells (g := g) (by rw [hv]; rfl) (i * 2 + j) u (by rw [dfsC_at l i j _ hx hj]; exact hu)
    rw [Nat.zero_add]
    rw [addr_add] at this
    exact this
structure SmR (w : World) (ds : List DG) (k : Nat) (v : Value) (l : List DR) (wr : World) : Prop where
  own : wr.ownsRow w.heap.size 35 2 v l.length (dfsC l)
  map : l.map (·.1) = someL (ds.take k)
  nds : ∀ x ∈ l, Nds wr w.heap.size x.2.1 x.1.2 ∧ x.1.2.length ≤ x.2.2
  bel : Below w.heap.size w wr
theorem some_len (ds : List DG) (k : Nat) : (someL (ds.take k)).length ≤ 6 := by
  unfold someL
  have := List.length_filter_le goodD ((ds.take k).take 6)
  rw [List.length_take] at this
  omega
theorem some_yes {ds : List DG} {k : Nat} (hk : k < ds.length) (h6 : k < 6) (hg : (ds.getD k dg0).2.length ≤ 100) : someL (ds.take (k + 1)) = someL (ds.take k) ++ [ds.getD k dg0] := by
  unfold someL
  rw [List.take_take, List.take_take, show min 6 (k + 1) = k + 1 from by omega, show min 6 k = k from by omega, take_snoc hk, List.filter_append, List.filter_cons_of_pos (by unfold goodD; exact decide_eq_true hg)]
  rfl
theorem some_no {ds : List DG} {k : Nat} (hk : k < ds.length) (h : ¬ (k < 6 ∧ (ds.getD k dg0).2.length ≤ 100)) : someL (ds.take (k + 1)) = someL (ds.take k) := by
  unfold someL
  by_cases h6 : k < 6
  · rw [List.take_take, List.take_take, show min 6 (k + 1) = k + 1 from by omega, show min 6 k = k from by omega, take_snoc hk, List.filter_append, List.filter_cons_of_neg (by unfold goodD; rw [decide_eq_true_eq]; exact fun q => h ⟨h6, q⟩)]
    simp
  · rw [List.take_take, List.take_take, show min 6 (k + 1) = 6 from by omega, show min 6 k = 6 from by omega]
set_option maxHeartbeats 2000000 in
theorem some_any (A : Option Addr) (c : Nat) (ds : List DG) (w : World) (hx : Dfs w w.heap.size A ds) (hm : ds.length ≤ maxLen) (hsm : ∀ d ∈ ds, d.2.length ≤ maxLen) :
    Calls Try.prog 8 #[.slice A ds.length c] w fun e w' => Below w.heap.size w w' ∧ ∃ A2 c2, e = .returned (.slice A2 (someL ds).length c2) ∧ Dfs w' w'.heap.size A2 (someL ds) := by
  obtain ⟨i0, hi0, hz0, hz1, hz2⟩ := info_parts def_info
  unfold maxLen at hm
  have HSM := hidd hsm
  clear hsm
  generalize hn : ds.length = n at *
  have HN0 := hidd hn
  clear hn
  have HS0 : Hid (SmR w ds 0 (.slice none 0 0) [] w) := ⟨World.ownsRow_nil _ _ _ _, rfl, fun x hx => absurd hx List.not_mem_nil, Below.refl _ _⟩
  go_enter Try.func8, Try.ntmps8
  go_wp2
  go_loopw [3, 8] (fun s3 s8 wr => ∃ (k : Nat) (l : List DR), k ≤ n ∧ s8 = .int .i64 (k : Int) ∧ SmR w ds k s3 l wr) (fun _ s8 _ => n - (intOf s8).toNat)
  case atStart => exact ⟨0, [], Nat.zero_le _, rfl, HS0.out⟩
  case round =>
    clear HS0
    obtain ⟨k, l, hk0, rfl, L⟩ := hrel
    obtain ⟨A9, c9, rfl⟩ := own_form L.own
    have D := L.bel
    by_cases hlt : k < n
    · have hlt2 : k < ds.length := by rw [HN0.out]; exact hlt
      obtain ⟨b1, o1, rfl, hb1, A3, c3, N1, r1, hc3⟩ := (hx.below D).at_ hlt2
      have hdm := HSM.out _ (getD_mem hlt2)
      generalize hgd : ds.getD k dg0 = d at *
      have HGD := hidd hgd
      clear hgd
      have HC3 := hidd hc3
      unfold maxLen at hdm
      have hki : (k : Int) < (n : Int) := by omega
      have hbs := D.size
      have hll : l.length ≤ 6 := by have := some_len ds k; rw [← L.map, List.length_map] at this; exact this
      generalize hnl : l.length = nl at *
      have HNL := hidd hnl
      clear hnl hc3
      have Z1 := RowA.new wr 35 zeroDC
      have hW1 : Below wr.heap.size wr ((wr.alloc (.cells zeroDC 35)).setRow wr.heap.size (dfL d A3 c3).toArray) := bel_setRow ((Below.refl _ _).alloc (Nat.le_refl _) _) _ _ (Nat.le_refl _)
      have R1 := Z1.row (dfL d A3 c3).toArray
      go_upto_region 5 with (first
        | refine wpList_load_mid rfl 35 (.tmp 11) rfl b1 (o1 + k * 2) rfl (dfL d A3 c3) _ r1 Try.underlying35 rfl (dfL_info d A3 c3) ?_
        | refine wpList_store_row rfl 35 (.tmp 5) (.tmp 12) rfl wr.heap.size (dfL d A3 c3).toArray rfl rfl 35 zeroDC Z1 (dfL_infoA d A3 c3) rfl (dfL_one d A3 c3) ?_)
      have HD1 := hidd (D.trans (hW1.mono D.size))
      have N2 : Nds _ w.heap.size A3 d.2 := N1.keep (fun p hp => hW1.cell (p := p) (by omega))
      have ho0 := own_below L.own hW1 (Nat.le_refl _)
      rw [HNL.out] at ho0
      have HO1 := hidd ho0
      clear ho0
      have HND1 : Hid (∀ x ∈ l, Nds ((wr.alloc (.cells zeroDC 35)).setRow wr.heap.size (dfL d A3 c3).toArray) w.heap.size x.2.1 x.1.2 ∧ x.1.2.length ≤ x.2.2) := fun x hx => ⟨(L.nds x hx).1.below (hW1.mono D.size), (L.nds x hx).2⟩
      have HMAP := hidd L.map
      change RowA ((wr.alloc (.cells zeroDC 35)).setRow wr.heap.size (dfL d A3 c3).toArray) _ _ _ at R1
      generalize (wr.alloc (.cells zeroDC 35)).setRow wr.heap.size (dfL d A3 c3).toArray = w1 at *
      generalize wr.heap.size = q at *
      have HN2 := hidd N2
      clear Z1 hW1 r1 N1 L D N2 hx
      obtain ⟨a0, a1⟩ := def_cells R1
      by_cases h6 : k < 6
      · have h6i : (k : Int) < 6 := by omega
        have h6d : decide (k < 6) = true := decide_eq_true h6
        by_cases h100 : d.2.length ≤ 100
        · have h1d : decide (d.2.length ≤ 100) = true := decide_eq_true h100
          have h1e : decide ((d.2.length : Int) ≤ 100) = true := decide_eq_true (by omega)
          have h1f : (d.2.length : Int) ≤ 100 := by omega
          have HY : Hid (someL (ds.take (k + 1)) = someL (ds.take k) ++ [d]) := by
            show _ = _
            rw [some_yes hlt2 h6 (by rw [HGD.out]; exact h100), HGD.out]
          have hw1 : w.heap.size ≤ w1.heap.size := HD1.out.size
          clear h6 h100
          have hown := HO1.out.alloc (.cells #[.string d.1, .slice A3 d.2.length c3] 35)
          have hnews : ∀ j u, ([.string d.1, .slice A3 d.2.length c3] : List Value)[j]? = some u → (w1.alloc (.cells #[.string d.1, .slice A3 d.2.length c3] 35)).cell? ((⟨w1.heap.size, 0, none⟩ : Addr).add j) = some u := World.news_of_block (RowA.new w1 35 #[.string d.1, .slice A3 d.2.length c3])
          have hH : (w1.alloc (.cells #[.string d.1, .slice A3 d.2.length c3] 35)).heap.size = w1.heap.size + 1 := World.size_alloc ..
          have hbase : w.heap.size ≤ (w1.alloc (.cells #[.string d.1, .slice A3 d.2.length c3] 35)).heap.size := by rw [hH]; omega
          go_wp2_with (at_builtin; refine wpList_append_lies _ rfl _ _ _ rfl w.heap.size 35 i0 (.agg zeroDC) 2 40 Try.underlying23 hi0 hz0 hz1 hz2 rfl (by omega) _ nl (dfsC l) rfl hown ⟨w1.heap.size, 0, none⟩ 1 1 [.string d.1, .slice A3 d.2.length c3] rfl rfl hnews (by simp [Value.oneCell']) (by omega) (by simp only [maxLen]; omega) (by omega) hbase (w1.heap.size + 1) hH ?_; intro g6 cap6 w6 hown6 hgrow hat hlt6; refine Hid.out ?_)
          have b6 : Below w.heap.size w1 w6 := bel_row ((Below.refl _ _).alloc hw1 (.cells #[.string d.1, .slice A3 d.2.length c3] 35)) hbase hgrow (fun q hq => (hown.lt q hq).1)
          have HR : Hid (SmR w ds (k + 1) (.slice (some ⟨g6, 0, none⟩) (nl + 1) cap6) (l ++ [(d, A3, c3)]) w6) := by
            refine ⟨?_, ?_, fun x hx => ?_, HD1.out.trans b6⟩
            · rw [List.length_append, HNL.out, ← dfsC_snoc]
              exact hown6
            · rw [List.map_append, HMAP.out, HY.out]
              rfl
            · rcases List.mem_append.1 hx with q | q
              · exact ⟨(HND1.out x q).1.below b6, (HND1.out x q).2⟩
              · rw [List.mem_singleton] at q
                subst q
                exact ⟨HN2.out.below b6, HC3.out⟩
          clear hown hown6 hgrow hat hlt6 hnews hH hbase b6 R1 a0 a1 HO1 HND1 HD1 HN2
          refine Lib.hid ?_
          go_wp2
          exact ⟨⟨k + 1, _, by omega, rfl, HR.out⟩, by simp [intOf]; omega⟩
        · have h1d : decide (d.2.length ≤ 100) = false := decide_eq_false h100
          have h1e : decide ((d.2.length : Int) ≤ 100) = false := decide_eq_false (by omega)
          have hno : ¬ (k < 6 ∧ d.2.length ≤ 100) := fun q => h100 q.2
          have HR : Hid (SmR w ds (k + 1) (.slice A9 nl c9) l w1) := ⟨by rw [HNL.out]; exact HO1.out, by rw [some_no hlt2 (by rw [HGD.out]; exact hno)]; exact HMAP.out, HND1.out, HD1.out⟩
          clear hno
          clear h6 h100
          go_wp2
          exact ⟨⟨k + 1, _, by omega, rfl, HR.out⟩, by simp [intOf]; omega⟩
      · have h6d : decide (k < 6) = false := decide_eq_false h6
        have h6e : decide ((k : Int) < 6) = false := decide_eq_false (by omega)
        have hno : ¬ (k < 6 ∧ d.2.length ≤ 100) := fun q => h6 q.1
        have HR : Hid (SmR w ds (k + 1) (.slice A9 nl c9) l w1) := ⟨by rw [HNL.out]; exact HO1.out, by rw [some_no hlt2 (by rw [HGD.out]; exact hno)]; exact HMAP.out, HND1.out, HD1.out⟩
        clear hno
        clear h6
        go_wp2
        exact ⟨⟨k + 1, _, by omega, rfl, HR.out⟩, by simp [intOf]; omega⟩
    · have hke : k = n := by omega
      subst hke
      have hmap : l.map (·.1) = someL ds := by rw [L.map, ← HN0.out, List.take_length]
      obtain ⟨A2, c2, hv, hD⟩ := dfs_own (B2 := wr.heap.size) L.own (fun k hk => (L.own.lt k hk).2) (fun x hx => ⟨(L.nds x hx).1.more D.size, (L.nds x hx).2⟩)
      rw [hmap] at hv hD
      have HD2 := hidd hD
      have HB := hidd D
      rw [hv]
      clear hmap hD L hv D hx
      go_wp2
      go_ret
      exact ⟨HB.out, A2, c2, rfl, HD2.out⟩
theorem some_dok {ds : List DG} (hn : ∀ d ∈ ds, d.1.size ≤ maxLen) (hs : ∀ d ∈ ds, Small d.2) : DOk (someL ds) := by
  have hmem : ∀ d ∈ someL ds, d ∈ ds ∧ d.2.length ≤ 100 := fun d hd => by
    unfold someL at hd
    have h1 := List.mem_filter.1 hd
    exact ⟨List.mem_of_mem_take h1.1, by have := h1.2; unfold goodD at this; exact of_decide_eq_true this⟩
  refine ⟨?_, fun d hd => hn d (hmem d hd).1, fun d hd => by have := (hmem d hd).2; omega, fun d hd => hs d (hmem d hd).1⟩
  have := some_len ds ds.length
  rw [List.take_length] at this
  omega

/-! ### The reference's Plain -/
def PlainG (gs : List Gd) : Prop := (∀ g ∈ gs, g.op ≠ 6) ∧ RightG gs
def PlnR (gs : List Gd) (w : World) (e : Ending) (w' : World) : Prop := ∃ b, e = .returned (.bool b) ∧ (b = true ↔ PlainG gs) ∧ Below w.heap.size w w'
theorem plain_tree {gs : List Gd} {ns : List Nd} (hg : GN gs ns) (ht : TreeN ns) : PlainG gs ↔ PlainN ns := by
  refine ⟨fun h n hn => ?_, fun h => ⟨fun g hg2 => ?_, tree_rg hg ht⟩⟩
  · obtain ⟨i, hi, rfl⟩ := List.getElem_of_mem hn
    have hi2 : i < gs.length := by rw [hg.1]; exact hi
    have h1 := hg.2 i hi2
    have e1 : gs.getD i gd0 = gs[i] := by rw [List.getD_eq_getElem?_getD, List.getElem?_eq_getElem hi2]; rfl
    have e2 : ns.getD i nd0 = ns[i] := by rw [List.getD_eq_getElem?_getD, List.getElem?_eq_getElem hi]; rfl
    rw [e1, e2] at h1
    have := h.1 _ (List.getElem_mem hi2)
    rw [h1.op] at this
    omega
  · obtain ⟨i, hi2, rfl⟩ := List.getElem_of_mem hg2
    have hi : i < ns.length := by rw [← hg.1]; exact hi2
    have h1 := hg.2 i hi2
    have e1 : gs.getD i gd0 = gs[i] := by rw [List.getD_eq_getElem?_getD, List.getElem?_eq_getElem hi2]; rfl
    have e2 : ns.getD i nd0 = ns[i] := by rw [List.getD_eq_getElem?_getD, List.getElem?_eq_getElem hi]; rfl
    rw [e1, e2] at h1
    have := h _ (List.getElem_mem hi)
    rw [h1.op]
    omega
end Go.Proofs.Ytgppanbikfobbaa.Sy.Ap

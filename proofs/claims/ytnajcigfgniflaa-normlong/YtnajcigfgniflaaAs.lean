/- NormLong. -/
import Derived.Test.YtnajcigfgniflaaAq
namespace Go.Proofs.Ytnajcigfgniflaa.Sy.Ap
open Go.RowKit
set_option maxRecDepth 100000
set_option linter.unusedVariables false

theorem own_last {w : World} {B : Nat} {v : Value} {l : List NR} {k : Nat} {x : NR} (h : w.ownsRow B 41 9 v (k + 1) (nodesC l ++ gdL x.1 x.2.1 x.2.2)) (hk : l.length = k) : w.ownsRow B 41 9 v (l ++ [x]).length (nodesC (l ++ [x])) := by
  rw [List.length_append, hk, ← nodesC_snoc]
  exact h
theorem rep_snoc {α : Type} (i : Nat) (x : α) : List.replicate i x ++ [x] = List.replicate (i + 1) x := by
  rw [List.replicate_succ']
theorem range_own {w : World} {B : Nat} {v : Value} {i : Nat} (h : w.ownsRow B 3 1 v (i + 1) (i64s (List.range i) ++ [.int .i64 (i : Int)])) : w.ownsRow B 3 1 v (i + 1) (i64s (List.range (i + 1))) := by
  rw [List.range_succ, ← i64s_snoc]
  exact h
/-- Both rows so far. -/
structure LgR (w : World) (x : NR) (i : Nat) (vd vk : Value) (wr : World) : Prop where
  d : wr.ownsRow w.heap.size 41 9 vd i (nodesC (List.replicate i x))
  k : wr.ownsRow w.heap.size 3 1 vk i (i64s (List.range i))
  bel : Below w.heap.size w wr
set_option maxHeartbeats 4000000 in
theorem long_any (many often : Int) (w : World) (m0 : 0 ≤ many) (m1 : many ≤ 65535) (o0 : 0 ≤ often) (o1 : often ≤ 65535) :
    Calls Try.prog 8 #[.int .u16 many, .int .u16 often] w fun e w' => e = .returned (.bool true) ∧ Below w.heap.size w w' := by
  obtain ⟨i0, hi0, hz0, hz1, hz2⟩ := info_parts node_info
  obtain ⟨j0, hj0, hy0, hy1, hy2⟩ := info_parts int_info
  obtain ⟨n, hn, hn2, hn3⟩ : ∃ n : Nat, many % 300 + 2 = (n : Int) ∧ 2 ≤ n ∧ n ≤ 301 := ⟨(many % 300 + 2).toNat, by omega, by omega, by omega⟩
  obtain ⟨k, hk, hk1, hk2⟩ : ∃ k : Nat, often % 20 + 1 = (k : Int) ∧ 1 ≤ k ∧ k ≤ 20 := ⟨(often % 20 + 1).toNat, by omega, by omega, by omega⟩
  have hsh := shown_any w
  go_enter Try.func8, Try.ntmps8
  go_wp2_with fail
  refine hsh.mono ?_
  rintro e w1 ⟨rfl, b1⟩
  have HS : Hid (LgR w litN 0 (.slice none 0 0) (.slice none 0 0) w1) := ⟨World.ownsRow_nil _ _ _ _, World.ownsRow_nil _ _ _ _, b1⟩
  clear hsh b1
  go_wp2
  go_loopw [8, 10, 26] (fun s8 s10 s26 wr => ∃ i : Nat, i ≤ n ∧ s26 = .int .i64 (i : Int) ∧ LgR w litN i s8 s10 wr) (fun _ _ s26 _ => n - (intOf s26).toNat)
  case atStart => exact ⟨0, Nat.zero_le _, rfl, HS.out⟩
  case round =>
    clear HS
    obtain ⟨i, hi, rfl, L⟩ := hrel
    by_cases hlt : i < n
    · have hii : (i : Int) < (n : Int) := by omega
      have HL := hidd L
      have hd := L.d
      have hsz := L.bel.size
      clear L
      -- a node appended: in world wr, the row hd of i nodes, cells .int .u8 2, .int .u64 1, .int .u64 0, .int .u64 0, .int .u64 0, .slice none 0 0, .int .i64 0, .int .i64 0, .string { data := #[] }, list nodesC (List.replicate i litN)
      have hown := hd.alloc (.cells #[.int .u8 2, .int .u64 1, .int .u64 0, .int .u64 0, .int .u64 0, .slice none 0 0, .int .i64 0, .int .i64 0, .string { data := #[] }] 41)
      have hnews : ∀ j u, ([.int .u8 2, .int .u64 1, .int .u64 0, .int .u64 0, .int .u64 0, .slice none 0 0, .int .i64 0, .int .i64 0, .string { data := #[] }] : List Value)[j]? = some u → (wr.alloc (.cells #[.int .u8 2, .int .u64 1, .int .u64 0, .int .u64 0, .int .u64 0, .slice none 0 0, .int .i64 0, .int .i64 0, .string { data := #[] }] 41)).cell? ((⟨wr.heap.size, 0, none⟩ : Addr).add j) = some u := World.news_of_block (RowA.new wr 41 #[.int .u8 2, .int .u64 1, .int .u64 0, .int .u64 0, .int .u64 0, .slice none 0 0, .int .i64 0, .int .i64 0, .string { data := #[] }])
      have hH : (wr.alloc (.cells #[.int .u8 2, .int .u64 1, .int .u64 0, .int .u64 0, .int .u64 0, .slice none 0 0, .int .i64 0, .int .i64 0, .string { data := #[] }] 41)).heap.size = wr.heap.size + 1 := World.size_alloc ..
      have hbase : w.heap.size ≤ (wr.alloc (.cells #[.int .u8 2, .int .u64 1, .int .u64 0, .int .u64 0, .int .u64 0, .slice none 0 0, .int .i64 0, .int .i64 0, .string { data := #[] }] 41)).heap.size := by have := hsz; rw [hH]; omega
      go_wp2_with (at_builtin; refine wpList_append_lies _ rfl _ _ _ rfl w.heap.size 41 i0 (.agg zeroC) 9 96 Try.underlying22 hi0 hz0 hz1 hz2 rfl (by omega) _ i (nodesC (List.replicate i litN)) rfl hown ⟨wr.heap.size, 0, none⟩ 1 1 [.int .u8 2, .int .u64 1, .int .u64 0, .int .u64 0, .int .u64 0, .slice none 0 0, .int .i64 0, .int .i64 0, .string { data := #[] }] rfl rfl hnews (by simp [Value.oneCell']) (by omega) (by simp only [maxLen]; omega) (by omega) hbase (wr.heap.size + 1) hH ?_; intro g6 cap6 w6 hown6 hgrow hat hlt6; refine Hid.out ?_)
      clear hnews hH hbase hlt6 hat
      have hd6 : w6.ownsRow w.heap.size 41 9 (.slice (some ⟨g6, 0, none⟩) (i + 1) cap6) (i + 1) (nodesC (List.replicate (i + 1) litN)) := by
        have h9 : w6.ownsRow w.heap.size 41 9 (.slice (some ⟨g6, 0, none⟩) (i + 1) cap6) (i + 1) (nodesC (List.replicate i litN) ++ gdL litN.1 litN.2.1 litN.2.2) := by
          show w6.ownsRow _ _ _ _ _ (_ ++ gdL (Rf.setG s1) none 0)
          rw [litL]
          exact hown6
        rw [nodesC_snoc, rep_snoc] at h9
        exact h9
      have hk6 := own_kept (HL.out.k.alloc _) hgrow (fun q hq => fun r => own_apart hown (HL.out.k.alloc _) (by decide) q hq r)
      have hb6 := bel_row (HL.out.bel.alloc hsz (.cells #[.int .u8 2, .int .u64 1, .int .u64 0, .int .u64 0, .int .u64 0, .slice none 0 0, .int .i64 0, .int .i64 0, .string { data := #[] }] 41)) (by rw [World.size_alloc]; omega) hgrow (fun q hq => (hown.lt q hq).1)
      have HD6 := hidd hd6
      have HB6 := hidd hb6
      have hsz6 := hb6.size
      clear hown hown6 hgrow hd hd6 hb6 hsz HL
      refine Lib.hid ?_
      -- a number appended: in world w6, the row hk6 of i numbers, the number i, list i64s (List.range i)
      have hown := hk6.alloc (.cells #[.int .i64 (i : Int)] 3)
      have hnews := int_news w6 (i : Int)
      have hH : (w6.alloc (.cells #[.int .i64 (i : Int)] 3)).heap.size = w6.heap.size + 1 := World.size_alloc ..
      have hbase : w.heap.size ≤ (w6.alloc (.cells #[.int .i64 (i : Int)] 3)).heap.size := by have := hsz6; rw [hH]; omega
      go_wp2_with (at_builtin; refine wpList_append_lies _ rfl _ _ _ rfl w.heap.size 3 j0 (.int .i64 0) 1 8 Try.underlying39 hj0 hy0 hy1 hy2 rfl (by omega) _ i (i64s (List.range i)) rfl hown ⟨w6.heap.size, 0, none⟩ 1 1 [.int .i64 (i : Int)] rfl rfl hnews (by simp [Value.oneCell']) (by omega) (by simp only [maxLen]; omega) (by omega) hbase (w6.heap.size + 1) hH ?_; intro g7 cap7 w7 hown6 hgrow hat hlt6; refine Hid.out ?_)
      clear hnews hH hbase hlt6 hat
      have hk7 := range_own hown6
      have hd7 := own_kept (HD6.out.alloc _) hgrow (fun q hq => fun r => own_apart hown (HD6.out.alloc _) (by decide) q hq r)
      have hb7 := bel_row (HB6.out.alloc hsz6 (.cells #[.int .i64 (i : Int)] 3)) (by rw [World.size_alloc]; omega) hgrow (fun q hq => (hown.lt q hq).1)
      have HR : Hid (LgR w litN (i + 1) (.slice (some ⟨g6, 0, none⟩) (i + 1) cap6) (.slice (some ⟨g7, 0, none⟩) (i + 1) cap7) w7) := ⟨hd7, hk7, hb7⟩
      clear hown hown6 hgrow hk6 hk7 hd7 hb7 HD6 HB6 hsz6
      refine Lib.hid ?_
      go_wp2
      exact ⟨⟨i + 1, by omega, rfl, HR.out⟩, by simp [intOf]; omega⟩
    · have hie : n = i := by omega
      subst hie
      obtain ⟨A5, c5, rfl⟩ := own_form L.k
      have hd := L.d
      have hsz := L.bel.size
      have HL := hidd L
      clear L
      -- a node appended: in world wr, the row hd of n nodes, cells .int .u8 3, .int .u64 0, .int .u64 0, .int .u64 0, .int .u64 0, .slice A5 n c5, .int .i64 0, .int .i64 0, .string { data := #[] }, list nodesC (List.replicate n litN)
      have hown := hd.alloc (.cells #[.int .u8 3, .int .u64 0, .int .u64 0, .int .u64 0, .int .u64 0, .slice A5 n c5, .int .i64 0, .int .i64 0, .string { data := #[] }] 41)
      have hnews : ∀ j u, ([.int .u8 3, .int .u64 0, .int .u64 0, .int .u64 0, .int .u64 0, .slice A5 n c5, .int .i64 0, .int .i64 0, .string { data := #[] }] : List Value)[j]? = some u → (wr.alloc (.cells #[.int .u8 3, .int .u64 0, .int .u64 0, .int .u64 0, .int .u64 0, .slice A5 n c5, .int .i64 0, .int .i64 0, .string { data := #[] }] 41)).cell? ((⟨wr.heap.size, 0, none⟩ : Addr).add j) = some u := World.news_of_block (RowA.new wr 41 #[.int .u8 3, .int .u64 0, .int .u64 0, .int .u64 0, .int .u64 0, .slice A5 n c5, .int .i64 0, .int .i64 0, .string { data := #[] }])
      have hH : (wr.alloc (.cells #[.int .u8 3, .int .u64 0, .int .u64 0, .int .u64 0, .int .u64 0, .slice A5 n c5, .int .i64 0, .int .i64 0, .string { data := #[] }] 41)).heap.size = wr.heap.size + 1 := World.size_alloc ..
      have hbase : w.heap.size ≤ (wr.alloc (.cells #[.int .u8 3, .int .u64 0, .int .u64 0, .int .u64 0, .int .u64 0, .slice A5 n c5, .int .i64 0, .int .i64 0, .string { data := #[] }] 41)).heap.size := by have := hsz; rw [hH]; omega
      go_wp2_with (at_builtin; refine wpList_append_lies _ rfl _ _ _ rfl w.heap.size 41 i0 (.agg zeroC) 9 96 Try.underlying22 hi0 hz0 hz1 hz2 rfl (by omega) _ n (nodesC (List.replicate n litN)) rfl hown ⟨wr.heap.size, 0, none⟩ 1 1 [.int .u8 3, .int .u64 0, .int .u64 0, .int .u64 0, .int .u64 0, .slice A5 n c5, .int .i64 0, .int .i64 0, .string { data := #[] }] rfl rfl hnews (by simp [Value.oneCell']) (by omega) (by simp only [maxLen]; omega) (by omega) hbase (wr.heap.size + 1) hH ?_; intro g6 cap6 w2 hown6 hgrow hat hlt6; refine Hid.out ?_)
      clear hnews hH hbase hlt6 hat
      have hk2 := own_kept (HL.out.k.alloc (.cells #[.int .u8 3, .int .u64 0, .int .u64 0, .int .u64 0, .int .u64 0, .slice A5 n c5, .int .i64 0, .int .i64 0, .string { data := #[] }] 41)) hgrow (fun q hq => fun r => own_apart hown (HL.out.k.alloc _) (by decide) q hq r)
      have hI5 : Its w2 w2.heap.size A5 ((List.range n).map fun k : Nat => (k : Int)) := its_own (by rw [← i64s_ints]; exact hk2) (by simp)
      have hd2 : w2.ownsRow w.heap.size 41 9 (.slice (some ⟨g6, 0, none⟩) (n + 1) cap6) (List.replicate n litN ++ [(catG 3 ((List.range n).map fun k : Nat => (k : Int)), A5, c5)]).length (nodesC (List.replicate n litN ++ [(catG 3 ((List.range n).map fun k : Nat => (k : Int)), A5, c5)])) := by
        refine own_last (k := n) ?_ (by simp)
        show w2.ownsRow _ _ _ _ _ (_ ++ gdL (catG 3 _) A5 c5)
        rw [catL, List.length_map, List.length_range]
        exact hown6
      obtain ⟨A6, c6, hv6, hN6, hc6⟩ := own_nds hd2 (fun x hx => by
        rcases List.mem_append.1 hx with q | q
        · rw [List.eq_of_mem_replicate q]; exact its_nil _ _ _
        · rw [List.mem_singleton] at q; subst q; exact hI5)
      have hlen6 : (List.replicate n litN ++ [(catG 3 ((List.range n).map fun k : Nat => (k : Int)), A5, c5)]).length = n + 1 := by simp
      have hG6 : GN ((List.replicate n litN ++ [(catG 3 ((List.range n).map fun k : Nat => (k : Int)), A5, c5)]).map (·.1)) (dT n) := by
        refine gn_map ?_ (gn_cat (List.range n))
        rw [List.map_replicate]
        exact gn_rep (show GN1 (Rf.setG s1) (ndBytes s1) from ⟨rfl, fun _ _ => rfl, rfl, rfl, rfl, rfl⟩) n
      have hb2 := bel_row (HL.out.bel.alloc hsz (.cells #[.int .u8 3, .int .u64 0, .int .u64 0, .int .u64 0, .int .u64 0, .slice A5 n c5, .int .i64 0, .int .i64 0, .string { data := #[] }] 41)) (by rw [World.size_alloc]; omega) hgrow (fun q hq => (hown.lt q hq).1)
      rw [hlen6] at hv6 hc6
      cases hv6
      generalize hgs : (List.replicate n litN ++ [(catG 3 ((List.range n).map fun k : Nat => (k : Int)), A5, c5)]).map (·.1) = gd at *
      have HGL : Hid (gd.length = n + 1) := by show _ = _; rw [hG6.1, dT_len]
      have HN6 := hidd hN6
      have HG6 := hidd hG6
      have HB2 := hidd hb2
      have HC6 := hidd hc6
      have HS : Hid (LgR w2 refN 0 (.slice none 0 0) (.slice none 0 0) w2) := ⟨World.ownsRow_nil _ _ _ _, World.ownsRow_nil _ _ _ _, Below.refl _ _⟩
      clear hgs hlen6 hown hown6 hgrow hd hd2 hI5 hk2 hN6 hG6 hb2 hc6 HL hsz
      refine Lib.hid ?_
      go_wp2
      go_loopw [9, 10, 45] (fun s9 s10 s45 wr => ∃ i : Nat, i ≤ k ∧ s45 = .int .i64 (i : Int) ∧ LgR w2 refN i s9 s10 wr) (fun _ _ s45 _ => k - (intOf s45).toNat)
      case atStart => exact ⟨0, Nat.zero_le _, rfl, HS.out⟩
      case round =>
        clear HS
        obtain ⟨i, hi, rfl, L⟩ := hrel
        by_cases hlt : i < k
        · have hii : (i : Int) < (k : Int) := by omega
          have HL := hidd L
          have hd := L.d
          have hsz := L.bel.size
          clear L
          -- a node appended: in world wr, the row hd of i nodes, cells .int .u8 6, .int .u64 0, .int .u64 0, .int .u64 0, .int .u64 0, .slice none 0 0, .int .i64 0, .int .i64 0, .string { data := #[100] }, list nodesC (List.replicate i refN)
          have hown := hd.alloc (.cells #[.int .u8 6, .int .u64 0, .int .u64 0, .int .u64 0, .int .u64 0, .slice none 0 0, .int .i64 0, .int .i64 0, .string { data := #[100] }] 41)
          have hnews : ∀ j u, ([.int .u8 6, .int .u64 0, .int .u64 0, .int .u64 0, .int .u64 0, .slice none 0 0, .int .i64 0, .int .i64 0, .string { data := #[100] }] : List Value)[j]? = some u → (wr.alloc (.cells #[.int .u8 6, .int .u64 0, .int .u64 0, .int .u64 0, .int .u64 0, .slice none 0 0, .int .i64 0, .int .i64 0, .string { data := #[100] }] 41)).cell? ((⟨wr.heap.size, 0, none⟩ : Addr).add j) = some u := World.news_of_block (RowA.new wr 41 #[.int .u8 6, .int .u64 0, .int .u64 0, .int .u64 0, .int .u64 0, .slice none 0 0, .int .i64 0, .int .i64 0, .string { data := #[100] }])
          have hH : (wr.alloc (.cells #[.int .u8 6, .int .u64 0, .int .u64 0, .int .u64 0, .int .u64 0, .slice none 0 0, .int .i64 0, .int .i64 0, .string { data := #[100] }] 41)).heap.size = wr.heap.size + 1 := World.size_alloc ..
          have hbase : w2.heap.size ≤ (wr.alloc (.cells #[.int .u8 6, .int .u64 0, .int .u64 0, .int .u64 0, .int .u64 0, .slice none 0 0, .int .i64 0, .int .i64 0, .string { data := #[100] }] 41)).heap.size := by have := hsz; rw [hH]; omega
          go_wp2_with (at_builtin; refine wpList_append_lies _ rfl _ _ _ rfl w2.heap.size 41 i0 (.agg zeroC) 9 96 Try.underlying22 hi0 hz0 hz1 hz2 rfl (by omega) _ i (nodesC (List.replicate i refN)) rfl hown ⟨wr.heap.size, 0, none⟩ 1 1 [.int .u8 6, .int .u64 0, .int .u64 0, .int .u64 0, .int .u64 0, .slice none 0 0, .int .i64 0, .int .i64 0, .string { data := #[100] }] rfl rfl hnews (by simp [Value.oneCell']) (by omega) (by simp only [maxLen]; omega) (by omega) hbase (wr.heap.size + 1) hH ?_; intro g6 cap6 w6 hown6 hgrow hat hlt6; refine Hid.out ?_)
          clear hnews hH hbase hlt6 hat
          have hd6 : w6.ownsRow w2.heap.size 41 9 (.slice (some ⟨g6, 0, none⟩) (i + 1) cap6) (i + 1) (nodesC (List.replicate (i + 1) refN)) := by
            have h9 : w6.ownsRow w2.heap.size 41 9 (.slice (some ⟨g6, 0, none⟩) (i + 1) cap6) (i + 1) (nodesC (List.replicate i refN) ++ gdL refN.1 refN.2.1 refN.2.2) := by
              show w6.ownsRow _ _ _ _ _ (_ ++ gdL (refG dA) none 0)
              rw [refL]
              exact hown6
            rw [nodesC_snoc, rep_snoc] at h9
            exact h9
          have hk6 := own_kept (HL.out.k.alloc _) hgrow (fun q hq => fun r => own_apart hown (HL.out.k.alloc _) (by decide) q hq r)
          have hb6 := bel_row (HL.out.bel.alloc hsz (.cells #[.int .u8 6, .int .u64 0, .int .u64 0, .int .u64 0, .int .u64 0, .slice none 0 0, .int .i64 0, .int .i64 0, .string { data := #[100] }] 41)) (by rw [World.size_alloc]; omega) hgrow (fun q hq => (hown.lt q hq).1)
          have HD6 := hidd hd6
          have HB6 := hidd hb6
          have hsz6 := hb6.size
          clear hown hown6 hgrow hd hd6 hb6 hsz HL
          refine Lib.hid ?_
          -- a number appended: in world w6, the row hk6 of i numbers, the number i, list i64s (List.range i)
          have hown := hk6.alloc (.cells #[.int .i64 (i : Int)] 3)
          have hnews := int_news w6 (i : Int)
          have hH : (w6.alloc (.cells #[.int .i64 (i : Int)] 3)).heap.size = w6.heap.size + 1 := World.size_alloc ..
          have hbase : w2.heap.size ≤ (w6.alloc (.cells #[.int .i64 (i : Int)] 3)).heap.size := by have := hsz6; rw [hH]; omega
          go_wp2_with (at_builtin; refine wpList_append_lies _ rfl _ _ _ rfl w2.heap.size 3 j0 (.int .i64 0) 1 8 Try.underlying39 hj0 hy0 hy1 hy2 rfl (by omega) _ i (i64s (List.range i)) rfl hown ⟨w6.heap.size, 0, none⟩ 1 1 [.int .i64 (i : Int)] rfl rfl hnews (by simp [Value.oneCell']) (by omega) (by simp only [maxLen]; omega) (by omega) hbase (w6.heap.size + 1) hH ?_; intro g7 cap7 w7 hown6 hgrow hat hlt6; refine Hid.out ?_)
          clear hnews hH hbase hlt6 hat
          have hk7 := range_own hown6
          have hd7 := own_kept (HD6.out.alloc _) hgrow (fun q hq => fun r => own_apart hown (HD6.out.alloc _) (by decide) q hq r)
          have hb7 := bel_row (HB6.out.alloc hsz6 (.cells #[.int .i64 (i : Int)] 3)) (by rw [World.size_alloc]; omega) hgrow (fun q hq => (hown.lt q hq).1)
          have HR : Hid (LgR w2 refN (i + 1) (.slice (some ⟨g6, 0, none⟩) (i + 1) cap6) (.slice (some ⟨g7, 0, none⟩) (i + 1) cap7) w7) := ⟨hd7, hk7, hb7⟩
          clear hown hown6 hgrow hk6 hk7 hd7 hb7 HD6 HB6 hsz6
          refine Lib.hid ?_
          go_wp2
          exact ⟨⟨i + 1, by omega, rfl, HR.out⟩, by simp [intOf]; omega⟩
        · have hie : k = i := by omega
          subst hie
          obtain ⟨A8, c8, rfl⟩ := own_form L.k
          have hd := L.d
          have hsz := L.bel.size
          have HL := hidd L
          clear L
          by_cases hk9 : k = 1
          · subst hk9
            obtain ⟨A7, c7, hv7, hN7, hc7⟩ := own_nds (l := List.replicate 1 refN) hd (fun x hx => by rw [List.eq_of_mem_replicate hx]; exact its_nil _ _ _)
            have hv7' : u9 = .slice A7 1 c7 := hv7
            subst hv7'
            obtain ⟨gl, hgl⟩ : ∃ gl, (List.replicate 1 refN).map (·.1) = gl := ⟨_, rfl⟩
            rw [hgl] at hN7
            have HG7 : Hid (GN gl (lT 1)) := by
              show GN _ _
              rw [← hgl]
              exact gn_rep (show GN1 (refG dA) (ndRef [100]) from ⟨rfl, fun _ _ => rfl, rfl, rfl, rfl, rfl⟩) 1
            have HKL : Hid (gl.length = 1) := by show _ = _; rw [← hgl]; rfl
            have HC7 : Hid (gl.length ≤ c7) := by show _ ≤ _; rw [HKL.out]; exact hc7
            have HN7 := hidd hN7
            have HB3 := hidd HL.out.bel
            obtain ⟨SS, hSS⟩ : ∃ SS, SS = n + 1 := ⟨_, rfl⟩
            have HSS : Hid (sumL n 1 = SS) := by show _ = _; unfold sumL; rw [if_pos rfl, Nat.one_mul, hSS]
            have hs1 : (n : Int) + 1 = (SS : Int) := by omega
            have hSb : SS ≤ 302 := by omega
            clear hSS hd hN7 hc7 HL hgl hsz hv7
            -- l lies in world wr at A7, its nodes gl; the sum is SS
            have hb23 := HB3.out
            have hN7 := HN7.out
            have hND := (HN6.out.below hb23).more hb23.size
            have hD := one_def (nm := dA) hND (by rw [HGL.out]; exact HC6.out)
            have hb4 : Below wr.heap.size wr (wr.alloc (.cells #[.string dA, .slice (some ⟨g6, 0, none⟩) gd.length cap6] 35)) := (Below.refl _ _).alloc (Nat.le_refl _) _
            have tD := dT_tree hn2 (by omega)
            have tL := lT_tree (k := 1) hk1 (by omega)
            have G1d := gd_nil.cons (nm := dA) (m := [100]) rfl HG6.out tD
            have hx1 := xpand_ok A7 c7 gl (lT 1) (some ⟨wr.heap.size, 0, none⟩) 1 [(dA, gd)] [([100], dT n)] _ ((hN7.below hb4).more hb4.size) HC7.out (gn_sm HG7.out tL) hD (dok_of G1d (by simp) (fun d hd => by rw [List.mem_singleton] at hd; subst hd; show 1 ≤ maxLen; unfold maxLen; omega)) HG7.out tL (right_one rfl (tree_rg HG6.out tD)) G1d
            rw [HGL.out, HKL.out] at hx1
            rw [HGL.out] at hb4
            have HB4 := hidd (HB2.out.trans ((hb23.trans (hb4.mono hb23.size)).mono HB2.out.size))
            clear hD hb4 hND hN7 hb23 tD tL G1d
            obtain ⟨q1, q2⟩ := long_exp (n := n) (k := 1) hk1
            rw [HSS.out] at q1 q2
            have hbig : ¬ 1024 < SS := by omega
            obtain ⟨o, ho, hol⟩ := q2 (by omega)
            rw [ho] at hx1
            have hbi : decide ((1024 : Int) < (SS : Int)) = false := decide_eq_false (by omega)
            have HX := hidd hx1
            have HOL := hidd hol
            clear q1 q2 hx1 HN6 HN7 HG6 HG7 ho hol
            go_wp2_with fail
            refine HX.out.mono ?_
            rintro e w5 ⟨b5, A9, c9, go, rfl, -, hG9, -⟩
            have hgo : go.length = SS := by rw [hG9.1]; exact HOL.out
            have HB5 := hidd (HB4.out.trans (b5.mono HB4.out.size))
            rw [hgo]
            clear b5 hG9 HX hgo
            go_wp2
            go_ret
            exact ⟨rfl, HB5.out⟩
          · have hk3 : 2 ≤ k := by omega
            have hgt : decide ((1 : Int) < (k : Int)) = true := decide_eq_true (by omega)
            have hgt2 : decide (1 < k) = true := decide_eq_true (by omega)
            obtain ⟨S0, hS0⟩ : ∃ S0, S0 = k * (n + 1) := ⟨_, rfl⟩
            have hmul : (k : Int) * ((n : Int) + 1) = (S0 : Int) := by rw [hS0]; push_cast; rfl
            have hS1 : S0 ≤ 20 * 302 := by rw [hS0]; exact Nat.mul_le_mul hk2 (by omega)
            obtain ⟨SS, hSS⟩ : ∃ SS, SS = S0 + 1 := ⟨_, rfl⟩
            have HSS : Hid (sumL n k = SS) := by show _ = _; unfold sumL; rw [if_neg hk9, hSS, hS0]
            have hs1 : (S0 : Int) + 1 = (SS : Int) := by omega
            clear hS0
            -- a node appended: in world wr, the row hd of k nodes, cells .int .u8 4, .int .u64 0, .int .u64 0, .int .u64 0, .int .u64 0, .slice A8 k c8, .int .i64 0, .int .i64 0, .string { data := #[] }, list nodesC (List.replicate k refN)
            have hown := hd.alloc (.cells #[.int .u8 4, .int .u64 0, .int .u64 0, .int .u64 0, .int .u64 0, .slice A8 k c8, .int .i64 0, .int .i64 0, .string { data := #[] }] 41)
            have hnews : ∀ j u, ([.int .u8 4, .int .u64 0, .int .u64 0, .int .u64 0, .int .u64 0, .slice A8 k c8, .int .i64 0, .int .i64 0, .string { data := #[] }] : List Value)[j]? = some u → (wr.alloc (.cells #[.int .u8 4, .int .u64 0, .int .u64 0, .int .u64 0, .int .u64 0, .slice A8 k c8, .int .i64 0, .int .i64 0, .string { data := #[] }] 41)).cell? ((⟨wr.heap.size, 0, none⟩ : Addr).add j) = some u := World.news_of_block (RowA.new wr 41 #[.int .u8 4, .int .u64 0, .int .u64 0, .int .u64 0, .int .u64 0, .slice A8 k c8, .int .i64 0, .int .i64 0, .string { data := #[] }])
            have hH : (wr.alloc (.cells #[.int .u8 4, .int .u64 0, .int .u64 0, .int .u64 0, .int .u64 0, .slice A8 k c8, .int .i64 0, .int .i64 0, .string { data := #[] }] 41)).heap.size = wr.heap.size + 1 := World.size_alloc ..
            have hbase : w2.heap.size ≤ (wr.alloc (.cells #[.int .u8 4, .int .u64 0, .int .u64 0, .int .u64 0, .int .u64 0, .slice A8 k c8, .int .i64 0, .int .i64 0, .string { data := #[] }] 41)).heap.size := by have := hsz; rw [hH]; omega
            go_wp2_with (at_builtin; refine wpList_append_lies _ rfl _ _ _ rfl w2.heap.size 41 i0 (.agg zeroC) 9 96 Try.underlying22 hi0 hz0 hz1 hz2 rfl (by omega) _ k (nodesC (List.replicate k refN)) rfl hown ⟨wr.heap.size, 0, none⟩ 1 1 [.int .u8 4, .int .u64 0, .int .u64 0, .int .u64 0, .int .u64 0, .slice A8 k c8, .int .i64 0, .int .i64 0, .string { data := #[] }] rfl rfl hnews (by simp [Value.oneCell']) (by omega) (by simp only [maxLen]; omega) (by omega) hbase (wr.heap.size + 1) hH ?_; intro g7 c7 w3 hown6 hgrow hat hlt6; refine Hid.out ?_)
            clear hnews hH hbase hlt6 hat
            have hk3w := own_kept (HL.out.k.alloc (.cells #[.int .u8 4, .int .u64 0, .int .u64 0, .int .u64 0, .int .u64 0, .slice A8 k c8, .int .i64 0, .int .i64 0, .string { data := #[] }] 41)) hgrow (fun q hq => fun r => own_apart hown (HL.out.k.alloc _) (by decide) q hq r)
            have hI8 : Its w3 w3.heap.size A8 ((List.range k).map fun k : Nat => (k : Int)) := its_own (by rw [← i64s_ints]; exact hk3w) (by simp)
            have hd3 : w3.ownsRow w2.heap.size 41 9 (.slice (some ⟨g7, 0, none⟩) (k + 1) c7) (List.replicate k refN ++ [(catG 4 ((List.range k).map fun k : Nat => (k : Int)), A8, c8)]).length (nodesC (List.replicate k refN ++ [(catG 4 ((List.range k).map fun k : Nat => (k : Int)), A8, c8)])) := by
              refine own_last (k := k) ?_ (by simp)
              show w3.ownsRow _ _ _ _ _ (_ ++ gdL (catG 4 _) A8 c8)
              rw [catL, List.length_map, List.length_range]
              exact hown6
            obtain ⟨A7, c7', hv7, hN7, hc7⟩ := own_nds hd3 (fun x hx => by
              rcases List.mem_append.1 hx with q | q
              · rw [List.eq_of_mem_replicate q]; exact its_nil _ _ _
              · rw [List.mem_singleton] at q; subst q; exact hI8)
            have hlen7 : (List.replicate k refN ++ [(catG 4 ((List.range k).map fun k : Nat => (k : Int)), A8, c8)]).length = k + 1 := by simp
            rw [hlen7] at hv7 hc7
            cases hv7
            have HG7 : Hid (GN ((List.replicate k refN ++ [(catG 4 ((List.range k).map fun k : Nat => (k : Int)), A8, c8)]).map (·.1)) (lT k)) := by
              show GN _ _
              unfold lT
              rw [if_neg hk9]
              refine gn_map ?_ (gn_alt (List.range k))
              rw [List.map_replicate]
              exact gn_rep (show GN1 (refG dA) (ndRef [100]) from ⟨rfl, fun _ _ => rfl, rfl, rfl, rfl, rfl⟩) k
            have HB3 := hidd (bel_row (HL.out.bel.alloc hsz (.cells #[.int .u8 4, .int .u64 0, .int .u64 0, .int .u64 0, .int .u64 0, .slice A8 k c8, .int .i64 0, .int .i64 0, .string { data := #[] }] 41)) (by rw [World.size_alloc]; omega) hgrow (fun q hq => (hown.lt q hq).1))
            generalize (List.replicate k refN ++ [(catG 4 ((List.range k).map fun k : Nat => (k : Int)), A8, c8)]).map (·.1) = gl at *
            have HKL : Hid (gl.length = k + 1) := by
              show _ = _
              rw [HG7.out.1]
              unfold lT
              rw [if_neg hk9]
              simp
            have HC7 : Hid (gl.length ≤ c7) := by show _ ≤ _; rw [HKL.out]; exact hc7
            have HN7 := hidd hN7
            obtain ⟨A7, hA7⟩ : ∃ A7, A7 = some (⟨g7, 0, none⟩ : Addr) := ⟨_, rfl⟩
            rw [← hA7] at HN7
            rw [← hA7]
            clear hA7 hlen7 hown hown6 hgrow hd hd3 hI8 hk3w hN7 hc7 HL hsz hSS
            refine Lib.hid ?_
            -- l lies in world w3 at A7, its nodes gl; the sum is SS
            have hb23 := HB3.out
            have hN7 := HN7.out
            have hND := (HN6.out.below hb23).more hb23.size
            have hD := one_def (nm := dA) hND (by rw [HGL.out]; exact HC6.out)
            have hb4 : Below w3.heap.size w3 (w3.alloc (.cells #[.string dA, .slice (some ⟨g6, 0, none⟩) gd.length cap6] 35)) := (Below.refl _ _).alloc (Nat.le_refl _) _
            have tD := dT_tree hn2 (by omega)
            have tL := lT_tree (k := k) hk1 (by omega)
            have G1d := gd_nil.cons (nm := dA) (m := [100]) rfl HG6.out tD
            have hx1 := xpand_ok A7 c7 gl (lT k) (some ⟨w3.heap.size, 0, none⟩) 1 [(dA, gd)] [([100], dT n)] _ ((hN7.below hb4).more hb4.size) HC7.out (gn_sm HG7.out tL) hD (dok_of G1d (by simp) (fun d hd => by rw [List.mem_singleton] at hd; subst hd; show 1 ≤ maxLen; unfold maxLen; omega)) HG7.out tL (right_one rfl (tree_rg HG6.out tD)) G1d
            rw [HGL.out, HKL.out] at hx1
            rw [HGL.out] at hb4
            have HB4 := hidd (HB2.out.trans ((hb23.trans (hb4.mono hb23.size)).mono HB2.out.size))
            clear hD hb4 hND hN7 hb23 tD tL G1d
            obtain ⟨q1, q2⟩ := long_exp (n := n) (k := k) hk1
            rw [HSS.out] at q1 q2
            by_cases hbig : 1024 < SS
            · have hq0 : True := trivial
              rw [q1 hbig] at hx1
              have hbi : decide ((1024 : Int) < (SS : Int)) = true := decide_eq_true (by omega)
              have HX := hidd hx1
              clear q1 q2 hx1 HN6 HN7 HG6 HG7
              go_wp2_with fail
              refine HX.out.mono ?_
              rintro e w5 ⟨b5, h5⟩
              have h5' : e = .returned (.tuple #[.slice none 0 0, .int .i64 3]) := h5
              subst h5'
              have HB5 := hidd (HB4.out.trans (b5.mono HB4.out.size))
              clear b5 h5 HX
              go_wp2
              go_ret
              exact ⟨rfl, HB5.out⟩
            · have hq0 : True := trivial
              obtain ⟨o, ho, hol⟩ := q2 (by omega)
              rw [ho] at hx1
              have hbi : decide ((1024 : Int) < (SS : Int)) = false := decide_eq_false (by omega)
              have HX := hidd hx1
              have HOL := hidd hol
              clear q1 q2 hx1 HN6 HN7 HG6 HG7 ho hol
              go_wp2_with fail
              refine HX.out.mono ?_
              rintro e w5 ⟨b5, A9, c9, go, rfl, -, hG9, -⟩
              have hgo : go.length = SS := by rw [hG9.1]; exact HOL.out
              have HB5 := hidd (HB4.out.trans (b5.mono HB4.out.size))
              rw [hgo]
              clear b5 hG9 HX hgo
              go_wp2
              go_ret
              exact ⟨rfl, HB5.out⟩
end Go.Proofs.Ytnajcigfgniflaa.Sy.Ap

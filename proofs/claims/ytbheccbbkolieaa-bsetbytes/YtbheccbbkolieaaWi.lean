/- Spans, of bset and of its reference. -/
import Derived.Test.YtbheccbbkolieaaWh
import Derived.Test.YtbheccbbkolieaaSp
import Derived.Deep.AppendLies
namespace Go.Proofs.Ytbheccbbkolieaa
open Go.RowKit

theorem pair_info : (Try.prog.info? 42).map (fun i => (i.zero, i.size, i.bytes)) = some (some (.agg #[.int .u8 0, .int .u8 0]), 2, 2) := by kernel_rfl

theorem own_form {w : World} {b : Nat} {e : TypeId} {size : Nat} {v : Value} {n : Nat} {xs : List Value} (h : w.ownsRow b e size v n xs) : ∃ A c, v = .slice A n c := by
  rcases h.2 with ⟨hv, hn⟩ | ⟨g, cap, cur, hv, _⟩
  · exact ⟨none, 0, by rw [hv, hn]⟩
  · exact ⟨_, _, hv⟩
theorem own_pos {w : World} {b : Nat} {e : TypeId} {size : Nat} {v : Value} {n : Nat} {xs : List Value} (h : w.ownsRow b e size v n xs) (hn : 0 < n) : ∃ g c, v = .slice (some ⟨g, 0, none⟩) n c ∧ b ≤ g ∧ g < w.heap.size := by
  rcases h.2 with ⟨hv, h0⟩ | ⟨g, cap, cur, hv, hg, hh, _⟩
  · omega
  · refine ⟨g, cap, hv, hg, ?_⟩
    rcases Nat.lt_or_ge g w.heap.size with hl | hl
    · exact hl
    · rw [Array.getElem?_eq_none hl] at hh; cases hh

theorem u8s_at (l : List Int) (i : Nat) (h : i < l.length) : (u8s l)[i]? = some (.int .u8 (l.getD i 0)) := by
  unfold u8s
  rw [List.getElem?_map, List.getElem?_eq_getElem h, List.getD_eq_getElem?_getD, List.getElem?_eq_getElem h]
  rfl
theorem Bts.of_own {w : World} {b : Nat} {v : Value} {xs : List Int} (h : w.ownsRow b 5 1 v xs.length (u8s xs)) (hx : ∀ x ∈ xs, 0 ≤ x ∧ x ≤ 255) : ∃ A c, v = .slice A xs.length c ∧ Bts w w.heap.size A xs := by
  rcases Nat.eq_zero_or_pos xs.length with h0 | h0
  · obtain ⟨A, c, hv⟩ := own_form h
    exact ⟨A, c, hv, hx, fun hne => absurd (List.eq_nil_of_length_eq_zero h0) hne⟩
  · obtain ⟨g, c, rfl, _, hl⟩ := own_pos h h0
    refine ⟨_, c, rfl, hx, fun _ => ⟨g, 0, rfl, hl, fun i hi => ?_⟩⟩
    have := h.cellAt i (by omega)
    rw [u8s_at xs i hi] at this
    rw [Nat.zero_add]
    exact this

set_option maxRecDepth 100000 in
set_option maxHeartbeats 2000000 in
theorem spans_any (p : Nat → Bool) (w : World) :
    Calls Try.prog 27 #[.agg #[.int .u64 (W (p) 0), .int .u64 (W (p) 1), .int .u64 (W (p) 2), .int .u64 (W (p) 3)]] w fun e w' => ∃ v, e = .returned v ∧ w'.ownsRow w.heap.size 42 2 v (spansL (lstB p 256)).length (prV (spansL (lstB p 256))) ∧ Below w.heap.size w w' := by
  obtain ⟨i0, hi0, hz0, hz1, hz2⟩ := info_parts pair_info
  go_enter Try.func27, Try.ntmps27
  go_wp2_with fail
  refine (list_any p _).mono ?_
  rintro e w1 ⟨v1, rfl, hown1, hb1⟩
  have hr := lst_rises p 256
  have hby := lst_byte p
  have hln := lst_len p 256
  generalize hxe : lstB p 256 = xs at *
  have HX := hidd hxe
  clear hxe
  obtain ⟨A, c, rfl, hxs⟩ := Bts.of_own hown1 hby
  have hbw := bel1 hb1
  clear hown1 hb1
  have HR := hidd hr
  clear hr
  go_wp2
  go_loopw [3, 10] (fun l i wr => ∃ k : Nat, k ≤ xs.length ∧ i = .int .i64 k ∧ wr.ownsRow w1.heap.size 42 2 l (spansL (xs.take k)).length (prV (spansL (xs.take k))) ∧ Below w1.heap.size w1 wr) (fun _ i _ => xs.length - (intOf i).toNat)
  case atStart => exact ⟨0, Nat.zero_le _, rfl, World.ownsRow_nil _ _ _ _, Below.refl _ _⟩
  case round =>
    obtain ⟨k, hk0, rfl, hown, hb⟩ := hrel
    by_cases hlt : k < xs.length
    · obtain ⟨g, off, rfl, hg, hcx, hb0, hb2⟩ := (hxs.below hb).at_ hlt
      have HS := hidd (spans_next xs k hlt)
      have hcs := spans_case xs HR.out hxs.1 k hlt
      have hsl := spans_len (xs.take k)
      rw [List.length_take] at hsl
      have hsz := hb.size
      generalize spansL (xs.take k) = out at *
      generalize xs.getD k 0 = b at *
      rcases hcs with ⟨rfl, hk00⟩ | ⟨init, a, c0, rfl, hc0, hcb, hcl⟩
      · obtain ⟨A2, c2, hu⟩ := own_form hown
        change _ = Value.slice A2 0 c2 at hu
        subst hu
        clear hsl hk00
        go_wp2_with (at_builtin; refine wpList_append_own _ rfl (.tmp 34) (.tmp 38) 39 rfl w1.heap.size 42 i0 (.agg #[.int .u8 0, .int .u8 0]) 2 2 Try.underlying39 hi0 hz0 hz1 hz2 rfl (by omega) _ _ _ rfl (hown.alloc _) ⟨wr.heap.size, 0, none⟩ 1 1 [.int .u8 b, .int .u8 b] rfl rfl (cells_new _ _ _ _ rfl) (by simp [Value.oneCell']) (by simp [maxLen]) (by simp) (by simp; omega) ?_; intro v2 w2 hown2 hg2 _)
        change (wr.alloc _).grownBy w2 (Value.slice A2 0 c2).ownBlock at hg2
        have hlt2 := hown.lt
        refine ⟨⟨k + 1, by omega, rfl, ?_, (hb.alloc (by omega) _).grown hg2 (by simp; omega) (fun j e => (hlt2 _ e).1)⟩, by simp [intOf]; omega⟩
        rw [HS.out]; exact hown2
      · rw [List.length_append] at hsl
        simp only [List.length_cons, List.length_nil, Nat.zero_add] at hsl
        rw [List.length_append] at hown
        simp only [List.length_cons, List.length_nil, Nat.zero_add] at hown
        clear hcl
        obtain ⟨g2, c2, hu, hg2a, hg2b⟩ := own_pos hown (by omega)
        subst hu
        rw [step_last] at HS
        have hc5 := hown.cellAt (init.length * 2 + 1) (by omega)
        rw [prV_lastAt] at hc5
        have hf5 := hown.frozenAt
        have HSt := hidd (hown.stored (init.length * 2 + 1) (.int .u8 b))
        have hm0 : init.length ≤ 256 := by omega
        have hc3 : c0 ≤ 254 := by omega
        by_cases hcb2 : c0 + 1 = b
        · rw [if_pos hcb2] at HS
          have hcb3 : (c0 + 1 == b) = true := by simpa using hcb2
          have HC := hidd hcb2
          clear hcb2
          go_wp2
          obtain ⟨hst1, hst2⟩ := HSt.out
          rw [prV_last] at hst1
          refine ⟨⟨k + 1, by omega, rfl, ?_, hb.grown hst2 hsz (fun j e => by injection e with e; omega)⟩, by simp [intOf]; omega⟩
          rw [HS.out, List.length_append]; exact hst1
        · rw [if_neg hcb2] at HS
          have hcb3 : (c0 + 1 == b) = false := by simpa using hcb2
          clear hcb2
          go_wp2_with (at_builtin; refine wpList_append_own _ rfl (.tmp 34) (.tmp 38) 39 rfl w1.heap.size 42 i0 (.agg #[.int .u8 0, .int .u8 0]) 2 2 Try.underlying39 hi0 hz0 hz1 hz2 rfl (by omega) _ _ _ rfl (hown.alloc _) ⟨wr.heap.size, 0, none⟩ 1 1 [.int .u8 b, .int .u8 b] rfl rfl (cells_new _ _ _ _ rfl) (by simp [Value.oneCell']) (by simp only [maxLen]; omega) (by omega) (by simp; omega) ?_; intro v2 w2 hown2 hg2 _)
          change (wr.alloc _).grownBy w2 (some g2) at hg2
          refine ⟨⟨k + 1, by omega, rfl, ?_, (hb.alloc (by omega) _).grown hg2 (by simp; omega) (fun j e => by injection e with e; omega)⟩, by simp [intOf]; omega⟩
          rw [HS.out, List.length_append, List.length_append, prV_append, prV_one]; exact hown2
    · go_wp2
      go_ret
      rw [List.take_of_length_le (by omega)] at hown
      rw [HX.out]
      exact ⟨_, rfl, own_base hown hbw.size, hbw.trans (hb.mono hbw.size)⟩

set_option maxRecDepth 100000 in
set_option maxHeartbeats 2000000 in
theorem rspans_any (p : Nat → Bool) (w : World) :
    Calls Try.prog 28 #[.agg #[.int .u64 (W (p) 0), .int .u64 (W (p) 1), .int .u64 (W (p) 2), .int .u64 (W (p) 3)]] w fun e w' => ∃ v, e = .returned v ∧ w'.ownsRow w.heap.size 42 2 v (spansL (lstB p 256)).length (prV (spansL (lstB p 256))) ∧ Below w.heap.size w w' := by
  obtain ⟨i0, hi0, hz0, hz1, hz2⟩ := info_parts pair_info
  go_enter Try.func28, Try.ntmps28
  go_wp2_with fail
  refine (rlist_any p _).mono ?_
  rintro e w1 ⟨v1, rfl, hown1, hb1⟩
  have hr := lst_rises p 256
  have hby := lst_byte p
  have hln := lst_len p 256
  generalize hxe : lstB p 256 = xs at *
  have HX := hidd hxe
  clear hxe
  obtain ⟨A, c, rfl, hxs⟩ := Bts.of_own hown1 hby
  have hbw := bel1 hb1
  clear hown1 hb1
  have HR := hidd hr
  clear hr
  go_wp2
  go_loopw [3, 5] (fun l i wr => ∃ k : Nat, k ≤ xs.length ∧ i = .int .i64 k ∧ wr.ownsRow w1.heap.size 42 2 l (spansL (xs.take k)).length (prV (spansL (xs.take k))) ∧ Below w1.heap.size w1 wr) (fun _ i _ => xs.length - (intOf i).toNat)
  case atStart => exact ⟨0, Nat.zero_le _, rfl, World.ownsRow_nil _ _ _ _, Below.refl _ _⟩
  case round =>
    obtain ⟨k, hk0, rfl, hown, hb⟩ := hrel
    by_cases hlt : k < xs.length
    · obtain ⟨g, off, rfl, hg, hcx, hb0, hb2⟩ := (hxs.below hb).at_ hlt
      have HS := hidd (spans_next xs k hlt)
      have hcs := spans_case xs HR.out hxs.1 k hlt
      have hsl := spans_len (xs.take k)
      rw [List.length_take] at hsl
      have hsz := hb.size
      generalize spansL (xs.take k) = out at *
      generalize xs.getD k 0 = b at *
      rcases hcs with ⟨rfl, hk00⟩ | ⟨init, a, c0, rfl, hc0, hcb, hcl⟩
      · obtain ⟨A2, c2, hu⟩ := own_form hown
        change _ = Value.slice A2 0 c2 at hu
        subst hu
        clear hsl
        have HK0 := hidd hk00
        clear hk00
        have hd : decide (0 < k) = false := by rw [HK0.out]; rfl
        go_wp2
        go_quiet (fail)
        go_wp2
        have hown' : (wr.drewN nq).ownsRow w1.heap.size 42 2 (.slice A2 0 c2) ([].length) (prV ([])) := hown
        have hcx' : (wr.drewN nq).cell? ⟨g, off + k, none⟩ = some (.int .u8 b) := hcx
        have hb' := bel_drewN hb nq
        have hsz' : w1.heap.size ≤ (wr.drewN nq).heap.size := hsz
        clear hown hcx hb hsz
        generalize wr.drewN nq = wq at *
        have hlt2 := hown'.lt
        have hne : (.slice A2 0 c2 : Value).ownBlock ≠ some g := fun e => by have := (hlt2 _ e).1; omega
        have hgq : g < wq.heap.size := by omega
        have hki : (k : Int) < (xs.length : Int) := by omega
        have hkn : (0 : Int) ≤ (k : Int) := by omega
        go_region_held3 (fun v => v.cell? ⟨g, off + k, none⟩ = some (.int .u8 b)) (first | go_keep | (rw [hgrow.cell_far _ (by simp; omega) (Ne.symm hne)]; assumption)) ((refine step_append_lies _ (by rfl) _ _ _ (by rfl) w1.heap.size 42 i0 _ 2 2 Try.underlying39 hi0 hz0 hz1 hz2 rfl (by omega) (.slice A2 0 c2) ([].length) (prV ([])) (by rfl) ((hown'.alloc _).drew) ⟨wq.heap.size, 0, none⟩ 1 1 [.int .u8 b, .int .u8 b] (by rfl) (by rfl) (cells_new wq #[.int .u8 b, .int .u8 b] 42 _ rfl) (by simp [Value.oneCell']) (by omega) (by first | (simp only [maxLen]; omega) | (simp only [maxLen, List.length_nil]; omega)) (by first | omega | (simp only [List.length_nil]; omega)) (by simp; omega) (wq.heap.size + 1) (by simp) ?_; intro gg cap w2 hown2 hgrow hat hlt3))
        go_wp2
        refine ⟨⟨k + 1, by omega, rfl, ?_, ((hb'.alloc (by omega) _).drew).grown hgrow (by simp; omega) (fun j e => (hlt2 _ e).1)⟩, by simp [intOf]; omega⟩
        rw [HS.out]; exact hown2
      · rw [List.length_append] at hsl
        simp only [List.length_cons, List.length_nil, Nat.zero_add] at hsl
        rw [List.length_append] at hown
        simp only [List.length_cons, List.length_nil, Nat.zero_add] at hown
        obtain ⟨hcl, hkp⟩ := hcl
        have hcy : wr.cell? ⟨g, off + (k - 1), none⟩ = some (.int .u8 c0) := by
          obtain ⟨g', off', e1, _, e2, _⟩ := (hxs.below hb).at_ (k := k - 1) (by omega)
          simp only [Option.some.injEq, Addr.mk.injEq, and_true] at e1
          obtain ⟨rfl, rfl⟩ := e1
          rw [hcl]; exact e2
        clear hcl
        obtain ⟨g2, c2, hu, hg2a, hg2b⟩ := own_pos hown (by omega)
        subst hu
        rw [step_last] at HS
        have hf5 := hown.frozenAt
        have hm0 : init.length ≤ 256 := by omega
        have hc3 : c0 ≤ 254 := by omega
        have hd : decide (0 < k) = true := by simpa using hkp
        have hki : (k : Int) < (xs.length : Int) := by omega
        have hkn : (0 : Int) ≤ (k : Int) := by omega
        have hkm : (0 : Int) ≤ (k : Int) - 1 := by omega
        have hkm2 : (k : Int) - 1 < (xs.length : Int) := by omega
        have hkt : ((k : Int) - 1).toNat = k - 1 := by omega
        have hkw : IntKind.i64.wrap ((k : Int) - 1) = (k : Int) - 1 := IntWalk.i64_in _ (by omega)
        have hcw : IntKind.u8.wrap (c0 + 1) = c0 + 1 := by rw [IntKind.wrap_u8']; omega
        by_cases hcb2 : c0 + 1 = b
        · rw [if_pos hcb2] at HS
          have hcb3 : (c0 + 1 == b) = true := by simpa using hcb2
          have HC := hidd hcb2
          clear hcb2
          go_wp2
          go_quiet (fail)
          go_wp2
          have hown' : (wr.drewN nq).ownsRow w1.heap.size 42 2 (.slice (some ⟨g2, 0, none⟩) (init.length + 1) c2) (init.length + 1) (prV (init ++ [(a, c0)])) := hown
          have hcx' : (wr.drewN nq).cell? ⟨g, off + k, none⟩ = some (.int .u8 b) := hcx
          have hb' := bel_drewN hb nq
          have hsz' : w1.heap.size ≤ (wr.drewN nq).heap.size := hsz
          clear hown hcx hb hsz hcy hf5
          generalize wr.drewN nq = wq at *
          have hc5 := hown'.cellAt (init.length * 2 + 1) (by omega)
          rw [prV_lastAt] at hc5
          have hf5 := hown'.frozenAt
          have HSt := hidd (hown'.drew.stored (init.length * 2 + 1) (.int .u8 b))
          have hi1 : IntKind.i64.wrap (init.length : Int) = (init.length : Int) := IntWalk.i64_in _ (by omega)
          have hi2 : (0 : Int) ≤ (init.length : Int) := by omega
          have hi3 : (init.length : Int) < (init.length : Int) + 1 := by omega
          refine wp_region_still_tail 10 (by kernel_rfl) (by kernel_rfl) ?_
          simp only [List.take_succ_cons, List.take_zero, List.drop_succ_cons, List.drop_zero]
          repeat still_step
          refine wpStill_nil ?_
          change wpList _ _ _ _ _ wq.drew
          go_wp2
          obtain ⟨hst1, hst2⟩ := HSt.out
          rw [prV_last] at hst1
          refine ⟨⟨k + 1, by omega, rfl, ?_, (hb'.drew).grown hst2 hsz' (fun j e => by injection e with e; omega)⟩, by simp [intOf]; omega⟩
          rw [HS.out, List.length_append]; exact hst1
        · rw [if_neg hcb2] at HS
          have hcb3 : (c0 + 1 == b) = false := by simpa using hcb2
          clear hcb2
          go_wp2
          go_quiet (fail)
          go_wp2
          clear hcy
          have hown' : (wr.drewN nq).ownsRow w1.heap.size 42 2 (.slice (some ⟨g2, 0, none⟩) (init.length + 1) c2) (init.length + 1) (prV (init ++ [(a, c0)])) := hown
          have hcx' : (wr.drewN nq).cell? ⟨g, off + k, none⟩ = some (.int .u8 b) := hcx
          have hb' := bel_drewN hb nq
          have hsz' : w1.heap.size ≤ (wr.drewN nq).heap.size := hsz
          clear hown hcx hb hsz
          generalize wr.drewN nq = wq at *
          have hlt2 := hown'.lt
          have hne : (.slice (some ⟨g2, 0, none⟩) (init.length + 1) c2 : Value).ownBlock ≠ some g := fun e => by have := (hlt2 _ e).1; omega
          have hgq : g < wq.heap.size := by omega
          have hki : (k : Int) < (xs.length : Int) := by omega
          have hkn : (0 : Int) ≤ (k : Int) := by omega
          go_region_held3 (fun v => v.cell? ⟨g, off + k, none⟩ = some (.int .u8 b)) (first | go_keep | (rw [hgrow.cell_far _ (by simp; omega) (Ne.symm hne)]; assumption)) ((refine step_append_lies _ (by rfl) _ _ _ (by rfl) w1.heap.size 42 i0 _ 2 2 Try.underlying39 hi0 hz0 hz1 hz2 rfl (by omega) (.slice (some ⟨g2, 0, none⟩) (init.length + 1) c2) (init.length + 1) (prV (init ++ [(a, c0)])) (by rfl) ((hown'.alloc _).drew) ⟨wq.heap.size, 0, none⟩ 1 1 [.int .u8 b, .int .u8 b] (by rfl) (by rfl) (cells_new wq #[.int .u8 b, .int .u8 b] 42 _ rfl) (by simp [Value.oneCell']) (by omega) (by first | (simp only [maxLen]; omega) | (simp only [maxLen, List.length_nil]; omega)) (by first | omega | (simp only [List.length_nil]; omega)) (by simp; omega) (wq.heap.size + 1) (by simp) ?_; intro gg cap w2 hown2 hgrow hat hlt3))
          go_wp2
          refine ⟨⟨k + 1, by omega, rfl, ?_, ((hb'.alloc (by omega) _).drew).grown hgrow (by simp; omega) (fun j e => (hlt2 _ e).1)⟩, by simp [intOf]; omega⟩
          rw [HS.out, List.length_append, List.length_append, prV_append, prV_one]; exact hown2
    · go_wp2
      go_ret
      rw [List.take_of_length_le (by omega)] at hown
      rw [HX.out]
      exact ⟨_, rfl, own_base hown hbw.size, hbw.trans (hb.mono hbw.size)⟩

end Go.Proofs.Ytbheccbbkolieaa

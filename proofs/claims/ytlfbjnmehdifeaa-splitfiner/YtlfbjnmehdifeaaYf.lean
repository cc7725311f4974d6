/- The law SplitOrder, by what the calls of split tell. -/
import Derived.Test.YtlfbjnmehdifeaaYe
import Derived.Test.YtlfbjnmehdifeaaXj
import Derived.Test.YtlfbjnmehdifeaaMb
namespace Go.Proofs.Ytlfbjnmehdifeaa
open Go.RowKit

/-- The first k of the sets from the last on, and what each is not. -/
def ysN (ps : List (Nat → Bool)) (k : Nat) : List (Nat → Bool) := (List.range k).map fun i => notB (ps.getD (ps.length - 1 - i) noB)
theorem ysN_len (ps : List (Nat → Bool)) (k : Nat) : (ysN ps k).length = k := by simp [ysN]
theorem ysN_snoc (ps : List (Nat → Bool)) (k : Nat) : ysN ps (k + 1) = ysN ps k ++ [notB (ps.getD (ps.length - 1 - k) noB)] := by
  unfold ysN
  rw [List.range_succ, List.map_append]
  rfl
theorem ysN_like (ps : List (Nat → Bool)) : likeB (ysN ps ps.length) = likeB ps := by
  funext a b
  unfold likeB
  rw [Bool.eq_iff_iff, List.all_eq_true, List.all_eq_true]
  constructor
  · intro h p hp
    obtain ⟨j, hj, rfl⟩ := List.getElem_of_mem hp
    have := h (notB (ps.getD (ps.length - 1 - (ps.length - 1 - j)) noB)) (List.mem_map.2 ⟨ps.length - 1 - j, by simp; omega, rfl⟩)
    rw [show ps.length - 1 - (ps.length - 1 - j) = j from by omega, List.getD_eq_getElem?_getD, List.getElem?_eq_getElem hj] at this
    simpa [notB] using this
  · intro h q hq
    obtain ⟨i, hi, rfl⟩ := List.mem_map.1 hq
    rw [List.mem_range] at hi
    have hj : ps.length - 1 - i < ps.length := by omega
    rw [List.getD_eq_getElem?_getD, List.getElem?_eq_getElem hj]
    have := h _ (List.getElem_mem hj)
    simpa [notB] using this
theorem like_both (ps : List (Nat → Bool)) : likeB (ysN ps ps.length ++ ps) = likeB ps := by
  funext a b
  have h := congrFun (congrFun (ysN_like ps) a) b
  unfold likeB at h ⊢
  rw [List.all_append, h, Bool.and_self]

theorem sts_cells {w : World} {B : Nat} {g off : Nat} {ps : List (Nat → Bool)} (h : Sts w B (some ⟨g, off, none⟩) ps) (hne : ps ≠ []) : ∀ j u, (sws ps)[j]? = some u → w.cell? ((⟨g, off, none⟩ : Addr).add j) = some u := by
  intro j u hj
  obtain ⟨g', off', e, hg, hc⟩ := h hne
  cases e
  have hl : j < (sws ps).length := by
    rcases Nat.lt_or_ge j (sws ps).length with hl | hl
    · exact hl
    · rw [List.getElem?_eq_none hl] at hj; cases hj
  rw [sws_len] at hl
  have e1 := sws_at ps (j / 4) (j % 4) (by omega) (by omega)
  rw [show j / 4 * 4 + j % 4 = j from by omega] at e1
  rw [hj] at e1
  cases e1
  have := hc (j / 4) (by omega) (j % 4) (by omega)
  rw [show off + j / 4 * 4 + j % 4 = off + j from by omega] at this
  rw [Addr.add_mid]
  exact this
theorem sws_one (ps : List (Nat → Bool)) : ∀ u ∈ sws ps, u.oneCell' = true := by
  intro u hu
  unfold sws at hu
  obtain ⟨p, _, hp⟩ := List.mem_flatMap.1 hu
  simp [sw] at hp
  rcases hp with rfl | rfl | rfl | rfl <;> rfl

theorem wpList_on {P : Program} {ops : Array Oper} {rest : List Oper} {o : Oper} {a : Act} {w : World} {Q : Exit → Act → World → Prop} (hw : Region.wanted o (yielded ops a.tmps) = true)
    (h : ∀ K : Act → World → Prop, (∀ a w, wpList P ops Q rest a w → K a w) → o.wp P a w K Q) : wpList P ops Q (o :: rest) a w :=
  wpList_step fun K hK => by rw [if_pos hw]; exact h K hK

/-- Nothing appended. -/
theorem run_append_nothing {P : Program} (w : World) (t ty e : TypeId) (i : TypeInfo) (ht : P.underlying t = some (.slice e)) (hi : P.info? e = some i) (B : Option Addr) (n k : Nat) (hB : B = none → n = 0 ∧ k = 0) (hn : n ≤ k) (A : Option Addr) (c : Nat) :
    (Builtin.append_ #[t, t] ty #[.slice B n k, .slice A 0 c]).run P w = .ok (.slice B n k) w := by
  cases B with
  | none =>
    obtain ⟨rfl, rfl⟩ := hB rfl
    cases A <;> simp [Builtin.append_, run_underlying ht, sizeOf, typeInfo, hi, Builtin.lenOf, Builtin.firstCells, loadCells, loadCellsFrom]
  | some b =>
    cases A <;> simp [Builtin.append_, run_underlying ht, sizeOf, typeInfo, hi, Builtin.lenOf, Builtin.firstCells, loadCells, loadCellsFrom, hn, storeCells]

/-- Sets appended to sets that the call holds. -/
theorem wp_app_sets {o : Oper} {a : Act} {v : World} {K : Act → World → Prop} {Q : Exit → Act → World → Prop} (s t : Nat)
    (ho : o.op = .call { callee := .builtin .append, args := #[.tmp s, .tmp t], argTypes := #[22, 22] })
    (base : Nat) (bk : Value) (ys ps : List (Nat → Bool)) (A : Option Addr) (c : Nat) (hown : v.ownsRow base 33 4 bk ys.length (sws ys)) (e0 : a.tmps.getD s undef = bk) (e1 : a.tmps.getD t undef = .slice A ps.length c)
    (hP : Sts v v.heap.size A ps) (hl : ys.length + ps.length ≤ 1000000) (hbase : base ≤ v.heap.size)
    (h : ∀ v' u', u'.ownsRow base 33 4 v' (ys ++ ps).length (sws (ys ++ ps)) → v.grownBy u' bk.ownBlock → K (a.put o.dst v') u') : o.wp Try.prog a v K Q := by
  obtain ⟨i0, hi0, hz0, hz1, hz2⟩ := info_parts set_info
  by_cases hx : ps = []
  · subst hx
    rw [List.append_nil] at h
    obtain ⟨B, n, k, rfl, hB, hn⟩ : ∃ B n k, bk = .slice B n k ∧ (B = none → n = 0 ∧ k = 0) ∧ n ≤ k := by
      rcases hown.2 with ⟨hv, hn⟩ | ⟨g, cap, cur, hv, hg, hh, h1, h2, h3, h4⟩
      · exact ⟨none, 0, 0, hv, fun _ => ⟨rfl, rfl⟩, Nat.le_refl _⟩
      · exact ⟨_, _, cap, hv, nofun, h1⟩
    have hr := run_append_nothing (P := Try.prog) v 22 o.type 33 i0 Try.underlying22 hi0 B n k hB hn A c
    unfold Oper.wp execOp
    have e0' : a.eval (.tmp s) = .slice B n k := e0
    have e1' : a.eval (.tmp t) = .slice A 0 c := e1
    simp only [ho, resolve, invoke, builtin, Sem.run_bind, Sem.run_pure, Result.andThen_ok, List.map_toArray, List.map_cons, List.map_nil, e0', e1', hr]
    exact h _ _ hown ⟨rfl, rfl, rfl, Nat.le_refl _, fun _ _ _ => rfl⟩
  · obtain ⟨g, off, rfl, hg, hc⟩ := hP hx
    refine wp_append_old v (.tmp s) (.tmp t) 22 ho base 33 i0 _ 4 32 Try.underlying22 hi0 hz0 hz1 hz2 rfl (by omega) bk ys.length (sws ys) e0 hown ⟨g, off, none⟩ ps.length c (sws ps) e1 (sws_len ps) (sts_cells hP hx) (sws_one ps) (by simp only [maxLen]; omega) (by omega) hbase ?_
    intro v' w' h2 _ h4
    refine h v' w' ?_ h4
    rw [List.length_append, show sws (ys ++ ps) = sws ys ++ sws ps from by simp [sws]]
    exact h2

set_option maxRecDepth 100000 in
set_option maxHeartbeats 4000000 in
theorem order2_core (A : Option Addr) (c n : Nat) (ps : List (Nat → Bool)) (w : World) (hT : Sts w w.heap.size A ps) (lc : n ≤ c) (mc : n ≤ maxLen) (hl : ps.length ≤ 20) (el : Hid (ps.length = min n 20)) :
    Calls Try.prog 7 #[.slice A n c] w fun e w' => e = .returned (.bool true) ∧ Below w.heap.size w w' := by
  have hg := guardSplit
  obtain ⟨i0, hi0, hz0, hz1, hz2⟩ := info_parts set_info
  go_enter Try.func7, Try.ntmps7
  go_wp2_with fail
  refine (shown2_any of2_any _).mono ?_
  rintro e w1 ⟨rfl, hb1⟩
  go_wp2_with fail
  refine (few2_any A n c _ mc lc).mono ?_
  rintro e w2 ⟨rfl, rfl⟩
  rw [← el.out]
  clear el
  go_wp2
  go_loopw [5, 12] (fun l i wr => ∃ k : Nat, k ≤ ps.length ∧ i = .int .i64 k ∧ wr.ownsRow w.heap.size 33 4 l k (sws (ysN ps k)) ∧ Below w.heap.size w wr) (fun _ i _ => ps.length - (intOf i).toNat)
  case atStart => exact ⟨0, Nat.zero_le _, rfl, World.ownsRow_nil _ _ _ _, hb1⟩
  case round =>
    obtain ⟨k, hk0, rfl, hown, hb⟩ := hrel
    have hbs := hb.size
    by_cases hlt : k < ps.length
    · have HS := hidd (ysN_snoc ps k)
      obtain ⟨g, off, rfl, hg2, x0, x1, x2, x3⟩ := (hT.below hb).at_ (k := ps.length - 1 - k) (by omega)
      generalize ps.getD (ps.length - 1 - k) noB = q at *
      have hix : ((ps.length : Int) - 1 - (k : Int)).toNat = ps.length - 1 - k := by omega
      have hix2 : (ps.length : Int) - 1 - (k : Int) < (ps.length : Int) := by omega
      have hix3 : 0 ≤ (ps.length : Int) - 1 - (k : Int) := by omega
      go_wp2_with fail
      refine (rnot_any q _).mono ?_
      rintro e w1 ⟨rfl, hb1⟩
      have hown1 := own_below hown hb1 (Nat.le_refl _)
      have hbb := hb.trans (hb1.mono hb.size)
      have hz := hbb.size
      clear x0 x1 x2 x3 hown hb1
      go_wp2_with (at_builtin; refine wpList_append_own _ rfl (.tmp 15) (.tmp 25) 22 rfl w.heap.size 33 i0 (.agg #[.int .u64 0, .int .u64 0, .int .u64 0, .int .u64 0]) 4 32 Try.underlying22 hi0 hz0 hz1 hz2 rfl (by omega) _ _ _ rfl (hown1.alloc _) ⟨w1.heap.size, 0, none⟩ 1 1 (sw (notB q)) rfl rfl (cells_new _ _ _ _ rfl) (by simp [Value.oneCell', sw]) (by simp only [maxLen]; omega) (by omega) (by simp; omega) ?_; intro v2 w2 hown2 hg2 _)
      change (w1.alloc _).grownBy w2 u5.ownBlock at hg2
      have hlt2 := hown1.lt
      refine ⟨⟨k + 1, by omega, rfl, ?_, (hbb.alloc (by omega) _).grown hg2 (by simp; omega) (fun j e => ?_)⟩, by simp [intOf]; omega⟩
      · rw [HS.out, ← sws_snoc]; exact hown2
      · have := (hlt2 _ e).1; omega
    · have hk : k = ps.length := by omega
      subst hk
      have hown' : wr.ownsRow w.heap.size 33 4 u5 (ysN ps ps.length).length (sws (ysN ps ps.length)) := by rw [ysN_len]; exact hown
      obtain ⟨A', c', hu5, hY⟩ := Sts.of_own hown'
      have HL := hidd (ysN_like ps)
      have HB := hidd (like_both ps)
      have HYL := hidd (ysN_len ps ps.length)
      generalize hys : ysN ps ps.length = ys at *
      have hq := hidd (split_eql (fun b => (clsOf (likeB ps) b : Int)) ((frsts (likeB ps) 256).length : Int))
      clear hown'
      go_wp2_with fail
      refine (of2_any A c ps _ ((hT.below hb).more hb.size) (by omega)).mono ?_
      rintro e w2 ⟨rfl, hb2⟩
      have D2 := hb.trans (hb2.mono hb.size)
      have hown2 := own_below hown hb2 (Nat.le_refl _)
      have hY2 := (hY.below hb2).more hb2.size
      clear hb2
      subst hu5
      go_wp2_with fail
      refine (of2_any A' c' ys _ hY2 (by rw [HYL.out]; omega)).mono ?_
      rintro e w3 ⟨rfl, hb3⟩
      rw [HL.out]
      have D3 := D2.trans (hb3.mono D2.size)
      have hown3 := own_below hown2 hb3 (Nat.le_refl _)
      clear hb3 D2 hown2 hY2
      generalize hF : (fun b => (clsOf (likeB ps) b : Int)) = F at *
      generalize hN : ((frsts (likeB ps) 256).length : Int) = N at *
      have q := hq.out
      rw [← HYL.out] at hown3
      have hlt3 := hown3.lt
      have hz := D3.size
      go_wp2_with (at_builtin; refine wpList_on rfl fun K hK => ?_; refine wp_app_sets 37 38 rfl w.heap.size _ ys ps A c hown3 rfl rfl ((hT.below D3).more D3.size) (by rw [HYL.out]; omega) hz fun v4 w4 h4 g4 => hK _ _ ?_)
      have D4 := D3.grown g4 hz (fun j e => (hlt3 _ e).1)
      clear D3 hown3 hown g4
      obtain ⟨A4, c4, hu4, hY4⟩ := Sts.of_own h4
      subst hu4
      refine (of2_any A4 c4 (ys ++ ps) _ hY4 (by rw [List.length_append, HYL.out]; omega)).mono ?_
      rintro e w5 ⟨rfl, hb5⟩
      rw [HB.out, hF, hN]
      have D5 := D4.trans (hb5.mono D4.size)
      clear D4 h4 hY4 hb5
      go_wp2_with fail
      refine (of2_any A c ps _ ((hT.below D5).more D5.size) (by omega)).mono ?_
      rintro e w6 ⟨rfl, hb6⟩
      rw [hF, hN]
      have D6 := D5.trans (hb6.mono D5.size)
      clear D5 hb6
      go_wp2
      go_ret
      exact ⟨rfl, D6⟩

theorem order2_any (A : Option Addr) (c : Nat) (l : List (Nat → Bool)) (w : World) (hS : Sts w w.heap.size A l) (lc : l.length ≤ c) (mc : c ≤ maxLen) :
    Calls Try.prog 7 #[.slice A l.length c] w fun e w' => e = .returned (.bool true) ∧ Below w.heap.size w w' := by
  have el : (l.take 20).length = min l.length 20 := by rw [List.length_take]; omega
  exact order2_core A c l.length (l.take 20) w (hS.cut 20) lc (by omega) (by omega) el

end Go.Proofs.Ytlfbjnmehdifeaa

/- The law SplitWhole, by what the calls of split tell. -/
import Derived.Test.YtlfbjnmehdifeaaYf
import Derived.Test.YtlfbjnmehdifeaaXp
namespace Go.Proofs.Ytlfbjnmehdifeaa
open Go.RowKit

/-- How many bytes the classes below M have together, of those below n. -/
def cntB (f : Nat → Int) (n : Nat) (k : Nat) : Nat := (lstB (clsB f (k : Int)) n).length
def sumTo (f : Nat → Int) (n : Nat) : Nat → Nat
  | 0 => 0
  | k + 1 => sumTo f n k + cntB f n k
theorem cnt_step (f : Nat → Int) (n k : Nat) : cntB f (n + 1) k = cntB f n k + if f n = (k : Int) then 1 else 0 := by
  unfold cntB
  by_cases h : f n = (k : Int)
  · rw [lst_yes _ _ (by simp [clsB, h]), List.length_append, if_pos h]; rfl
  · rw [lst_no _ _ (by simp [clsB, h]), if_neg h]; rfl
theorem sum_step (f : Nat → Int) (n M : Nat) (h0 : 0 ≤ f n) : sumTo f (n + 1) M = sumTo f n M + if f n < (M : Int) then 1 else 0 := by
  induction M with
  | zero => simp [sumTo]; omega
  | succ M ih =>
    unfold sumTo
    rw [ih, cnt_step]
    by_cases h1 : f n < (M : Int)
    · rw [if_pos h1, if_neg (by omega), if_pos (by omega)]; omega
    · rw [if_neg h1]
      by_cases h2 : f n = (M : Int)
      · rw [if_pos h2, if_pos (by omega)]; omega
      · rw [if_neg h2, if_neg (by omega)]; omega
theorem sum_zero (f : Nat → Int) (M : Nat) : sumTo f 0 M = 0 := by
  induction M with
  | zero => rfl
  | succ M ih => unfold sumTo; rw [ih]; simp [cntB, lstB]
theorem sum_all (f : Nat → Int) (M n : Nat) (h : ∀ b, b < n → 0 ≤ f b ∧ f b < (M : Int)) : sumTo f n M = n := by
  induction n with
  | zero => exact sum_zero f M
  | succ n ih =>
    rw [sum_step f n M (h n (by omega)).1, ih (fun b hb => h b (by omega)), if_pos (h n (by omega)).2]
theorem sum_le (f : Nat → Int) (n M : Nat) : sumTo f n M ≤ M * n := by
  induction M with
  | zero => simp [sumTo]
  | succ M ih =>
    unfold sumTo
    have : cntB f n M ≤ n := lst_len _ _
    rw [Nat.succ_mul]
    omega

theorem lst_congr {p q : Nat → Bool} {n : Nat} (h : ∀ b, b < n → p b = q b) : lstB p n = lstB q n := by
  unfold lstB
  congr 1
  apply List.filter_congr
  intro x hx
  exact h x (by simpa using hx)
theorem lst_none {p : Nat → Bool} {n : Nat} (h : ∀ b, b < n → p b = false) : lstB p n = [] := by
  unfold lstB
  rw [List.map_eq_nil_iff, List.filter_eq_nil_iff]
  intro x hx
  rw [h x (by simpa using hx)]
  simp
theorem lst_some {p : Nat → Bool} {n b : Nat} (hb : b < n) (h : p b = true) : (lstB p n).length ≠ 0 := by
  unfold lstB
  rw [List.length_map]
  intro e
  have := List.eq_nil_of_length_eq_zero e
  rw [List.filter_eq_nil_iff] at this
  exact this b (by simpa using hb) h

/-- A class is within a set, or apart from it. -/
theorem cls_whole (ps : List (Nat → Bool)) (p : Nat → Bool) (hp : p ∈ ps) (k : Nat) :
    (lstB (everyB [p, clsB (fun b => (clsOf (likeB ps) b : Int)) (k : Int)]) 256).length = 0 ∨ (lstB (everyB [p, clsB (fun b => (clsOf (likeB ps) b : Int)) (k : Int)]) 256).length = cntB (fun b => (clsOf (likeB ps) b : Int)) 256 k := by
  have key : ∀ a b, clsOf (likeB ps) a = k → clsOf (likeB ps) b = k → p a = p b := by
    intro a b ha hb
    have := (cls_iff (like_eqv ps) a b).1 (by rw [ha, hb])
    unfold likeB at this
    rw [List.all_eq_true] at this
    simpa using this p hp
  by_cases h : ∃ a, clsOf (likeB ps) a = k ∧ p a = true
  · obtain ⟨a, ha, hpa⟩ := h
    right
    unfold cntB
    congr 1
    apply lst_congr
    intro b _
    simp only [everyB, List.all_cons, List.all_nil, Bool.and_true, clsB]
    by_cases e : (clsOf (likeB ps) b : Int) = (k : Int)
    · rw [← key a b ha (by omega), hpa]; simp
    · simp [e]
  · left
    rw [lst_none]
    · rfl
    · intro b _
      simp only [everyB, List.all_cons, List.all_nil, Bool.and_true, clsB]
      by_cases e : (clsOf (likeB ps) b : Int) = (k : Int)
      · have : p b = false := by
          cases hb : p b
          · rfl
          · exact absurd ⟨b, by omega, hb⟩ h
        simp [this]
      · simp [e]

def clsL (F : Nat → Int) (k : Nat) : List (Nat → Bool) := (List.range k).map fun j : Nat => clsB F (j : Int)
theorem clsL_len (F : Nat → Int) (k : Nat) : (clsL F k).length = k := by simp [clsL]
theorem clsL_snoc (F : Nat → Int) (k : Nat) : clsL F (k + 1) = clsL F k ++ [clsB F (k : Int)] := by
  unfold clsL; rw [List.range_succ, List.map_append]; rfl
theorem clsL_any (F : Nat → Int) (M : Nat) (h : ∀ b, b < 256 → 0 ≤ F b ∧ F b < (M : Int)) : eqB (anyB (clsL F M)) (rngB 0 256) = true := by
  apply eqB_true
  intro b hb
  have h1 : rngB 0 256 b = true := by unfold rngB; simp; omega
  rw [h1]
  unfold anyB
  rw [List.any_eq_true]
  have := h b hb
  exact ⟨clsB F ((F b).toNat : Int), List.mem_map.2 ⟨(F b).toNat, by simp; omega, rfl⟩, by simp [clsB]; omega⟩

set_option maxRecDepth 100000 in
set_option maxHeartbeats 8000000 in
theorem whole2_core (A : Option Addr) (c n : Nat) (ps : List (Nat → Bool)) (w : World) (hT : Sts w w.heap.size A ps) (lc : n ≤ c) (mc : n ≤ maxLen) (hl : ps.length ≤ 20) (el : Hid (ps.length = min n 20)) :
    Calls Try.prog 6 #[.slice A n c] w fun e w' => e = .returned (.bool true) ∧ Below w.heap.size w w' := by
  obtain ⟨i0, hi0, hz0, hz1, hz2⟩ := info_parts set_info
  have gd := guard27
  have f7 : ∀ k, k < 256 → 0 ≤ (fun b => (clsOf (likeB ps) b : Int)) k ∧ (fun b => (clsOf (likeB ps) b : Int)) k ≤ 255 := cls_byte (likeB ps)
  have f8 : ∀ b, b < 256 → 0 ≤ (fun b => (clsOf (likeB ps) b : Int)) b ∧ (fun b => (clsOf (likeB ps) b : Int)) b < ((frsts (likeB ps) 256).length : Int) := fun b hb => by
    have := (cls_like (like_eqv ps) b 256 hb).1
    show 0 ≤ (clsOf (likeB ps) b : Int) ∧ (clsOf (likeB ps) b : Int) < _
    omega
  have q0 : ∀ k, k < (frsts (likeB ps) 256).length → cntB (fun b => (clsOf (likeB ps) b : Int)) 256 k ≠ 0 := fun k hk => by
    have h1 := cls_first (likeB ps) 256 k hk
    have h2 : (frsts (likeB ps) 256).getD k 0 ∈ frsts (likeB ps) 256 := by rw [List.getD_eq_getElem?_getD, List.getElem?_eq_getElem hk]; exact List.getElem_mem hk
    exact lst_some (frsts_lt _ _ _ h2) (decide_eq_true (congrArg (fun x : Nat => (x : Int)) h1))
  have q1 : ∀ (k : Nat) i, i < ps.length → (lstB (everyB [ps.getD i noB, clsB (fun b => (clsOf (likeB ps) b : Int)) (k : Int)]) 256).length = 0 ∨ (lstB (everyB [ps.getD i noB, clsB (fun b => (clsOf (likeB ps) b : Int)) (k : Int)]) 256).length = cntB (fun b => (clsOf (likeB ps) b : Int)) 256 k := fun k i hi => by
    apply cls_whole
    rw [List.getD_eq_getElem?_getD, List.getElem?_eq_getElem hi]
    exact List.getElem_mem hi
  have f9 := frsts_len (likeB ps) 256
  have hO1 := fun w h => of2_any A c ps w h (by omega)
  generalize (fun b => (clsOf (likeB ps) b : Int)) = F at *
  generalize (frsts (likeB ps) 256).length = M at *
  have q2 := hidd (sum_all F M 256 f8)
  have q3 := hidd (clsL_any F M f8)
  have f7' := hidd f7
  have q0' := hidd q0
  have q1' := hidd q1
  clear f7 f8 q0 q1
  go_enter Try.func6, Try.ntmps6
  go_wp2_with fail
  refine (shown2_any of2_any _).mono ?_
  rintro e w1 ⟨rfl, hb1⟩
  go_wp2_with fail
  refine (few2_any A n c _ mc lc).mono ?_
  rintro e w2 ⟨rfl, rfl⟩
  rw [← el.out]
  go_wp2_with fail
  refine (hO1 _ ((hT.below hb1).more hb1.size)).mono ?_
  rintro e w2 ⟨rfl, hb2⟩
  have D2 := hb1.trans (hb2.mono hb1.size)
  have hz := split_zero
  have Z := RowS.new w2 (fun _ => 0) 0
  have D3 := bel_setRow (D2.alloc D2.size (.cells (spC (fun _ => 0) 0) 26)) w2.heap.size (spC F M) D2.size
  have R := Z.row F (M : Int)
  have hgs := D2.size
  have hmn := R.many
  clear hb1 hb2 D2
  go_wp2_with (refine wpList_store_row rfl 26 (.tmp 4) (.tmp 16) rfl w2.heap.size (spC F M) rfl rfl 26 (spC (fun _ => 0) 0) Z (split_info _ _) (by rw [spC_size, spC_size]) (spC_one _ _) ?_)
  clear Z hmn
  generalize (w2.alloc (.cells (spC (fun _ => 0) 0) 26)).setRow w2.heap.size (spC F M) = w3 at *
  generalize w2.heap.size = gs at *
  go_loopw [5, 6, 19] (fun l s i wr => ∃ k : Nat, k ≤ M ∧ i = .int .i64 k ∧ s = .int .i64 (sumTo F 256 k : Nat) ∧ wr.ownsRow (gs + 1) 33 4 l k (sws (clsL F k)) ∧ RowS wr gs F M ∧ Below w.heap.size w wr) (fun _ _ i _ => M - (intOf i).toNat)
  case atStart => exact ⟨0, Nat.zero_le _, rfl, rfl, World.ownsRow_nil _ _ _ _, R, D3⟩
  case round =>
    obtain ⟨k, hk0, rfl, rfl, hown, R0, hb⟩ := hrel
    have hgl := R0.lt
    by_cases hlt : k < M
    · have hc0 := q0'.out k hlt
      have hcl : cntB F 256 k ≤ 256 := lst_len _ _
      have hsl := sum_le F 256 k
      have HSm : Hid (sumTo F 256 (k + 1) = sumTo F 256 k + cntB F 256 k) := rfl
      have HCn : Hid (cntB F 256 k = (lstB (clsB F (k : Int)) 256).length) := rfl
      have HQ := hidd (q1'.out k)
      have HSn := hidd (clsL_snoc F k)
      generalize sumTo F 256 k = sm at *
      generalize hcn : cntB F 256 k = cn at *
      go_wp2_with (refine wpList_load_row rfl 26 (.tmp 4) rfl gs rfl 26 (spC F M) (0, 0) _ R0 Try.underlying26 rfl (split_info _ _) ?_)
      refine (set_any F M k _ f7'.out).mono ?_
      rintro e w4 ⟨rfl, hb4⟩
      have own4 := own_below hown hb4 (Nat.le_refl _)
      have R4 := R0.below hb4 R0.lt
      have D4 := hb.trans (hb4.mono hb.size)
      have h4s := hb4.size
      clear hown R0 hb hb4 R D3
      go_wp2_with fail
      generalize hQk : clsB F (k : Int) = Qk at *
      have B5 := Row4.new w4 Qk
      have own5 := own4.alloc (.cells (#[.int .u64 (W (Qk) 0), .int .u64 (W (Qk) 1), .int .u64 (W (Qk) 2), .int .u64 (W (Qk) 3)]) 33)
      have R5 := R4.alloc (.cells (#[.int .u64 (W (Qk) 0), .int .u64 (W (Qk) 1), .int .u64 (W (Qk) 2), .int .u64 (W (Qk) 3)]) 33)
      have D5 := D4.alloc D4.size (.cells (#[.int .u64 (W (Qk) 0), .int .u64 (W (Qk) 1), .int .u64 (W (Qk) 2), .int .u64 (W (Qk) 3)]) 33)
      have hlt4 := own4.lt
      have hgl4 := R4.lt
      clear own4 R4 D4
      generalize w4.alloc (.cells (#[.int .u64 (W (Qk) 0), .int .u64 (W (Qk) 1), .int .u64 (W (Qk) 2), .int .u64 (W (Qk) 3)]) 33) = w5 at *
      generalize w4.heap.size = gc at *
      refine (rlist_any Qk _).mono ?_
      rintro e w6 ⟨v6, rfl, ho6, hb6⟩
      have own6 := own_below own5 hb6 (Nat.le_refl _)
      have R6 := R5.below hb6 R5.lt
      have B6 := B5.below hb6 B5.lt
      have D6 := D5.trans (hb6.mono D5.size)
      obtain ⟨A6, c6, hu6, _⟩ := Bts.of_own ho6 (lst_byte _)
      subst hu6
      rw [← HCn.out]
      have hbl6 := B6.lt
      clear own5 R5 B5 D5 ho6 hb6
      have hcn0 : ¬ (cn : Int) = 0 := by omega
      have hkk : decide ((256 : Int) < (k : Int)) = false := by simp; omega
      obtain ⟨c0, c1, c2, c3⟩ := B6.cells
      go_wp2_with (at_builtin; refine wpList_append_own _ rfl (.tmp 37) (.tmp 39) 22 rfl (gs + 1) 33 i0 (.agg #[.int .u64 0, .int .u64 0, .int .u64 0, .int .u64 0]) 4 32 Try.underlying22 hi0 hz0 hz1 hz2 rfl (by omega) _ _ _ rfl (own6.alloc _) ⟨w6.heap.size, 0, none⟩ 1 1 (sw Qk) rfl rfl (cells_new _ _ _ _ rfl) (by simp [Value.oneCell', sw]) (by simp only [maxLen]; omega) (by omega) (by simp; omega) ?_; intro v7 w7 own7 hg7 _)
      change (w6.alloc _).grownBy w7 u5.ownBlock at hg7
      have R7 := (R6.alloc _).grown hg7 (fun e => by have := (hlt4 _ e.symm).1; omega)
      have B7 := (B6.alloc _).grown hg7 (fun e => by have := (hlt4 _ e.symm).2; omega)
      have D7 := (D6.alloc D6.size _).grown hg7 (by simp; exact Nat.le_succ_of_le D6.size) (fun j e => by have := (hlt4 _ e).1; omega)
      rw [sws_snoc, ← HSn.out] at own7
      clear own6 R6 B6 D6 hg7 hlt4 c0 c1 c2 c3 hbl6
      refine (few2_any A n c _ mc lc).mono ?_
      rintro e w8 ⟨rfl, rfl⟩
      rw [← el.out]
      go_wp2
      go_loopw [44] (fun i wi => ∃ j : Nat, j ≤ ps.length ∧ i = .int .i64 j ∧ wi.ownsRow (gs + 1) 33 4 v7 (k + 1) (sws (clsL F (k + 1))) ∧ RowS wi gs F M ∧ Row4 wi gc Qk ∧ Below w.heap.size w wi) (fun i _ => ps.length - (intOf i).toNat)
      case atStart => exact ⟨0, Nat.zero_le _, rfl, own7, R7, B7, D7⟩
      case round =>
        clear own7 R7 B7 D7
        obtain ⟨j, hj0, rfl, own, R, B, hb⟩ := hrel
        by_cases hj : j < ps.length
        · obtain ⟨g, off, rfl, hg2, x0, x1, x2, x3⟩ := (hT.below hb).at_ hj
          have HQj := HQ.out j hj
          generalize ps.getD j noB = p at *
          have B1 := B.alloc (.cells (#[.int .u64 (W (p) 0), .int .u64 (W (p) 1), .int .u64 (W (p) 2), .int .u64 (W (p) 3)]) 33)
          have hbl := B.lt
          have own1 := own.alloc (.cells (#[.int .u64 (W (p) 0), .int .u64 (W (p) 1), .int .u64 (W (p) 2), .int .u64 (W (p) 3)]) 33)
          have R1 := R.alloc (.cells (#[.int .u64 (W (p) 0), .int .u64 (W (p) 1), .int .u64 (W (p) 2), .int .u64 (W (p) 3)]) 33)
          have D1 := hb.alloc hb.size (.cells (#[.int .u64 (W (p) 0), .int .u64 (W (p) 1), .int .u64 (W (p) 2), .int .u64 (W (p) 3)]) 33)
          have hgw : gc ≠ wr.heap.size := by omega
          obtain ⟨c0, c1, c2, c3⟩ := B1.cells
          have HQj' := hidd HQj
          have hea : (wr.alloc (.cells (#[.int .u64 (W (p) 0), .int .u64 (W (p) 1), .int .u64 (W (p) 2), .int .u64 (W (p) 3)]) 33)).heap.size = wr.heap.size + 1 := by simp
          clear HQj own R B hb
          go_wp2_with fail
          rw [← hea]
          generalize wr.alloc (.cells (#[.int .u64 (W (p) 0), .int .u64 (W (p) 1), .int .u64 (W (p) 2), .int .u64 (W (p) 3)]) 33) = wa at *
          refine (rand_any _ 2 [p, Qk] _ (sts2 p Qk wa) (by simp)).mono ?_
          rintro e w9 ⟨rfl, hb9⟩
          have hb9 := bel1 hb9
          have own2 := own_below own1 hb9 (Nat.le_refl _)
          have R2 := R1.below hb9 R1.lt
          have B2 := B1.below hb9 B1.lt
          have D2 := D1.trans (hb9.mono D1.size)
          clear own1 R1 B1 D1 hb9 c0 c1 c2 c3
          go_wp2_with fail
          refine (rlist_any (everyB [p, Qk]) _).mono ?_
          rintro e wb ⟨vb, rfl, hob, hbb⟩
          have own3 := own_below own2 hbb (Nat.le_refl _)
          have R3 := R2.below hbb R2.lt
          have B3 := B2.below hbb B2.lt
          have D3 := D2.trans (hbb.mono D2.size)
          obtain ⟨Ab, cb, hub, _⟩ := Bts.of_own hob (lst_byte _)
          subst hub
          have hmm := lst_len (everyB [p, Qk]) 256
          clear own2 R2 B2 D2 hob hbb
          generalize (lstB (everyB [p, Qk]) 256).length = mm at *
          rcases HQj'.out with h | h
          · subst h
            go_wp2
            exact ⟨⟨j + 1, by omega, rfl, own3, R3, B3, D3⟩, by simp [intOf]; omega⟩
          · subst h
            go_wp2
            exact ⟨⟨j + 1, by omega, rfl, own3, R3, B3, D3⟩, by simp [intOf]; omega⟩
        · have hj2 : j = ps.length := by omega
          subst hj2
          go_wp2
          exact ⟨⟨k + 1, by omega, rfl, by rw [HSm.out, Int.natCast_add], own, R, hb⟩, by simp [intOf]; omega⟩
    · have hk2 : k = M := by omega
      subst hk2
      have hown' : wr.ownsRow (gs + 1) 33 4 u5 (clsL F k).length (sws (clsL F k)) := by rw [clsL_len]; exact hown
      obtain ⟨A', c', hu5, hY⟩ := Sts.of_own hown'
      have hcl : (clsL F k).length ≤ 1000000 := by rw [clsL_len]; omega
      rw [q2.out]
      clear hown hown' R D3 R0
      generalize clsL F k = qs at *
      subst hu5
      go_wp2_with fail
      refine (ror_any A' c' qs _ hY hcl).mono ?_
      rintro e w4 ⟨rfl, hb4⟩
      have D4 := hb.trans (hb4.mono hb.size)
      clear hb hb4 hY
      go_wp2_with fail
      refine (rrange_any 0 255 _ (by omega) (by omega) (by omega) (by omega)).mono ?_
      rintro e w5 ⟨rfl, hb5⟩
      have D5 := D4.trans (hb5.mono D4.size)
      clear D4 hb5
      have q := set_eql (anyB qs) (rngB 0 256)
      rw [q3.out] at q
      rw [show (255 : Int) + 1 = 256 from rfl]
      generalize rngB 0 256 = rr at *
      go_wp2
      go_ret
      exact ⟨rfl, D5⟩

theorem whole2_any (A : Option Addr) (c : Nat) (l : List (Nat → Bool)) (w : World) (hS : Sts w w.heap.size A l) (lc : l.length ≤ c) (mc : c ≤ maxLen) :
    Calls Try.prog 6 #[.slice A l.length c] w fun e w' => e = .returned (.bool true) ∧ Below w.heap.size w w' := by
  have el : (l.take 20).length = min l.length 20 := by rw [List.length_take]; omega
  exact whole2_core A c l.length (l.take 20) w (hS.cut 20) lc (by omega) (by omega) el

end Go.Proofs.Ytlfbjnmehdifeaa

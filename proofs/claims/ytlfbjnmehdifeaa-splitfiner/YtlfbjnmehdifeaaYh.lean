/- What SplitFiner says, in numbers: more sets make no fewer classes, and at most twice as many. No program. -/
import Derived.Test.YtlfbjnmehdifeaaYg
import Derived.Test.YtlfbjnmehdifeaaRk
namespace Go.Proofs.Ytlfbjnmehdifeaa
open Go.RowKit

theorem new_iff {L : Nat → Nat → Bool} (E : Eqv L) (n : Nat) : clsOf L n = (frsts L n).length ↔ ∀ a, a < n → L a n = false := by
  constructor
  · intro h a ha
    cases hL : L a n
    · rfl
    · have h1 := (cls_iff E a n).2 hL
      have h2 := (cls_like E a n ha).1
      omega
  · intro h
    apply cls_none
    intro j hj
    have hm : (frsts L n).getD j 0 ∈ frsts L n := by
      rw [List.getD_eq_getElem?_getD, List.getElem?_eq_getElem hj]; exact List.getElem_mem hj
    exact h _ (frsts_lt _ _ _ hm)
/-- Fewer are alike: no fewer classes. -/
theorem finer_le {L L' : Nat → Nat → Bool} (E : Eqv L) (E' : Eqv L') (h : ∀ a b, L' a b = true → L a b = true) (n : Nat) : (frsts L n).length ≤ (frsts L' n).length := by
  induction n with
  | zero => simp [frsts]
  | succ n ih =>
    rcases frsts_step L n with ⟨_, h1⟩ | ⟨h0, h1⟩
    · rw [h1]
      rcases frsts_step L' n with ⟨_, h2⟩ | ⟨_, h2⟩
      · rw [h2]; exact ih
      · rw [h2, List.length_append]; omega
    · have hn : clsOf L' n = (frsts L' n).length := by
        rw [new_iff E']
        intro a ha
        cases hL : L' a n
        · rfl
        · have := (new_iff E n).1 h0 a ha
          rw [h a n hL] at this; cases this
      rw [h1, frsts_new _ _ hn, List.length_append, List.length_append]
      simp
      exact ih
theorem cnt_one (g : Nat → Int) (n k : Nat) (h : ∀ i j, i < j → j < n → g i ≠ g j) : cntB g n k ≤ 1 := by
  induction n with
  | zero => simp [cntB, lstB]
  | succ n ih =>
    rw [cnt_step]
    by_cases e : g n = (k : Int)
    · have h0 : cntB g n k = 0 := by
        unfold cntB
        rw [lst_none]
        · rfl
        · intro b hb
          have := h b n hb (by omega)
          simp only [clsB, decide_eq_false_iff_not]
          omega
      rw [if_pos e, h0]; omega
    · rw [if_neg e]
      have := ih fun i j hi hj => h i j hi (by omega)
      omega
theorem sum_ones (g : Nat → Int) (n M : Nat) (h : ∀ k, cntB g n k ≤ 1) : sumTo g n M ≤ M := by
  induction M with
  | zero => simp [sumTo]
  | succ M ih => unfold sumTo; have := h M; omega
/-- One set more: at most twice as many. -/
theorem finer_two {L : Nat → Nat → Bool} (E : Eqv L) (p : Nat → Bool) (n : Nat) : (frsts (cutL L p) n).length ≤ 2 * (frsts L n).length := by
  have E' := cut_eqv E p
  have hkey : ∀ j, j < (frsts (cutL L p) n).length → (frsts (cutL L p) n).getD j 0 < n := fun j hj => by
    apply frsts_lt (cutL L p) n
    rw [List.getD_eq_getElem?_getD, List.getElem?_eq_getElem hj]; exact List.getElem_mem hj
  have hs := sum_all (fun j => ((2 * clsOf L ((frsts (cutL L p) n).getD j 0) + (p ((frsts (cutL L p) n).getD j 0)).toNat : Nat) : Int)) (2 * (frsts L n).length) (frsts (cutL L p) n).length (fun j hj => by
    have h1 := (cls_like E _ n (hkey j hj)).1
    have h2 : (p ((frsts (cutL L p) n).getD j 0)).toNat ≤ 1 := by cases p ((frsts (cutL L p) n).getD j 0) <;> simp
    show (0 : Int) ≤ ((2 * clsOf L ((frsts (cutL L p) n).getD j 0) + (p ((frsts (cutL L p) n).getD j 0)).toNat : Nat) : Int) ∧ ((2 * clsOf L ((frsts (cutL L p) n).getD j 0) + (p ((frsts (cutL L p) n).getD j 0)).toNat : Nat) : Int) < _
    omega)
  have h1 := sum_ones (fun j => ((2 * clsOf L ((frsts (cutL L p) n).getD j 0) + (p ((frsts (cutL L p) n).getD j 0)).toNat : Nat) : Int)) (frsts (cutL L p) n).length (2 * (frsts L n).length) (fun k => cnt_one _ _ k fun i j hij hj he => by
    have he' : 2 * clsOf L ((frsts (cutL L p) n).getD i 0) + (p ((frsts (cutL L p) n).getD i 0)).toNat = 2 * clsOf L ((frsts (cutL L p) n).getD j 0) + (p ((frsts (cutL L p) n).getD j 0)).toNat := Int.ofNat_inj.1 he
    have ci := cls_first (cutL L p) n i (by omega)
    have cj := cls_first (cutL L p) n j hj
    generalize (frsts (cutL L p) n).getD i 0 = a at *
    generalize (frsts (cutL L p) n).getD j 0 = b at *
    have t1 : (p a).toNat ≤ 1 := by cases p a <;> simp
    have t2 : (p b).toNat ≤ 1 := by cases p b <;> simp
    have e1 : clsOf L a = clsOf L b := by omega
    have e2 : p a = p b := by
      have : (p a).toNat = (p b).toNat := by omega
      cases ha : p a <;> cases hb : p b <;> simp_all
    have hl : cutL L p a b = true := by unfold cutL; rw [(cls_iff E a b).1 e1, e2]; simp
    have := (cls_iff E' a b).2 hl
    omega)
  omega

theorem like_more (ps : List (Nat → Bool)) (x : Nat → Bool) : likeB (ps ++ [x]) = cutL (likeB ps) x := by
  funext a b
  unfold likeB cutL
  rw [List.all_append]
  simp
/-- The numbers of SplitFiner. -/
theorem finer_many (ps : List (Nat → Bool)) (x : Nat → Bool) : (frsts (likeB ps) 256).length ≤ (frsts (likeB (ps ++ [x])) 256).length ∧ (frsts (likeB (ps ++ [x])) 256).length ≤ 2 * (frsts (likeB ps) 256).length := by
  rw [like_more]
  refine ⟨finer_le (like_eqv ps) (cut_eqv (like_eqv ps) x) (fun a b h => ?_) 256, finer_two (like_eqv ps) x 256⟩
  simp only [cutL, Bool.and_eq_true] at h
  exact h.1
theorem finer_in (ps : List (Nat → Bool)) (x : Nat → Bool) (a b : Nat) (h : clsOf (likeB (ps ++ [x])) a = clsOf (likeB (ps ++ [x])) b) : clsOf (likeB ps) a = clsOf (likeB ps) b := by
  rw [cls_iff (like_eqv _), like_more] at h
  rw [cls_iff (like_eqv _)]
  simp only [cutL, Bool.and_eq_true] at h
  exact h.1
theorem one_two (x : Nat → Bool) : (frsts (likeB [x]) 256).length ≤ 2 := by
  have h := (finer_many [] x).2
  have e : (frsts (likeB []) 256).length = 1 := congrArg List.length (cls_one 255).2
  generalize (frsts (likeB []) 256).length = n at *
  subst e
  exact h
theorem one_like (x : Nat → Bool) (a b : Nat) : likeB [x] a b = (x a == x b) := by simp [likeB]
theorem one_one (x : Nat → Bool) : (frsts (likeB [x]) 256).length = 1 ↔ ∀ b, b < 256 → x b = x 0 := by
  have E := like_eqv [x]
  constructor
  · intro h b hb
    have h1 := (cls_like E b 256 hb).1
    have h2 := (cls_like E 0 256 (by omega)).1
    have h3 := (cls_iff E b 0).1 (by omega)
    rw [one_like] at h3
    simpa using h3
  · intro h
    have hz := (frsts_zero (L := likeB [x]) 256 (by omega)).2
    rcases Nat.lt_or_ge 1 (frsts (likeB [x]) 256).length with hg | hg
    · exfalso
      have h1 := cls_first (likeB [x]) 256 1 hg
      have h0 := cls_first (likeB [x]) 256 0 hz
      have hm : (frsts (likeB [x]) 256).getD 1 0 < 256 := by
        apply frsts_lt (likeB [x]) 256
        rw [List.getD_eq_getElem?_getD, List.getElem?_eq_getElem hg]; exact List.getElem_mem hg
      rw [(frsts_zero (L := likeB [x]) 256 (by omega)).1] at h0
      have := (cls_iff E ((frsts (likeB [x]) 256).getD 1 0) 0).2 (by rw [one_like, h _ hm]; simp)
      omega
    · omega
theorem eqB_same {p q : Nat → Bool} (h : eqB p q = true) (b : Nat) (hb : b < 256) : p b = q b := by
  unfold eqB at h
  rw [decide_eq_true_eq] at h
  have hi : W p (b / 64) = W q (b / 64) := by
    have : b / 64 = 0 ∨ b / 64 = 1 ∨ b / 64 = 2 ∨ b / 64 = 3 := by omega
    rcases this with e | e | e | e <;> rw [e]
    · exact h.1
    · exact h.2.1
    · exact h.2.2.1
    · exact h.2.2.2
  have := W_inj hi (b % 64) (by omega)
  rw [Nat.div_add_mod] at this
  exact this
theorem one_all (x : Nat → Bool) : decide (((frsts (likeB [x]) 256).length : Int) = 1) = (eqB x (rngB 0 256) || eqB x noB) := by
  rw [Bool.eq_iff_iff, decide_eq_true_eq, Bool.or_eq_true]
  have hr : ∀ b, b < 256 → rngB 0 256 b = true := fun b hb => by unfold rngB; simp; omega
  have h1 : ((frsts (likeB [x]) 256).length : Int) = 1 ↔ (frsts (likeB [x]) 256).length = 1 := by omega
  rw [h1, one_one]
  constructor
  · intro h
    cases h0 : x 0
    · right; exact eqB_true fun b hb => by rw [h b hb, h0]; rfl
    · left; exact eqB_true fun b hb => by rw [h b hb, h0, hr b hb]
  · rintro (h | h) b hb
    · have := eqB_same h
      rw [this b hb, this 0 (by omega), hr b hb, hr 0 (by omega)]
    · have := eqB_same h
      rw [this b hb, this 0 (by omega)]; rfl
theorem one_byte (b : Nat) (hb : b < 256) : (frsts (likeB [inB [(b : Int)]]) 256).length = 2 := by
  have h2 := one_two (inB [(b : Int)])
  have hz := (frsts_zero (L := likeB [inB [(b : Int)]]) 256 (by omega)).2
  have hn : ¬ (frsts (likeB [inB [(b : Int)]]) 256).length = 1 := by
    rw [one_one]
    intro h
    have h0 := h b hb
    have h1 := h (if b = 0 then 1 else 0) (by split <;> omega)
    by_cases e : b = 0
    · subst e
      simp [inB] at h1
    · simp [inB] at h0
      omega
  omega

/-- Which class of the coarser ones bytes of a finer one are of, and 1; 0 of one that did not come yet. -/
def wasF (F F' : Nat → Int) (j : Nat) : Nat → Int
  | 0 => 0
  | c + 1 => if F' c = (j : Int) then F c + 1 else wasF F F' j c
theorem was_cases (F F' : Nat → Int) (j c : Nat) : wasF F F' j c = 0 ∨ ∃ a, a < c ∧ F' a = (j : Int) ∧ wasF F F' j c = F a + 1 := by
  induction c with
  | zero => exact .inl rfl
  | succ c ih =>
    unfold wasF
    by_cases h : F' c = (j : Int)
    · rw [if_pos h]; exact .inr ⟨c, by omega, h, rfl⟩
    · rw [if_neg h]
      rcases ih with h | ⟨a, ha, h1, h2⟩
      · exact .inl h
      · exact .inr ⟨a, by omega, h1, h2⟩

end Go.Proofs.Ytlfbjnmehdifeaa

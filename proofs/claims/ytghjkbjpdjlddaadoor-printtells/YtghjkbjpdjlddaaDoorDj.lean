/- A set as it stands in a pattern is read as that set. Plain lists. -/
import Derived.Test.YtghjkbjpdjlddaaDoorDa
namespace Go.Proofs.YtghjkbjpdjlddaaDoor.Sy.Pn
set_option maxRecDepth 100000
set_option linter.unusedVariables false

theorem at_mid (p t r : List Nat) {i : Nat} (h : i < t.length) : at_ (p ++ t ++ r) (p.length + i) = at_ t i := by
  rw [List.append_assoc, at_app3, at_app2 h]
theorem at_mid0 (p t r : List Nat) (h : 0 < t.length) : at_ (p ++ t ++ r) p.length = at_ t 0 := at_mid p t r h
theorem one_mid (p t r : List Nat) {b j : Nat} (ht : 0 < t.length) (h : one t 0 = .ok (b, j)) : one (p ++ t ++ r) p.length = .ok (b, p.length + j) := by
  have hl : (p ++ t ++ r).length = p.length + t.length + r.length := by simp; omega
  have a0 := at_mid0 p t r ht
  unfold one at h ⊢
  rw [a0]
  split at h
  · rename_i h1
    rw [if_pos h1]
    cases h
    rfl
  · rename_i h1
    rw [if_neg h1]
    split at h
    · cases h
    · rename_i h2
      rw [if_neg (by omega), at_mid p t r (i := 1) (by omega)]
      simp only [Nat.zero_add] at h
      simp only
      split at h
      · rename_i h3; cases h; rw [if_pos h3]
      · rename_i h3
        rw [if_neg h3]
        split at h
        · rename_i h4; cases h; rw [if_pos h4]
        · rename_i h4
          rw [if_neg h4]
          split at h
          · rename_i h5; cases h; rw [if_pos h5]
          · rename_i h5
            rw [if_neg h5]
            split at h
            · rename_i h6
              rw [if_pos h6]
              split at h
              · cases h
              · rename_i h7
                rw [if_neg (by omega), at_mid p t r (i := 2) (by omega), at_mid p t r (i := 3) (by omega)]
                split at h
                · rename_i x y hx hy
                  cases h
                  first | rfl | rw [hx, hy]
                · cases h
            · rename_i h6
              rw [if_neg h6]
              split at h
              · rename_i h8; cases h; rw [if_pos h8]
              · cases h
def oneO (t : List Nat) : Option (Nat × Nat) := match one t 0 with | .ok x => some x | .error _ => none
theorem byteT_oneO : ∀ c, c < 256 → oneO (byteT c) = some (c, (byteT c).length) := by decide +kernel
theorem byteT_one (c : Nat) (h : c < 256) : one (byteT c) 0 = .ok (c, (byteT c).length) := by
  have := byteT_oneO c h
  unfold oneO at this
  split at this
  · rename_i x hx
    cases this
    exact hx
  · cases this
theorem byteT_head : ∀ c, c < 256 → at_ (byteT c) 0 ≠ 93 ∧ at_ (byteT c) 0 ≠ 45 ∧ at_ (byteT c) 0 ≠ 94 ∧ at_ (byteT c) 0 ≠ 40 ∧ at_ (byteT c) 0 ≠ 41 ∧ at_ (byteT c) 0 ≠ 124 ∧ at_ (byteT c) 0 ≠ 42 ∧ at_ (byteT c) 0 ≠ 43 ∧ at_ (byteT c) 0 ≠ 63 ∧ at_ (byteT c) 0 ≠ 123 ∧ at_ (byteT c) 0 ≠ 91 ∧ at_ (byteT c) 0 ≠ 46 ∧ at_ (byteT c) 0 ≠ 47 ∧ at_ (byteT c) 0 ≠ 36 ∧ (at_ (byteT c) 0 = 92 ∨ specialB (at_ (byteT c) 0) = false) := by decide +kernel
theorem byteT_pos {c : Nat} (h : c < 256) : 0 < (byteT c).length := (byteT_fit c h).2.1
theorem byte_mid (p r : List Nat) {c : Nat} (hc : c < 256) : one (p ++ byteT c ++ r) p.length = .ok (c, p.length + (byteT c).length) := one_mid p _ r (byteT_pos hc) (byteT_one c hc)
theorem member_mid (p r : List Nat) {c : Nat} (hc : c < 256) : member (p ++ byteT c ++ r) p.length = .ok (c, p.length + (byteT c).length) := by
  have h0 := byteT_pos hc
  have hh := byteT_head c hc
  unfold member
  rw [if_neg (by simp; omega), at_mid0 p _ r h0, if_neg (fun e => by rcases e with e | e | e; exact hh.1 e; exact hh.2.1 e; exact hh.2.2.1 e)]
  exact byte_mid p r hc
theorem is_mid (p t r : List Nat) (c : Nat) (h : 0 < t.length) : is (p ++ t ++ r) p.length c = (at_ t 0 == c) := by
  unfold is
  rw [decide_eq_true (by simp; omega), Bool.true_and, at_mid0 p t r h]
/-- A span is read as a span, if no dash follows. -/
theorem part_mid (p r : List Nat) {x : Int × Int} (h0 : 0 ≤ x.1) (h1 : x.1 ≤ x.2) (h2 : x.2 ≤ 255) (hr : ∀ c q, r = c :: q → c ≠ 45) :
    part (p ++ spanT x ++ r) p.length = .ok ((x.1.toNat, x.2.toNat), p.length + (spanT x).length) := by
  by_cases hlt : x.1 < x.2
  · have es : spanT x = byteT x.1.toNat ++ 45 :: byteT x.2.toNat := by unfold spanT; rw [if_pos hlt]
    rw [es]
    unfold part
    rw [show p ++ (byteT x.1.toNat ++ 45 :: byteT x.2.toNat) ++ r = p ++ byteT x.1.toNat ++ (45 :: byteT x.2.toNat ++ r) from by simp, member_mid p _ (by omega)]
    simp only
    rw [show p ++ byteT x.1.toNat ++ (45 :: byteT x.2.toNat ++ r) = (p ++ byteT x.1.toNat) ++ [45] ++ (byteT x.2.toNat ++ r) from by simp]
    have e1 : p.length + (byteT x.1.toNat).length = (p ++ byteT x.1.toNat).length := by simp
    rw [e1, is_mid _ [45] _ 45 (by simp)]
    have e2 : (p ++ byteT x.1.toNat).length + 1 = ((p ++ byteT x.1.toNat) ++ [45]).length := by simp; omega
    rw [if_pos (by rfl : (at_ [45] 0 == 45) = true), e2, show (p ++ byteT x.1.toNat) ++ [45] ++ (byteT x.2.toNat ++ r) = ((p ++ byteT x.1.toNat) ++ [45]) ++ byteT x.2.toNat ++ r from by simp, member_mid _ _ (by omega)]
    simp only
    rw [if_neg (by omega)]
    simp
    omega
  · have es : spanT x = byteT x.1.toNat := by unfold spanT; rw [if_neg hlt]
    have he : x.1.toNat = x.2.toNat := by omega
    rw [es]
    unfold part
    rw [member_mid p _ (by omega)]
    simp only
    have hd : is (p ++ byteT x.1.toNat ++ r) (p.length + (byteT x.1.toNat).length) 45 = false := by
      unfold is
      cases r with
      | nil => simp
      | cons c q =>
        have := hr c q rfl
        rw [show p.length + (byteT x.1.toNat).length = (p ++ byteT x.1.toNat).length from by simp, at_app]
        simp [this]
    rw [hd, he]
    simp
def foldS (q : Nat → Bool) (L : List (Int × Int)) : Nat → Bool := L.foldl (fun q x => uniS q (rngS x.1.toNat x.2.toNat)) q
theorem spanT_head {x : Int × Int} (h0 : 0 ≤ x.1) (h1 : x.1 ≤ x.2) (h2 : x.2 ≤ 255) : 0 < (spanT x).length ∧ at_ (spanT x) 0 = at_ (byteT x.1.toNat) 0 := by
  have hp := byteT_pos (c := x.1.toNat) (by omega)
  unfold spanT
  split
  · refine ⟨by simp; omega, ?_⟩
    rw [at_app2 hp]
  · exact ⟨hp, rfl⟩
theorem parts_mid (q : Nat → Bool) : ∀ (L : List (Int × Int)) (p r : List Nat) (f : Nat) (more : Bool), (∀ x ∈ L, 0 ≤ x.1 ∧ x.1 ≤ x.2 ∧ x.2 ≤ 255) → L.length + 1 ≤ f → (more = true ∨ L ≠ []) →
    parts (p ++ L.flatMap spanT ++ 93 :: r) f more q p.length = .ok (foldS q L, p.length + (L.flatMap spanT).length) := by
  intro L
  induction L generalizing q with
  | nil =>
    intro p r f more _ hf hm
    obtain ⟨f, rfl⟩ : ∃ g, f = g + 1 := ⟨f - 1, by simp at hf; omega⟩
    have hmm : more = true := hm.resolve_right (fun h => h rfl)
    subst hmm
    rw [parts_last]
    · rfl
    · unfold is
      simp only [List.flatMap_nil, List.append_nil]
      rw [at_app]
      simp
  | cons x L ih =>
    intro p r f more hL hf hm
    obtain ⟨f, rfl⟩ : ∃ g, f = g + 1 := ⟨f - 1, by simp at hf; omega⟩
    obtain ⟨h0, h1, h2⟩ := hL x (by simp)
    obtain ⟨hp0, hp1⟩ := spanT_head h0 h1 h2
    have e1 : p ++ (x :: L).flatMap spanT ++ 93 :: r = p ++ spanT x ++ (L.flatMap spanT ++ 93 :: r) := by simp
    have hne : (more && is (p ++ (x :: L).flatMap spanT ++ 93 :: r) p.length 93) = false := by
      rw [e1, is_mid _ _ _ _ hp0, hp1]
      have := (byteT_head x.1.toNat (by omega)).1
      simp [this]
    rw [parts_next _ _ _ _ hne, e1, part_mid p _ h0 h1 h2 (fun c t he => ?_)]
    · simp only
      have e2 : p ++ spanT x ++ (L.flatMap spanT ++ 93 :: r) = (p ++ spanT x) ++ L.flatMap spanT ++ 93 :: r := by simp
      have e3 : p.length + (spanT x).length = (p ++ spanT x).length := by simp
      rw [e2, e3, ih (uniS q (rngS x.1.toNat x.2.toNat)) (p ++ spanT x) r f true (fun y hy => hL y (by simp [hy])) (by simp at hf; omega) (.inl rfl)]
      simp [foldS]
      omega
    · cases L with
      | nil => simp at he; omega
      | cons y L' =>
        obtain ⟨g0, g1, g2⟩ := hL y (by simp)
        obtain ⟨k0, k1⟩ := spanT_head g0 g1 g2
        have hh := (byteT_head y.1.toNat (by omega)).2.1
        rw [← k1] at hh
        intro hc
        apply hh
        rw [← hc]
        have : (spanT y ++ (L'.flatMap spanT ++ 93 :: r)) = c :: t := by rw [← he]; simp
        have h5 := at_app2 (q := L'.flatMap spanT ++ 93 :: r) k0
        rw [← h5, this]
        rfl
theorem spanT_len {x : Int × Int} (h0 : 0 ≤ x.1) (h1 : x.1 ≤ x.2) (h2 : x.2 ≤ 255) : 1 ≤ (spanT x).length := (spanT_head h0 h1 h2).1
theorem flat_ge : ∀ (L : List (Int × Int)), (∀ x ∈ L, 0 ≤ x.1 ∧ x.1 ≤ x.2 ∧ x.2 ≤ 255) → L.length ≤ (L.flatMap spanT).length
  | [], _ => Nat.zero_le _
  | x :: L, h => by
    have h1 := flat_ge L (fun y hy => h y (by simp [hy]))
    have h2 := h x (by simp)
    have h3 := spanT_len h2.1 h2.2.1 h2.2.2
    simp only [List.flatMap_cons, List.length_append, List.length_cons]
    omega
/-- What is read of a set's text. -/
def qS (s : Nat → Bool) : Nat → Bool :=
  if (spn s).length = 1 ∧ ((spn s).getD 0 (0, 0)).1 = ((spn s).getD 0 (0, 0)).2 then oneS ((spn s).getD 0 (0, 0)).1.toNat else if eqDot s then dotS else foldS noS (spn s)
theorem spn_has (s : Nat → Bool) (b : Nat) (hb : b < 256) : (∃ x ∈ spn s, x.1 ≤ (b : Int) ∧ (b : Int) ≤ x.2) ↔ s b = true := by
  have h := (good_spans _ (lst_rises s 256)).has (b : Int)
  rw [lst_mem] at h
  refine h.trans ⟨fun ⟨c, h1, h2, h3⟩ => ?_, fun h1 => ⟨b, rfl, hb, h1⟩⟩
  have : b = c := by omega
  subst this
  exact h3
theorem foldS_has (b : Nat) : ∀ (L : List (Int × Int)) (q : Nat → Bool), (∀ x ∈ L, 0 ≤ x.1 ∧ x.1 ≤ x.2) → (foldS q L b = true ↔ q b = true ∨ ∃ x ∈ L, x.1 ≤ (b : Int) ∧ (b : Int) ≤ x.2)
  | [], q, _ => by simp [foldS]
  | x :: L, q, h => by
    have hx := h x (by simp)
    have := foldS_has b L (uniS q (rngS x.1.toNat x.2.toNat)) (fun y hy => h y (by simp [hy]))
    show foldS (uniS q (rngS x.1.toNat x.2.toNat)) L b = true ↔ _
    rw [this]
    simp only [uniS, rngS, Bool.or_eq_true, Bool.and_eq_true, decide_eq_true_eq, List.mem_cons, exists_eq_or_imp]
    constructor
    · rintro ((h1 | h1) | h1)
      · exact .inl h1
      · exact .inr (.inl (by omega))
      · exact .inr (.inr h1)
    · rintro (h1 | h1 | h1)
      · exact .inl (.inl h1)
      · exact .inl (.inr (by omega))
      · exact .inr h1
theorem qS_has (s : Nat → Bool) (b : Nat) (hb : b < 256) : qS s b = s b := by
  unfold qS
  split
  · rename_i h
    obtain ⟨x, hx⟩ : ∃ x, spn s = [x] := by
      match hs : spn s with
      | [] => rw [hs] at h; simp at h
      | [x] => exact ⟨x, rfl⟩
      | _ :: _ :: _ => rw [hs] at h; simp at h
    have hh := spn_has s b hb
    have ha := spn_at s x (by rw [hx]; simp)
    rw [hx] at hh h ⊢
    simp at hh h ⊢
    rw [Bool.eq_iff_iff, ← hh]
    simp [oneS]
    omega
  · split
    · rename_i h
      unfold eqDot at h
      rw [List.all_eq_true] at h
      have := h b (List.mem_range.2 hb)
      exact (by simpa using this : s b = dotS b).symm
    · rw [Bool.eq_iff_iff, foldS_has b _ _ (fun x hx => ⟨(spn_at s x hx).1, (spn_at s x hx).2.1⟩), spn_has s b hb]
      simp [noS]
theorem spn_ne {s : Nat → Bool} (h : emptyS s = false) : spn s ≠ [] := fun e => by
  unfold emptyS at h
  rw [List.all_eq_false] at h
  obtain ⟨b, hb, h1⟩ := h
  have := (spn_has s b (List.mem_range.1 hb)).2 (by simpa using h1)
  rw [e] at this
  obtain ⟨x, hx, _⟩ := this
  cases hx
/-- The text of a set, wherever it stands. -/
theorem set_mid (p r : List Nat) {s : Nat → Bool} (hs : emptyS s = false) : lone (p ++ setT s ++ r) p.length = .ok (ndBytes (qS s), p.length + (setT s).length) ∧ 0 < (setT s).length ∧ at_ (setT s) 0 ≠ 40 ∧ at_ (setT s) 0 ≠ 41 ∧ at_ (setT s) 0 ≠ 124 ∧ at_ (setT s) 0 ≠ 42 ∧ at_ (setT s) 0 ≠ 43 ∧ at_ (setT s) 0 ≠ 63 ∧ at_ (setT s) 0 ≠ 123 := by
  unfold setT qS
  split
  · rename_i h
    have hm : (spn s).getD 0 (0, 0) ∈ spn s := by rw [List.getD_eq_getElem?_getD, List.getElem?_eq_getElem (by omega)]; exact List.getElem_mem _
    have ha := spn_at s _ hm
    have hc : ((spn s).getD 0 (0, 0)).1.toNat < 256 := by omega
    clear h hm ha
    generalize ((spn s).getD 0 (0, 0)).1.toNat = c at *
    have hh := byteT_head c hc
    have hp := byteT_pos hc
    obtain ⟨g93, g45, g94, g40, g41, g124, g42, g43, g63, g123, g91, g46, g47, g36, gs⟩ := hh
    refine ⟨?_, hp, g40, g41, g124, g42, g43, g63, g123⟩
    unfold lone
    rw [at_mid0 p _ r hp, if_neg g91, if_neg g46, if_neg (fun e => g123 e.1), if_neg (fun e => e.elim g47 g36), if_neg (fun e => by rcases gs with q | q; exact e.1 q; rw [q] at e; cases e.2), byte_mid p r hc]
  · split
    · refine ⟨?_, by simp, by decide, by decide, by decide, by decide, by decide, by decide, by decide⟩
      unfold lone
      rw [at_mid0 p [46] r (by simp)]
      rfl
    · refine ⟨?_, by simp, by simp [at_], by simp [at_], by simp [at_], by simp [at_], by simp [at_], by simp [at_], by simp [at_]⟩
      have hne := spn_ne hs
      have hat := spn_at s
      have hl : (p ++ 91 :: ((spn s).flatMap spanT ++ [93]) ++ r) = (p ++ [91]) ++ (spn s).flatMap spanT ++ 93 :: r := by simp
      have hc : class_ (p ++ 91 :: ((spn s).flatMap spanT ++ [93]) ++ r) p.length = .ok (foldS noS (spn s), p.length + (91 :: ((spn s).flatMap spanT ++ [93])).length) := by
        have hneg : is (p ++ 91 :: ((spn s).flatMap spanT ++ [93]) ++ r) (p.length + 1) 94 = false := by
          rw [hl]
          cases hsp : spn s with
          | nil => exact absurd hsp hne
          | cons x L =>
            obtain ⟨h0, h1, h2⟩ := hat x (by rw [hsp]; simp)
            obtain ⟨k0, k1⟩ := spanT_head h0 h1 h2
            rw [show p ++ [91] ++ (x :: L).flatMap spanT ++ 93 :: r = (p ++ [91]) ++ spanT x ++ (L.flatMap spanT ++ 93 :: r) from by simp, show p.length + 1 = (p ++ [91]).length from by simp, is_mid _ _ _ _ k0, k1]
            have := (byteT_head x.1.toNat (by omega)).2.2.1
            simp [this]
        unfold class_
        simp only
        rw [hneg]
        have hlen : (spn s).length + 1 ≤ (p ++ 91 :: ((spn s).flatMap spanT ++ [93]) ++ r).length + 1 := by
          have := flat_ge (spn s) hat
          simp only [List.length_append, List.length_cons, List.length_nil]
          omega
        have hpm := parts_mid noS (spn s) (p ++ [91]) r _ false hat hlen (.inr hne)
        have e9 : (p ++ [91]).length = p.length + 1 := by simp
        rw [e9] at hpm
        simp only [Bool.false_eq_true, if_false]
        rw [← hl] at hpm
        rw [hpm]
        simp only
        have hfe : emptyS (negS false (foldS noS (spn s))) = false := by
          obtain ⟨b, hb, h1⟩ := List.all_eq_false.1 hs
          refine emptyS_of (x := b) (List.mem_range.1 hb) ?_
          show foldS noS (spn s) b = true
          rw [foldS_has b _ _ (fun x hx => ⟨(hat x hx).1, (hat x hx).2.1⟩)]
          exact .inr ((spn_has s b (List.mem_range.1 hb)).2 (by simpa using h1))
        rw [hfe]
        simp
        refine ⟨rfl, by omega⟩
      unfold lone
      rw [at_mid0 p _ r (by simp)]
      rw [if_pos (by simp [at_]), hc]
end Go.Proofs.YtghjkbjpdjlddaaDoor.Sy.Pn

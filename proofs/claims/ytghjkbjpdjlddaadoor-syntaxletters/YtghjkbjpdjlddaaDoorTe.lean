/- The landed reader: an escape, a byte of a class. -/
import Derived.Test.YtghjkbjpdjlddaaDoorTd
namespace Go.Proofs.YtghjkbjpdjlddaaDoor.Sy
open Go.RowKit
set_option maxRecDepth 100000

section
variable {t : List Nat} {i : Nat}
theorem one_end (h : at_ t i = 92) (h1 : t.length ≤ i + 1) : one t i = .error (40, t.length) := by
  unfold one; rw [if_neg (fun e => e h), if_pos h1]
theorem one_of (h : at_ t i = 92) (h1 : i + 1 < t.length) : one t i =
    if at_ t (i + 1) = 110 then .ok (10, i + 2) else if at_ t (i + 1) = 116 then .ok (9, i + 2) else if at_ t (i + 1) = 114 then .ok (13, i + 2)
    else if at_ t (i + 1) = 120 then hexR t i (i + 2) else if specialB (at_ t (i + 1)) || at_ t (i + 1) == 45 then .ok (at_ t (i + 1), i + 2) else .error (43, i) := by
  unfold one hexR; rw [if_neg (fun e => e h), if_neg (by omega)]
  rfl
theorem marks_has (x : Nat) (c : UInt8) (h : c.toNat = x) : decide (0 ≤ idx { data := #[124, 42, 43, 63, 123, 125, 40, 41, 91, 93, 46, 92, 47, 36, 94, 34, 45] } x) = (specialB x || x == 45) := by
  rw [← h, idx_has]
  show ([124, 42, 43, 63, 123, 125, 40, 41, 91, 93, 46, 92, 47, 36, 94, 34, 45] : List Nat).contains c.toNat = _
  unfold specialB
  rw [show ([124, 42, 43, 63, 123, 125, 40, 41, 91, 93, 46, 92, 47, 36, 94, 34, 45] : List Nat) = [124, 42, 43, 63, 123, 125, 40, 41, 91, 93, 46, 92, 47, 36, 94, 34] ++ [45] from rfl]
  generalize [124, 42, 43, 63, 123, 125, 40, 41, 91, 93, 46, 92, 47, 36, 94, 34] = l
  induction l with
  | nil => simp only [List.nil_append, List.contains_cons, List.contains_nil, Bool.or_false, Bool.false_or]
  | cons y r ih => rw [List.cons_append, List.contains_cons, List.contains_cons, ih, Bool.or_assoc]
end

section
variable {w w' : World} {b : Nat} {s : ByteArray} {er pl : Int} {v : Value} {d : Int}
set_option maxHeartbeats 1000000 in
theorem escape_any {i : Nat} (r : PR w b s i er pl v d) (hi : i < s.size) (hs : s.size ≤ 100000) (h92 : at_ (bs s) i = 92) :
    Calls Tryd.prog 87 #[.pointer (some ⟨b, 0, none⟩)] w fun e w' => Touch b b w w' ∧ GotB b s er pl v d (one (bs s) i) e w' := by
  obtain ⟨c0, c1, c2, c3, c4, c5⟩ := r.cells
  have ht := r.thawed
  have hbl := bs_len s
  have R := r.atTo ((i : Int) + 1)
  have T := (Touch.refl b b w).set1 1 (.int .i64 ((i : Int) + 1))
  go_enter Tryd.func87, Tryd.ntmps87
  go_wp2_with fail
  generalize w.setCell ⟨b, 1, none⟩ (.int .i64 ((i : Int) + 1)) = w1 at *
  rw [show (i : Int) + 1 = ((i + 1 : Nat) : Int) from by omega] at R
  clear c0 c1 c2 c3 c4 c5 ht
  by_cases h : s.size ≤ i + 1
  · have hR := hidd (one_end (t := bs s) h92 (by rw [hbl]; exact h))
    rw [hbl] at hR
    have hie : i + 1 = s.size := by omega
    rw [hie] at R
    clear h hbl
    refine (ended_yes R rfl).mono ?_
    rintro e w2 ⟨rfl, m, rfl⟩
    have R2 := R.drewN m
    have T2 := T.drewN m
    generalize w1.drewN m = w2 at *
    obtain ⟨c0, c1, c2, c3, c4, c5⟩ := R2.cells
    clear hie
    go_wp2_with fail
    refine (fail_any R2 40 s.size).mono ?_
    rintro e w3 ⟨rfl, R3, T3⟩
    go_wp2
    go_ret2
    refine ⟨T2.trans T3, ?_⟩
    rw [hR.out]
    exact ⟨rfl, s.size, R3⟩
  · have h1 : i + 1 < s.size := by omega
    have hO := one_of (t := bs s) h92 (by rw [hbl]; exact h1)
    refine (ended_no R h1).mono ?_
    rintro e w2 ⟨rfl, m, rfl⟩
    have R2 := R.drewN m
    have T2 := T.drewN m
    clear R T
    generalize w1.drewN m = w2 at *
    go_wp2_with fail
    refine (next_any R2 h1 hs).mono ?_
    rintro e w3 ⟨rfl, R3, T3⟩
    have T := T2
    clear R2 T2 hbl h
    have hu : s[i + 1].toNat = at_ (bs s) (i + 1) := (at_bs s (i + 1) h1).symm
    have hM := marks_has _ _ hu
    have hX := fun w => idx_any { data := #[124, 42, 43, 63, 123, 125, 40, 41, 91, 93, 46, 92, 47, 36, 94, 34, 45] } (at_ (bs s) (i + 1)) w
    generalize idx { data := #[124, 42, 43, 63, 123, 125, 40, 41, 91, 93, 46, 92, 47, 36, 94, 34, 45] } (at_ (bs s) (i + 1)) = z at *
    generalize at_ (bs s) (i + 1) = c at *
    clear hu
    by_cases h110 : c = 110
    · subst h110
      clear hM
      have hT := T.trans T3
      have HR : Hid (one (bs s) i = .ok (10, i + 2)) := by show _ = _; rw [hO]; rfl
      clear hO T T3
      go_wp2
      go_ret2
      refine ⟨hT, ?_⟩
      rw [HR.out]
      exact ⟨rfl, R3⟩
    · by_cases h116 : c = 116
      · subst h116
        clear hM
        have hT := T.trans T3
        have HR : Hid (one (bs s) i = .ok (9, i + 2)) := by show _ = _; rw [hO]; rfl
        clear hO T T3
        go_wp2
        go_ret2
        refine ⟨hT, ?_⟩
        rw [HR.out]
        exact ⟨rfl, R3⟩
      · by_cases h114 : c = 114
        · subst h114
          clear hM
          have hT := T.trans T3
          have HR : Hid (one (bs s) i = .ok (13, i + 2)) := by show _ = _; rw [hO]; rfl
          clear hO T T3
          go_wp2
          go_ret2
          refine ⟨hT, ?_⟩
          rw [HR.out]
          exact ⟨rfl, R3⟩
        · have n1 : ((c : Int) == 110) = false := by simp; omega
          have n2 : ((c : Int) == 116) = false := by simp; omega
          have n3 : ((c : Int) == 114) = false := by simp; omega
          rw [if_neg h110, if_neg h116, if_neg h114] at hO
          by_cases h120 : c = 120
          · subst h120
            rw [if_pos rfl] at hO
            have HR := hidd hO
            clear hO hM
            go_wp2_with fail
            refine (hex_any (f := i) R3 (by omega) hs).mono ?_
            rintro e w4 ⟨T4, hg⟩
            have hT := (T.trans T3).trans T4
            rw [← HR.out] at hg
            clear T T3 T4
            unfold GotB at hg
            cases ho : one (bs s) i with
            | ok x =>
              rw [ho] at hg HR
              obtain ⟨rfl, R4⟩ := hg
              go_wp2
              go_ret2
              refine ⟨hT, ?_⟩
              rw [ho]
              exact ⟨rfl, R4⟩
            | error x =>
              rw [ho] at hg HR
              obtain ⟨rfl, R4⟩ := hg
              go_wp2
              go_ret2
              refine ⟨hT, ?_⟩
              rw [ho]
              exact ⟨rfl, R4⟩
          · have n4 : ((c : Int) == 120) = false := by simp; omega
            rw [if_neg h120] at hO
            go_wp2_with fail
            refine (hX _).mono ?_
            rintro e w4 ⟨rfl, rfl⟩
            clear hX
            cases hq : (specialB c || c == 45) with
            | true =>
              rw [hq] at hM hO
              have hz := of_decide_eq_true hM
              clear hM hq
              have hT := T.trans T3
              have HR : Hid (one (bs s) i = .ok (c, i + 2)) := by show _ = _; rw [hO]; rfl
              clear hO T T3
              go_wp2
              go_ret2
              refine ⟨hT, ?_⟩
              rw [HR.out]
              exact ⟨rfl, R3⟩
            | false =>
              rw [hq] at hM hO
              have hz := of_decide_eq_false hM
              have HR : Hid (one (bs s) i = .error (43, i)) := by show _ = _; rw [hO]; rfl
              clear hM hq hO
              go_wp2_with fail
              refine (fail_any R3 43 i).mono ?_
              rintro e w5 ⟨rfl, R5, T5⟩
              have hT := (T.trans T3).trans T5
              clear T T3 T5
              go_wp2
              go_ret2
              refine ⟨hT, ?_⟩
              rw [HR.out]
              exact ⟨rfl, i + 1 + 1, R5⟩
end

end Go.Proofs.YtghjkbjpdjlddaaDoor.Sy

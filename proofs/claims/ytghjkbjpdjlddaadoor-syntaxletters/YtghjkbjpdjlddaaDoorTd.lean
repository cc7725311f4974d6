/- The landed reader: what stands up to a brace, two digits, an escape, a byte of a class. -/
import Derived.Test.YtghjkbjpdjlddaaDoorTc
namespace Go.Proofs.YtghjkbjpdjlddaaDoor.Sy
open Go.RowKit
set_option maxRecDepth 100000

theorem braceEnd_eq {t : List Nat} {k : Nat} : ∀ (f i : Nat), i ≤ k → k ≤ t.length → (∀ x, i ≤ x → x < k → at_ t x ≠ 125) → (k < t.length → at_ t k = 125) → k - i ≤ f → braceEnd t f i = k
  | 0, i, h, _, _, _, hf => by unfold braceEnd; omega
  | f + 1, i, h, hl, h1, h2, hf => by
    unfold braceEnd
    rcases Nat.eq_or_lt_of_le h with e | e
    · subst e
      split
      · rename_i h3
        rw [if_pos (h2 h3)]
      · rfl
    · rw [if_pos (by omega), if_neg (h1 i (Nat.le_refl _) e)]
      exact braceEnd_eq f (i + 1) e hl (fun x h3 h4 => h1 x (by omega) h4) h2 (by omega)
theorem at_data (s : ByteArray) (x c : Nat) (hc : c < 256) (hx : x < s.size) : s.data.toList[x]? = some c.toUInt8 ↔ at_ (bs s) x = c := by
  have hl : x < s.data.toList.length := hx
  unfold at_ bs
  rw [List.getD_eq_getElem?_getD, List.getElem?_map, List.getElem?_eq_getElem hl]
  simp only [Option.map_some, Option.getD_some, Option.some.injEq]
  constructor
  · intro h
    rw [h]
    simp
    omega
  · intro h
    rw [← h]
    simp
theorem ex_tail (s : ByteArray) (i : Nat) : (s.extract i s.size).data.toList = s.data.toList.drop i := by
  rw [ByteArray.data_extract, Array.toList_extract]
  have : s.size = s.data.toList.length := rfl
  rw [this]
  simp [List.extract, List.take_of_length_le]
theorem idx_cut (s : ByteArray) (i c : Nat) (hc : c < 256) :
    (idx (s.extract i s.size) c = -1 ∧ ∀ x, i ≤ x → x < s.size → at_ (bs s) x ≠ c) ∨
    (∃ o : Nat, idx (s.extract i s.size) c = (o : Int) ∧ i + o < s.size ∧ at_ (bs s) (i + o) = c ∧ ∀ x, i ≤ x → x < i + o → at_ (bs s) x ≠ c) := by
  unfold idx
  rw [ex_tail]
  have hge := Lib.indexByte_ge (s.data.toList.drop i) c.toUInt8
  rcases Int.lt_or_le (Lib.indexByte (s.data.toList.drop i) c.toUInt8) 0 with h | h
  · left
    have h1 : Lib.indexByte (s.data.toList.drop i) c.toUInt8 = -1 := by omega
    refine ⟨h1, fun x hx1 hx2 e => ?_⟩
    have h2 := Lib.indexByte_none h1 (x - i)
    rw [List.getElem?_drop, show i + (x - i) = x from by omega] at h2
    exact h2 ((at_data s x c hc hx2).2 e)
  · right
    obtain ⟨o, ho⟩ := Int.eq_ofNat_of_zero_le h
    obtain ⟨h1, h2⟩ := Lib.indexByte_some ho
    rw [List.getElem?_drop] at h1
    have hlt : i + o < s.size := by
      rcases Nat.lt_or_ge (i + o) s.data.toList.length with hl | hl
      · exact hl
      · rw [List.getElem?_eq_none hl] at h1; cases h1
    refine ⟨o, ho, hlt, (at_data s _ c hc hlt).1 h1, fun x hx1 hx2 e => ?_⟩
    have h3 := h2 (x - i) (by omega)
    rw [List.getElem?_drop, show i + (x - i) = x from by omega] at h3
    exact h3 ((at_data s x c hc (by omega)).2 e)

section
variable {w w' : World} {b : Nat} {s : ByteArray} {er pl : Int} {v : Value} {d : Int}
set_option maxHeartbeats 1000000 in
theorem upto_any {i : Nat} (r : PR w b s i er pl v d) (hi : i ≤ s.size) (hs : s.size ≤ 100000) :
    Calls Tryd.prog 106 #[.pointer (some ⟨b, 0, none⟩), .int .u8 125] w fun e w' => Touch b b w w' ∧
      ((e = .returned (.tuple #[.string ⟨#[]⟩, .bool false]) ∧ (bs s).length ≤ braceEnd (bs s) (bs s).length i ∧ PR w' b s i 40 s.size v d) ∨
       (∃ j, braceEnd (bs s) (bs s).length i = j ∧ j < s.size ∧ i ≤ j ∧ e = .returned (.tuple #[.string (s.extract i j), .bool true]) ∧ PR w' b s ((j + 1 : Nat) : Int) er pl v d)) := by
  obtain ⟨c0, c1, c2, c3, c4, c5⟩ := r.cells
  have ht := r.thawed
  have hbl := bs_len s
  have hX := fun w => idx_any (s.extract i s.size) 125 w
  have hii : (i : Int) ≤ (s.size : Int) := by omega
  rcases idx_cut s i 125 (by decide) with ⟨h1, h2⟩ | ⟨o, h1, h2, h3, h4⟩
  · have H2 : Hid ((bs s).length ≤ braceEnd (bs s) (bs s).length i) := by
      rw [braceEnd_eq (t := bs s) (k := (bs s).length) (bs s).length i (by rw [hbl]; exact hi) (Nat.le_refl _) (fun x hx1 hx2 => h2 x hx1 (by rw [hbl] at hx2; exact hx2)) (fun h => by omega) (by omega)]
      exact Nat.le_refl _
    rw [h1] at hX
    clear h1 h2 hbl
    go_enter Tryd.func106, Tryd.ntmps106
    go_wp2
    go_quiet ((go_at_call 26; exact Calls.quiet_of_same (hX _)))
    rename_i nq
    have R := r.drewN nq
    have T := (Touch.refl b b w).drewN nq
    go_wp2_with fail
    refine (fail_any R 40 s.size).mono ?_
    rintro e w2 ⟨rfl, R2, T2⟩
    go_wp2
    go_ret2
    exact ⟨T.trans T2, .inl ⟨rfl, H2.out, R2⟩⟩
  · rw [h1] at hX
    have HB := hidd (braceEnd_eq (t := bs s) (k := i + o) (bs s).length i (by omega) (by rw [hbl]; omega) h4 (fun _ => h3) (by omega))
    clear h1 h3 h4 hbl
    have hoi : (i : Int) + (o : Int) < (s.size : Int) := by omega
    have hni : ¬ ((o : Int) < 0) := by omega
    go_enter Tryd.func106, Tryd.ntmps106
    go_wp2
    go_quiet ((go_at_call 26; exact Calls.quiet_of_same (hX _)))
    rename_i nq
    have R := r.drewN nq
    have T := (Touch.refl b b w).drewN nq
    go_wp2
    go_ret2
    refine ⟨T.set1 _ _, .inr ⟨i + o, HB.out, h2, by omega, ?_, ?_⟩⟩
    · rfl
    · rw [show (i : Int) + ((o : Int) + 1) = ((i + o + 1 : Nat) : Int) from by omega]
      exact R.atTo _

/-- What is read is a byte, and where it ends; or what is wrong. -/
def GotB (b : Nat) (s : ByteArray) (er pl : Int) (v : Value) (d : Int) (R : Except Bad (Nat × Nat)) (e : Ending) (w' : World) : Prop :=
  match R with
  | .ok (c, j) => e = .returned (.tuple #[.int .u8 (c : Int), .bool true]) ∧ PR w' b s (j : Int) er pl v d
  | .error (x, p) => e = .returned (.tuple #[.int .u8 0, .bool false]) ∧ ∃ j : Nat, PR w' b s (j : Int) (x : Int) (p : Int) v d
/-- A digit of sixteen; -1: it is none. -/
def hexC (c : Nat) : Int := match hexV c with | some x => (x : Int) | none => -1
theorem idx_hex : ∀ c, c < 256 → idx { data := #[48, 49, 50, 51, 52, 53, 54, 55, 56, 57, 97, 98, 99, 100, 101, 102] } c = hexC c := by decide +kernel
theorem hexV_le {c x : Nat} (h : hexV c = some x) : x ≤ 15 := by
  unfold hexV digitB at h
  split at h
  · rename_i h1
    simp at h1
    cases h
    omega
  · split at h
    · cases h; omega
    · cases h
/-- Two digits, behind an escape that began at f. -/
def hexR (t : List Nat) (f i : Nat) : Except Bad (Nat × Nat) :=
  if t.length ≤ i + 1 then .error (40, t.length) else match hexV (at_ t i), hexV (at_ t (i + 1)) with
    | some x, some y => .ok (16 * x + y, i + 2)
    | _, _ => .error (43, f)
set_option maxHeartbeats 1000000 in
theorem hex_any {i f : Nat} (r : PR w b s i er pl v d) (hi : i ≤ s.size) (hs : s.size ≤ 100000) :
    Calls Tryd.prog 105 #[.pointer (some ⟨b, 0, none⟩), .int .i64 (f : Int)] w fun e w' => Touch b b w w' ∧ GotB b s er pl v d (hexR (bs s) f i) e w' := by
  obtain ⟨c0, c1, c2, c3, c4, c5⟩ := r.cells
  have hbl := bs_len s
  have hw : IntKind.i64.wrap ((s.size : Int) - (i : Int)) = (s.size : Int) - (i : Int) := by rw [IntKind.wrap_i64]; omega
  by_cases h : (bs s).length ≤ i + 1
  · have hR : Hid (hexR (bs s) f i = .error (40, s.size)) := by show _ = _; unfold hexR; rw [if_pos h, hbl]
    have hlt : decide ((s.size : Int) - (i : Int) < 2) = true := decide_eq_true (by omega)
    clear h hbl
    go_enter Tryd.func105, Tryd.ntmps105
    go_wp2
    go_quiet (fail)
    rename_i nq
    have R := r.drewN nq
    have T := (Touch.refl b b w).drewN nq
    clear hw
    go_wp2_with fail
    refine (fail_any R 40 s.size).mono ?_
    rintro e w2 ⟨rfl, R2, T2⟩
    go_wp2
    go_ret2
    refine ⟨T.trans T2, ?_⟩
    rw [hR.out]
    exact ⟨rfl, i, R2⟩
  · have hlt : decide ((s.size : Int) - (i : Int) < 2) = false := decide_eq_false (by omega)
    have hi1 : i < s.size := by omega
    have hi2 : i + 1 < s.size := by omega
    have b1 := bs_lt s
    have hm : ∀ k, at_ (bs s) k < 256 := fun k => by
      unfold at_
      rw [List.getD_eq_getElem?_getD]
      rcases Nat.lt_or_ge k (bs s).length with h3 | h3
      · rw [List.getElem?_eq_getElem h3]; exact b1 _ (List.getElem_mem h3)
      · rw [List.getElem?_eq_none h3]; decide
    have hX := fun w => idx_any { data := #[48, 49, 50, 51, 52, 53, 54, 55, 56, 57, 97, 98, 99, 100, 101, 102] } (at_ (bs s) i) w
    have hY := fun w => idx_any { data := #[48, 49, 50, 51, 52, 53, 54, 55, 56, 57, 97, 98, 99, 100, 101, 102] } (at_ (bs s) (i + 1)) w
    rw [idx_hex _ (hm _)] at hX hY
    have hR : Hid (hexR (bs s) f i = match hexV (at_ (bs s) i), hexV (at_ (bs s) (i + 1)) with
      | some x, some y => .ok (16 * x + y, i + 2)
      | _, _ => .error (43, f)) := by show _ = _; unfold hexR; rw [if_neg h]
    clear h hbl b1 hm
    go_enter Tryd.func105, Tryd.ntmps105
    go_wp2
    go_quiet (fail)
    rename_i nq
    have R := r.drewN nq
    have T := (Touch.refl b b w).drewN nq
    clear hw hlt c0 c1 c2 c3 c4 c5
    go_wp2_with fail
    refine (next_any R hi1 hs).mono ?_
    rintro e w2 ⟨rfl, R2, T2⟩
    go_wp2_with fail
    refine (hX _).mono ?_
    rintro e w3 ⟨rfl, rfl⟩
    go_wp2_with fail
    refine (next_any R2 hi2 hs).mono ?_
    rintro e w3 ⟨rfl, R3, T3⟩
    go_wp2_with fail
    refine (hY _).mono ?_
    rintro e w4 ⟨rfl, rfl⟩
    have T4 := (T.trans T2).trans T3
    clear hX hY T T2 T3 R R2 r
    cases hx : hexV (at_ (bs s) i) with
    | none =>
      rw [hx] at hR
      rw [show hexC (at_ (bs s) i) = -1 from by unfold hexC; rw [hx]]
      generalize hexC (at_ (bs s) (i + 1)) = z2
      clear hx
      go_wp2_with fail
      refine (fail_any R3 43 f).mono ?_
      rintro e w2 ⟨rfl, R4, T5⟩
      go_wp2
      go_ret2
      refine ⟨T4.trans T5, ?_⟩
      rw [hR.out]
      exact ⟨rfl, i + 1 + 1, R4⟩
    | some x =>
      have hxl := hexV_le hx
      cases hy : hexV (at_ (bs s) (i + 1)) with
      | none =>
        rw [hx, hy] at hR
        rw [show hexC (at_ (bs s) i) = x from by unfold hexC; rw [hx], show hexC (at_ (bs s) (i + 1)) = -1 from by unfold hexC; rw [hy]]
        clear hx hy
        have hx0 : ¬ ((x : Int) < 0) := by omega
        go_wp2_with fail
        refine (fail_any R3 43 f).mono ?_
        rintro e w2 ⟨rfl, R4, T5⟩
        go_wp2
        go_ret2
        refine ⟨T4.trans T5, ?_⟩
        rw [hR.out]
        exact ⟨rfl, i + 1 + 1, R4⟩
      | some y =>
        have hyl := hexV_le hy
        rw [hx, hy] at hR
        rw [show hexC (at_ (bs s) i) = x from by unfold hexC; rw [hx], show hexC (at_ (bs s) (i + 1)) = y from by unfold hexC; rw [hy]]
        have hx0 : ¬ ((x : Int) < 0) := by omega
        have hy0 : decide ((y : Int) < 0) = false := decide_eq_false (by omega)
        clear hx hy
        go_wp2
        go_ret2
        refine ⟨T4, ?_⟩
        rw [hR.out]
        refine ⟨?_, R3⟩
        show Ending.returned (.tuple #[.int .u8 ((x : Int) * 16 + (y : Int)), .bool true]) = _
        rw [show (x : Int) * 16 + (y : Int) = ((16 * x + y : Nat) : Int) from by omega]
end

end Go.Proofs.YtghjkbjpdjlddaaDoor.Sy

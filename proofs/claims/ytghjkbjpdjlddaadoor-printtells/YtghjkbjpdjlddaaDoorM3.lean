/- M3: what were Ta Tb Tc Td Te Tf Tg Th Ti Tj. -/
import Derived.Test.YtghjkbjpdjlddaaDoorM2
import Derived.Test.YtghjkbjpdjlddaaDoorVv
import Derived.Test.YtghjkbjpdjlddaaDoorShelf
import Derived.Lib.IndexAny
import Derived.Lib.IndexLaws
import Derived.Lib.IndexBytes
import Derived.Test.YtghjkbjpdjlddaaDoorM1
import Derived.Lib.AtoiAll
import Derived.WalkLawsBesides

/- The landed parser in memory: a block of six cells; what only reads it, and what goes on by a byte. -/
namespace Go.Proofs.YtghjkbjpdjlddaaDoor.Sy
open Go.RowKit

abbrev pC (s : ByteArray) (i er pl : Int) (v : Value) (d : Int) : Array Value := #[.string s, .int .i64 i, .int .i64 er, .int .i64 pl, v, .int .i64 d]
/-- Block b is a parser: its text, its place, what is wrong and where, its nodes, how deep it is. -/
def PR (w : World) (b : Nat) (s : ByteArray) (i er pl : Int) (v : Value) (d : Int) : Prop := RowA w b 47 (pC s i er pl v d)
section
variable {w w' : World} {b : Nat} {s : ByteArray} {i er pl : Int} {v : Value} {d : Int}
theorem PR.cells (r : PR w b s i er pl v d) : w.cell? ⟨b, 0, none⟩ = some (.string s) ∧ w.cell? ⟨b, 1, none⟩ = some (.int .i64 i) ∧ w.cell? ⟨b, 2, none⟩ = some (.int .i64 er) ∧ w.cell? ⟨b, 3, none⟩ = some (.int .i64 pl) ∧ w.cell? ⟨b, 4, none⟩ = some v ∧ w.cell? ⟨b, 5, none⟩ = some (.int .i64 d) :=
  ⟨RowA.at_ r rfl, RowA.at_ r rfl, RowA.at_ r rfl, RowA.at_ r rfl, RowA.at_ r rfl, RowA.at_ r rfl⟩
theorem PR.thawed (r : PR w b s i er pl v d) (o : Nat) : w.frozen? ⟨b, o, none⟩ = false := RowA.thawed r o
theorem PR.lt (r : PR w b s i er pl v d) : b < w.heap.size := RowA.lt r
theorem PR.drewN (r : PR w b s i er pl v d) (m : Nat) : PR (w.drewN m) b s i er pl v d := r
theorem PR.drew (r : PR w b s i er pl v d) : PR w.drew b s i er pl v d := r
theorem PR.below {B : Nat} (r : PR w b s i er pl v d) (hb : Below B w w') (hg : b < B) : PR w' b s i er pl v d := RowA.below r hb hg
theorem PR.alloc (r : PR w b s i er pl v d) (o : Obj) : PR (w.alloc o) b s i er pl v d := RowA.alloc r o
theorem PR.atTo (r : PR w b s i er pl v d) (j : Int) : PR (w.setCell ⟨b, 1, none⟩ (.int .i64 j)) b s j er pl v d := by
  unfold PR RowA at r ⊢
  simp [World.setCell, Array.getElem?_modify, r]
theorem PR.bad (r : PR w b s i er pl v d) (e p : Int) : PR ((w.setCell ⟨b, 2, none⟩ (.int .i64 e)).setCell ⟨b, 3, none⟩ (.int .i64 p)) b s i e p v d := by
  unfold PR RowA at r ⊢
  simp [World.setCell, Array.getElem?_modify, r]
theorem PR.deep (r : PR w b s i er pl v d) (k : Int) : PR (w.setCell ⟨b, 5, none⟩ (.int .i64 k)) b s i er pl v k := by
  unfold PR RowA at r ⊢
  simp [World.setCell, Array.getElem?_modify, r]
theorem PR.nodes (r : PR w b s i er pl v d) (u : Value) : PR (w.setCell ⟨b, 4, none⟩ u) b s i er pl u d := by
  unfold PR RowA at r ⊢
  simp [World.setCell, Array.getElem?_modify, r]
end

/-- Is there a byte at i, and is it one of these? -/
def seesB (s : List Nat) (i : Nat) (t : List Nat) : Bool := decide (i < s.length) && t.contains (at_ s i)
/-- Where a byte is in a text; -1: nowhere. -/
def idx (t : ByteArray) (c : Nat) : Int := Lib.indexByte t.data.toList c.toUInt8
theorem bs_has (t : ByteArray) (c : UInt8) : (bs t).contains c.toNat = t.data.toList.contains c := by
  unfold bs
  generalize t.data.toList = l
  induction l with
  | nil => rfl
  | cons x r ih =>
    rw [List.map_cons, List.contains_cons, List.contains_cons, ih]
    congr 1
    by_cases h : c = x
    · subst h; simp
    · have h2 : ¬ c.toNat = x.toNat := fun e => h (UInt8.toNat_inj.1 e)
      rw [beq_eq_false_iff_ne.2 h, beq_eq_false_iff_ne.2 h2]
theorem u8_back (x : UInt8) : (x.toNat).toUInt8 = x := by simp
theorem idx_has (t : ByteArray) (x : UInt8) : decide (0 ≤ idx t x.toNat) = (bs t).contains x.toNat := by
  unfold idx
  rw [u8_back, bs_has, Lib.contains_iff_indexByte]
theorem idx_any (t : ByteArray) (c : Nat) (w : World) : Calls Tryd.prog 26 #[.string t, .int .u8 (c : Int)] w fun e w' => e = .returned (.int .i64 (idx t c)) ∧ w' = w := by
  have := Tryd.strings_IndexByte t (c : Int) w
  rw [Int.toNat_natCast] at this
  exact this

section
variable {w : World} {b : Nat} {s : ByteArray} {er pl : Int} {v : Value} {d : Int}
theorem ended_no {i : Nat} (r : PR w b s i er pl v d) (hi : i < s.size) : Calls Tryd.prog 37 #[.pointer (some ⟨b, 0, none⟩)] w fun e w' => e = .returned (.bool false) ∧ ∃ m, w' = w.drewN m := by
  obtain ⟨c0, c1, c2, c3, c4, c5⟩ := r.cells
  have h1 : ((i : Int) == (s.size : Int)) = false := by simp; omega
  go_enter Tryd.func37, Tryd.ntmps37
  go_wp2
  go_quiet (fail)
  go_wp2
  go_ret
  exact ⟨rfl, _, rfl⟩
theorem ended_yes {i : Nat} (r : PR w b s i er pl v d) (hi : i = s.size) : Calls Tryd.prog 37 #[.pointer (some ⟨b, 0, none⟩)] w fun e w' => e = .returned (.bool true) ∧ ∃ m, w' = w.drewN m := by
  subst hi
  obtain ⟨c0, c1, c2, c3, c4, c5⟩ := r.cells
  go_enter Tryd.func37, Tryd.ntmps37
  go_wp2
  go_quiet (fail)
  go_wp2
  go_ret
  exact ⟨rfl, _, rfl⟩
theorem fail_any {i : Int} (r : PR w b s i er pl v d) (e p : Int) : Calls Tryd.prog 38 #[.pointer (some ⟨b, 0, none⟩), .int .i64 e, .int .i64 p] w fun en w' => en = .returned (.bool false) ∧ PR w' b s i e p v d ∧ Touch b b w w' := by
  obtain ⟨c0, c1, c2, c3, c4, c5⟩ := r.cells
  have ht := r.thawed
  go_enter Tryd.func38, Tryd.ntmps38
  go_wp2
  go_ret
  exact ⟨rfl, r.bad e p, ((Touch.refl b b w).set1 _ _).set1 _ _⟩
theorem next_any {i : Nat} (r : PR w b s i er pl v d) (hi : i < s.size) (hs : s.size ≤ 100000) : Calls Tryd.prog 90 #[.pointer (some ⟨b, 0, none⟩)] w fun e w' => e = .returned (.int .u8 ((at_ (bs s) i : Nat) : Int)) ∧ PR w' b s ((i + 1 : Nat) : Int) er pl v d ∧ Touch b b w w' := by
  have hak := at_bs s i hi
  rw [hak]
  obtain ⟨c0, c1, c2, c3, c4, c5⟩ := r.cells
  have ht := r.thawed
  have hi1 : (i : Int) < (s.size : Int) := by omega
  go_enter Tryd.func90, Tryd.ntmps90
  go_wp2
  go_quiet (fail)
  go_wp2
  go_ret
  exact ⟨rfl, (r.drewN _).atTo _, ((Touch.refl b b w).drewN _).set1 _ _⟩
end

end Go.Proofs.YtghjkbjpdjlddaaDoor.Sy

/- The landed reader: what it sees, what it takes, a name, digits, an escape, a byte of a class. -/
namespace Go.Proofs.YtghjkbjpdjlddaaDoor.Sy
open Go.RowKit

set_option maxHeartbeats 400000 in
theorem pdigit_any (c : Nat) (w : World) : Calls Tryd.prog 72 #[.int .u8 (c : Int)] w fun e w' => e = .returned (.bool (digitB c)) ∧ w' = w := by
  by_cases h1 : 48 ≤ c
  · have h1i : (48 : Int) ≤ (c : Int) := by omega
    by_cases h2 : c ≤ 57
    · have HV : Hid (digitB c = true) := by show _ = _; simp [digitB, h1, h2]
      have h2i : (c : Int) ≤ 57 := by omega
      go_enter Tryd.func72, Tryd.ntmps72
      go_wp2
      go_ret
      exact ⟨by rw [HV.out]; rfl, rfl⟩
    · have HV : Hid (digitB c = false) := by show _ = _; simp [digitB]; omega
      have h2i : ¬ (c : Int) ≤ 57 := by omega
      go_enter Tryd.func72, Tryd.ntmps72
      go_wp2
      go_ret
      exact ⟨by rw [HV.out]; rfl, rfl⟩
  · have HV : Hid (digitB c = false) := by show _ = _; simp [digitB]; omega
    have h1i : ¬ (48 : Int) ≤ (c : Int) := by omega
    go_enter Tryd.func72, Tryd.ntmps72
    go_wp2
    go_ret
    exact ⟨by rw [HV.out]; rfl, rfl⟩

section
variable {w : World} {b : Nat} {s : ByteArray} {er pl : Int} {v : Value} {d : Int}
set_option maxHeartbeats 400000 in
theorem sees_any {i : Nat} (r : PR w b s i er pl v d) (hi : i ≤ s.size) (t : ByteArray) : Calls Tryd.prog 69 #[.pointer (some ⟨b, 0, none⟩), .string t] w fun e w' => e = .returned (.bool (seesB (bs s) i (bs t))) ∧ ∃ m, w' = w.drewN m := by
  obtain ⟨c0, c1, c2, c3, c4, c5⟩ := r.cells
  rcases Nat.lt_or_ge i s.size with hlt | hge
  · have hE := fun m => ended_no (r.drewN m) hlt
    have hi1 : (i : Int) < (s.size : Int) := by omega
    have hX := fun w => idx_any t s[i].toNat w
    have hv : seesB (bs s) i (bs t) = decide (0 ≤ idx t s[i].toNat) := by
      unfold seesB
      rw [decide_eq_true (by rw [bs_len]; exact hlt), Bool.true_and, at_bs s i hlt, idx_has]
    have HV := hidd hv
    clear hv
    generalize idx t s[i].toNat = z at *
    go_enter Tryd.func69, Tryd.ntmps69
    go_wp2
    go_quiet (first | (go_at_call 37; exact Calls.quiet_of (hE _)) | (go_at_call 26; exact Calls.quiet_of_same (hX _)))
    go_wp2
    go_ret
    exact ⟨by rw [HV.out]; rfl, _, rfl⟩
  · have hE := fun m => ended_yes (r.drewN m) (by omega)
    have HV : Hid (seesB (bs s) i (bs t) = false) := by show _ = _; unfold seesB; rw [decide_eq_false (by rw [bs_len]; omega), Bool.false_and]
    go_enter Tryd.func69, Tryd.ntmps69
    go_wp2
    go_quiet ((go_at_call 37; exact Calls.quiet_of (hE _)))
    go_wp2
    go_ret
    exact ⟨by rw [HV.out]; rfl, _, rfl⟩

set_option maxHeartbeats 400000 in
theorem takes_yes {i c : Nat} (r : PR w b s i er pl v d) (hs : s.size ≤ 100000) (h : is (bs s) i c = true) :
    Calls Tryd.prog 56 #[.pointer (some ⟨b, 0, none⟩), .int .u8 (c : Int)] w fun e w' => e = .returned (.bool true) ∧ PR w' b s ((i + 1 : Nat) : Int) er pl v d ∧ Touch b b w w' := by
  obtain ⟨c0, c1, c2, c3, c4, c5⟩ := r.cells
  have ht := r.thawed
  obtain ⟨h1, h2⟩ := is_lt h
  rw [bs_len] at h1
  rw [at_bs s i h1] at h2
  have hE := fun m => ended_no (r.drewN m) h1
  have hi1 : (i : Int) < (s.size : Int) := by omega
  subst h2
  clear h
  go_enter Tryd.func56, Tryd.ntmps56
  go_wp2
  go_quiet ((go_at_call 37; exact Calls.quiet_of (hE _)))
  go_wp2
  go_ret
  exact ⟨rfl, (r.drewN _).atTo _, ((Touch.refl b b w).drewN _).set1 _ _⟩
set_option maxHeartbeats 400000 in
theorem takes_no {i c : Nat} (r : PR w b s i er pl v d) (hi : i ≤ s.size) (h : is (bs s) i c = false) :
    Calls Tryd.prog 56 #[.pointer (some ⟨b, 0, none⟩), .int .u8 (c : Int)] w fun e w' => e = .returned (.bool false) ∧ ∃ m, w' = w.drewN m := by
  obtain ⟨c0, c1, c2, c3, c4, c5⟩ := r.cells
  rcases Nat.lt_or_ge i s.size with hlt | hge
  · have hE := fun m => ended_no (r.drewN m) hlt
    rw [is_of (by rw [bs_len]; exact hlt), at_bs s i hlt] at h
    have hi1 : (i : Int) < (s.size : Int) := by omega
    have hne : (((s[i].toNat : Nat) : Int) == (c : Int)) = false := by
      simp only [beq_eq_false_iff_ne] at h ⊢
      omega
    clear h
    go_enter Tryd.func56, Tryd.ntmps56
    go_wp2
    go_quiet ((go_at_call 37; exact Calls.quiet_of (hE _)))
    go_wp2
    go_ret
    exact ⟨rfl, _, rfl⟩
  · have hE := fun m => ended_yes (r.drewN m) (by omega)
    go_enter Tryd.func56, Tryd.ntmps56
    go_wp2
    go_quiet ((go_at_call 37; exact Calls.quiet_of (hE _)))
    go_wp2
    go_ret
    exact ⟨rfl, _, rfl⟩

theorem sees_one (t : List Nat) (i c : Nat) : seesB t i [c] = is t i c := by
  unfold seesB is
  congr 1
  by_cases h : at_ t i = c
  · simp [h]
  · rw [beq_eq_false_iff_ne.2 h]
    simp [h]
set_option maxHeartbeats 400000 in
theorem bnds_any {i : Nat} (r : PR w b s i er pl v d) (hi : i ≤ s.size) (hs : s.size ≤ 100000) : Calls Tryd.prog 80 #[.pointer (some ⟨b, 0, none⟩)] w fun e w' => e = .returned (.bool (is (bs s) i 123 && dig (bs s) (i + 1))) ∧ ∃ m, w' = w.drewN m := by
  obtain ⟨c0, c1, c2, c3, c4, c5⟩ := r.cells
  have hS := fun m => sees_any (r.drewN m) hi { data := #[123] }
  rw [show bs { data := #[123] } = [123] from rfl, sees_one] at hS
  cases hq : is (bs s) i 123 with
  | false =>
    rw [hq] at hS
    clear hq
    go_enter Tryd.func80, Tryd.ntmps80
    go_wp2
    go_quiet ((go_at_call 69; exact Calls.quiet_of (hS _)))
    go_wp2
    go_ret
    exact ⟨rfl, _, rfl⟩
  | true =>
    rw [hq] at hS
    obtain ⟨h1, -⟩ := is_lt hq
    rw [bs_len] at h1
    clear hq
    have hw : IntKind.i64.wrap ((i : Int) + 1) = (i : Int) + 1 := by rw [IntKind.wrap_i64]; omega
    by_cases h2 : i + 1 < s.size
    · have h2i : (i : Int) + 1 < (s.size : Int) := by omega
      have h3i : decide ((i : Int) + 1 < (s.size : Int)) = true := decide_eq_true h2i
      have h4i : (0 : Int) ≤ (i : Int) + 1 := by omega
      have h5i : ((i : Int) + 1).toNat = i + 1 := by omega
      have hD := fun w => pdigit_any s[i + 1].toNat w
      have HV : Hid (dig (bs s) (i + 1) = digitB s[i + 1].toNat) := by
        show _ = _
        unfold dig
        rw [decide_eq_true (by rw [bs_len]; exact h2), Bool.true_and, at_bs s (i + 1) h2]
      generalize digitB s[i + 1].toNat = q at *
      go_enter Tryd.func80, Tryd.ntmps80
      go_wp2
      go_quiet (first | (go_at_call 69; exact Calls.quiet_of (hS _)) | (go_at_call 72; exact Calls.quiet_of_same (hD _)))
      go_wp2
      go_ret
      exact ⟨by rw [HV.out]; rfl, _, rfl⟩
    · have h2i : ¬ (i : Int) + 1 < (s.size : Int) := by omega
      have h3i : decide ((i : Int) + 1 < (s.size : Int)) = false := decide_eq_false h2i
      have HV : Hid (dig (bs s) (i + 1) = false) := by
        show _ = _
        unfold dig
        rw [decide_eq_false (by rw [bs_len]; exact h2), Bool.false_and]
      go_enter Tryd.func80, Tryd.ntmps80
      go_wp2
      go_quiet ((go_at_call 69; exact Calls.quiet_of (hS _)))
      go_wp2
      go_ret
      exact ⟨by rw [HV.out]; rfl, _, rfl⟩
end

end Go.Proofs.YtghjkbjpdjlddaaDoor.Sy

/- The landed reader: digits, what stands up to a brace, an escape. -/
namespace Go.Proofs.YtghjkbjpdjlddaaDoor.Sy
open Go.RowKit
set_option maxRecDepth 100000

/-- Where a parser is. -/
def atOf (w : World) (b : Nat) : Nat := match w.cell? ⟨b, 1, none⟩ with
  | some (.int _ k) => k.toNat
  | _ => 0
section
variable {w w' : World} {b : Nat} {s : ByteArray} {er pl : Int} {v : Value} {d : Int}
theorem PR.atOf {i : Nat} (r : PR w b s i er pl v d) : atOf w b = i := by
  obtain ⟨c0, c1, c2, c3, c4, c5⟩ := r.cells
  unfold Sy.atOf
  rw [c1]
  simp
theorem digEnd_eq {t : List Nat} {k : Nat} : ∀ (f i : Nat), i ≤ k → (∀ x, i ≤ x → x < k → dig t x = true) → dig t k = false → k - i ≤ f → digEnd t f i = k
  | 0, i, h, _, _, hf => by unfold digEnd; omega
  | f + 1, i, h, h1, h2, hf => by
    unfold digEnd
    rcases Nat.eq_or_lt_of_le h with e | e
    · subst e
      rw [h2]
      rfl
    · rw [h1 i (Nat.le_refl _) e]
      simp only [if_true]
      exact digEnd_eq f (i + 1) e (fun x h3 h4 => h1 x (by omega) h4) h2 (by omega)
theorem ex_bs (s : ByteArray) (i j : Nat) : bs (s.extract i j) = cut (bs s) i j := by
  unfold bs cut
  rw [← List.map_drop, ← List.map_take]
  congr 1
  rw [ByteArray.data_extract, Array.toList_extract]

set_option maxHeartbeats 400000 in
theorem fail_end {i : Nat} (r : PR w b s i er pl v d) (hi : i = s.size) (e : Int) : Calls Tryd.prog 109 #[.pointer (some ⟨b, 0, none⟩), .int .i64 e] w fun en w' => en = .returned (.bool false) ∧ PR w' b s i 40 i v d ∧ Touch b b w w' := by
  subst hi
  go_enter Tryd.func109, Tryd.ntmps109
  go_wp2_with fail
  refine (ended_yes r rfl).mono ?_
  rintro e w1 ⟨rfl, m, rfl⟩
  have R := r.drewN m
  have T := (Touch.refl b b w).drewN m
  generalize w.drewN m = w1 at *
  obtain ⟨c0, c1, c2, c3, c4, c5⟩ := R.cells
  go_wp2_with fail
  refine (fail_any R 40 s.size).mono ?_
  rintro e w2 ⟨rfl, R2, T2⟩
  go_wp2
  go_ret
  exact ⟨rfl, R2, T.trans T2⟩
set_option maxHeartbeats 400000 in
theorem fail_here {i : Nat} (r : PR w b s i er pl v d) (hi : i < s.size) (e : Int) : Calls Tryd.prog 109 #[.pointer (some ⟨b, 0, none⟩), .int .i64 e] w fun en w' => en = .returned (.bool false) ∧ PR w' b s i e i v d ∧ Touch b b w w' := by
  go_enter Tryd.func109, Tryd.ntmps109
  go_wp2_with fail
  refine (ended_no r hi).mono ?_
  rintro e w1 ⟨rfl, m, rfl⟩
  have R := r.drewN m
  have T := (Touch.refl b b w).drewN m
  generalize w.drewN m = w1 at *
  obtain ⟨c0, c1, c2, c3, c4, c5⟩ := R.cells
  go_wp2_with fail
  refine (fail_any R _ i).mono ?_
  rintro e w2 ⟨rfl, R2, T2⟩
  go_wp2
  go_ret
  exact ⟨rfl, R2, T.trans T2⟩

set_option maxRecDepth 100000 in
set_option maxHeartbeats 1000000 in
theorem pdigits_any {i : Nat} (r : PR w b s i er pl v d) (hi : i ≤ s.size) (hs : s.size ≤ 100000) :
    Calls Tryd.prog 108 #[.pointer (some ⟨b, 0, none⟩)] w fun e w' => ∃ j, digEnd (bs s) (bs s).length i = j ∧ i ≤ j ∧ j ≤ s.size ∧ e = .returned (.string (s.extract i j)) ∧ PR w' b s j er pl v d ∧ Touch b b w w' := by
  have hbl := bs_len s
  obtain ⟨c0, c1, c2, c3, c4, c5⟩ := r.cells
  go_enter Tryd.func108, Tryd.ntmps108
  go_wp2
  clear c0 c1 c2 c3 c4 c5
  go_loopw [8] (fun _ wr => ∃ k : Nat, i ≤ k ∧ k ≤ s.size ∧ (∀ x, i ≤ x → x < k → dig (bs s) x = true) ∧ PR wr b s k er pl v d ∧ Touch b b w wr) (fun _ wr => s.size - atOf wr b)
  case atStart => exact ⟨i, Nat.le_refl _, hi, fun x h1 h2 => by omega, r, Touch.refl _ _ _⟩
  case round =>
    obtain ⟨k, h1, h2, h3, R, T⟩ := hrel
    obtain ⟨c0, c1, c2, c3, c4, c5⟩ := R.cells
    have ht := R.thawed
    have hao := hidd R.atOf
    have H3 := hidd h3
    clear h3
    rcases Nat.lt_or_ge k s.size with hlt | hge
    · have hE := fun m => ended_no (R.drewN m) hlt
      have hk1 : (k : Int) < (s.size : Int) := by omega
      have hD := fun w => pdigit_any s[k].toNat w
      have HV : Hid (dig (bs s) k = digitB s[k].toNat) := by
        show _ = _
        unfold dig
        rw [decide_eq_true (by rw [hbl]; exact hlt), Bool.true_and, at_bs s k hlt]
      generalize digitB s[k].toNat = q at *
      cases q with
      | true =>
        go_wp2
        go_quiet (first | (go_at_call 37; exact Calls.quiet_of (hE _)) | (go_at_call 72; exact Calls.quiet_of_same (hD _)))
        go_wp2
        rename_i nq
        have R2 := (R.drewN nq).atTo ((k + 1 : Nat) : Int)
        refine ⟨⟨k + 1, by omega, hlt, fun x h4 h5 => ?_, R2, (T.drewN _).set1 _ _⟩, ?_⟩
        · rcases Nat.lt_or_ge x k with h6 | h6
          · exact H3.out x h4 h6
          · rw [show x = k from by omega]; exact HV.out
        · have e := R2.atOf
          rw [Int.natCast_succ] at e
          rw [hao.out, e]
          omega
      | false =>
        go_wp2
        go_quiet (first | (go_at_call 37; exact Calls.quiet_of (hE _)) | (go_at_call 72; exact Calls.quiet_of_same (hD _)))
        go_wp2
        have hik : (i : Int) ≤ (k : Int) := by omega
        go_quiet (fail)
        go_wp2
        go_ret
        exact ⟨k, digEnd_eq _ _ h1 H3.out HV.out (by omega), h1, h2, rfl, (R.drewN _).drewN _, (T.drewN _).drewN _⟩
    · have hk : k = s.size := by omega
      subst hk
      have hE := fun m => ended_yes (R.drewN m) rfl
      have hik : (i : Int) ≤ (s.size : Int) := by omega
      go_wp2
      go_quiet ((go_at_call 37; exact Calls.quiet_of (hE _)))
      go_wp2
      go_quiet (fail)
      go_wp2
      go_ret
      refine ⟨s.size, digEnd_eq _ _ h1 H3.out ?_ (by omega), h1, h2, rfl, (R.drewN _).drewN _, (T.drewN _).drewN _⟩
      unfold dig
      rw [decide_eq_false (by rw [hbl]; omega), Bool.false_and]
end

end Go.Proofs.YtghjkbjpdjlddaaDoor.Sy

/- The landed reader: what stands up to a brace, two digits, an escape, a byte of a class. -/
namespace Go.Proofs.YtghjkbjpdjlddaaDoor.Sy
open Go.RowKit
set_option maxRecDepth 100000

theorem braceEnd_eq {t : List Nat} {k : Nat} : ∀ (f i : Nat), i ≤ k → k ≤ t.length → (∀ x, i ≤ x → x < k → at_ t x ≠ 125) → (k < t.length → at_ t k = 125) → k - i ≤ f → braceEnd t f i = k
  | 0, i, h, _, _, _, hf => by unfold braceEnd; omega
  | f + 1, i, h, hl, h1, h2, hf => by
    unfold braceEnd
    rcases Nat.eq_or_lt_of_le h with e | e
    · subst e
      split
      · rename_i h3
        rw [if_pos (h2 h3)]
      · rfl
    · rw [if_pos (by omega), if_neg (h1 i (Nat.le_refl _) e)]
      exact braceEnd_eq f (i + 1) e hl (fun x h3 h4 => h1 x (by omega) h4) h2 (by omega)
theorem at_data (s : ByteArray) (x c : Nat) (hc : c < 256) (hx : x < s.size) : s.data.toList[x]? = some c.toUInt8 ↔ at_ (bs s) x = c := by
  have hl : x < s.data.toList.length := hx
  unfold at_ bs
  rw [List.getD_eq_getElem?_getD, List.getElem?_map, List.getElem?_eq_getElem hl]
  simp only [Option.map_some, Option.getD_some, Option.some.injEq]
  constructor
  · intro h
    rw [h]
    simp
    omega
  · intro h
    rw [← h]
    simp
theorem ex_tail (s : ByteArray) (i : Nat) : (s.extract i s.size).data.toList = s.data.toList.drop i := by
  rw [ByteArray.data_extract, Array.toList_extract]
  have : s.size = s.data.toList.length := rfl
  rw [this]
  simp [List.extract, List.take_of_length_le]
theorem idx_cut (s : ByteArray) (i c : Nat) (hc : c < 256) :
    (idx (s.extract i s.size) c = -1 ∧ ∀ x, i ≤ x → x < s.size → at_ (bs s) x ≠ c) ∨
    (∃ o : Nat, idx (s.extract i s.size) c = (o : Int) ∧ i + o < s.size ∧ at_ (bs s) (i + o) = c ∧ ∀ x, i ≤ x → x < i + o → at_ (bs s) x ≠ c) := by
  unfold idx
  rw [ex_tail]
  have hge := Lib.indexByte_ge (s.data.toList.drop i) c.toUInt8
  rcases Int.lt_or_le (Lib.indexByte (s.data.toList.drop i) c.toUInt8) 0 with h | h
  · left
    have h1 : Lib.indexByte (s.data.toList.drop i) c.toUInt8 = -1 := by omega
    refine ⟨h1, fun x hx1 hx2 e => ?_⟩
    have h2 := Lib.indexByte_none h1 (x - i)
    rw [List.getElem?_drop, show i + (x - i) = x from by omega] at h2
    exact h2 ((at_data s x c hc hx2).2 e)
  · right
    obtain ⟨o, ho⟩ := Int.eq_ofNat_of_zero_le h
    obtain ⟨h1, h2⟩ := Lib.indexByte_some ho
    rw [List.getElem?_drop] at h1
    have hlt : i + o < s.size := by
      rcases Nat.lt_or_ge (i + o) s.data.toList.length with hl | hl
      · exact hl
      · rw [List.getElem?_eq_none hl] at h1; cases h1
    refine ⟨o, ho, hlt, (at_data s _ c hc hlt).1 h1, fun x hx1 hx2 e => ?_⟩
    have h3 := h2 (x - i) (by omega)
    rw [List.getElem?_drop, show i + (x - i) = x from by omega] at h3
    exact h3 ((at_data s x c hc (by omega)).2 e)

section
variable {w w' : World} {b : Nat} {s : ByteArray} {er pl : Int} {v : Value} {d : Int}
set_option maxHeartbeats 1000000 in
theorem upto_any {i : Nat} (r : PR w b s i er pl v d) (hi : i ≤ s.size) (hs : s.size ≤ 100000) :
    Calls Tryd.prog 106 #[.pointer (some ⟨b, 0, none⟩), .int .u8 125] w fun e w' => Touch b b w w' ∧
      ((e = .returned (.tuple #[.string ⟨#[]⟩, .bool false]) ∧ (bs s).length ≤ braceEnd (bs s) (bs s).length i ∧ PR w' b s i 40 s.size v d) ∨
       (∃ j, braceEnd (bs s) (bs s).length i = j ∧ j < s.size ∧ i ≤ j ∧ e = .returned (.tuple #[.string (s.extract i j), .bool true]) ∧ PR w' b s ((j + 1 : Nat) : Int) er pl v d)) := by
  obtain ⟨c0, c1, c2, c3, c4, c5⟩ := r.cells
  have ht := r.thawed
  have hbl := bs_len s
  have hX := fun w => idx_any (s.extract i s.size) 125 w
  have hii : (i : Int) ≤ (s.size : Int) := by omega
  rcases idx_cut s i 125 (by decide) with ⟨h1, h2⟩ | ⟨o, h1, h2, h3, h4⟩
  · have H2 : Hid ((bs s).length ≤ braceEnd (bs s) (bs s).length i) := by
      rw [braceEnd_eq (t := bs s) (k := (bs s).length) (bs s).length i (by rw [hbl]; exact hi) (Nat.le_refl _) (fun x hx1 hx2 => h2 x hx1 (by rw [hbl] at hx2; exact hx2)) (fun h => by omega) (by omega)]
      exact Nat.le_refl _
    rw [h1] at hX
    clear h1 h2 hbl
    go_enter Tryd.func106, Tryd.ntmps106
    go_wp2
    go_quiet ((go_at_call 26; exact Calls.quiet_of_same (hX _)))
    rename_i nq
    have R := r.drewN nq
    have T := (Touch.refl b b w).drewN nq
    go_wp2_with fail
    refine (fail_any R 40 s.size).mono ?_
    rintro e w2 ⟨rfl, R2, T2⟩
    go_wp2
    go_ret2
    exact ⟨T.trans T2, .inl ⟨rfl, H2.out, R2⟩⟩
  · rw [h1] at hX
    have HB := hidd (braceEnd_eq (t := bs s) (k := i + o) (bs s).length i (by omega) (by rw [hbl]; omega) h4 (fun _ => h3) (by omega))
    clear h1 h3 h4 hbl
    have hoi : (i : Int) + (o : Int) < (s.size : Int) := by omega
    have hni : ¬ ((o : Int) < 0) := by omega
    go_enter Tryd.func106, Tryd.ntmps106
    go_wp2
    go_quiet ((go_at_call 26; exact Calls.quiet_of_same (hX _)))
    rename_i nq
    have R := r.drewN nq
    have T := (Touch.refl b b w).drewN nq
    go_wp2
    go_ret2
    refine ⟨T.set1 _ _, .inr ⟨i + o, HB.out, h2, by omega, ?_, ?_⟩⟩
    · rfl
    · rw [show (i : Int) + ((o : Int) + 1) = ((i + o + 1 : Nat) : Int) from by omega]
      exact R.atTo _

/-- What is read is a byte, and where it ends; or what is wrong. -/
def GotB (b : Nat) (s : ByteArray) (er pl : Int) (v : Value) (d : Int) (R : Except Bad (Nat × Nat)) (e : Ending) (w' : World) : Prop :=
  match R with
  | .ok (c, j) => e = .returned (.tuple #[.int .u8 (c : Int), .bool true]) ∧ PR w' b s (j : Int) er pl v d
  | .error (x, p) => e = .returned (.tuple #[.int .u8 0, .bool false]) ∧ ∃ j : Nat, PR w' b s (j : Int) (x : Int) (p : Int) v d
/-- A digit of sixteen; -1: it is none. -/
def hexC (c : Nat) : Int := match hexV c with | some x => (x : Int) | none => -1
theorem idx_hex : ∀ c, c < 256 → idx { data := #[48, 49, 50, 51, 52, 53, 54, 55, 56, 57, 97, 98, 99, 100, 101, 102] } c = hexC c := by decide +kernel
theorem hexV_le {c x : Nat} (h : hexV c = some x) : x ≤ 15 := by
  unfold hexV digitB at h
  split at h
  · rename_i h1
    simp at h1
    cases h
    omega
  · split at h
    · cases h; omega
    · cases h
/-- Two digits, behind an escape that began at f. -/
def hexR (t : List Nat) (f i : Nat) : Except Bad (Nat × Nat) :=
  if t.length ≤ i + 1 then .error (40, t.length) else match hexV (at_ t i), hexV (at_ t (i + 1)) with
    | some x, some y => .ok (16 * x + y, i + 2)
    | _, _ => .error (43, f)
set_option maxHeartbeats 1000000 in
theorem hex_any {i f : Nat} (r : PR w b s i er pl v d) (hi : i ≤ s.size) (hs : s.size ≤ 100000) :
    Calls Tryd.prog 105 #[.pointer (some ⟨b, 0, none⟩), .int .i64 (f : Int)] w fun e w' => Touch b b w w' ∧ GotB b s er pl v d (hexR (bs s) f i) e w' := by
  obtain ⟨c0, c1, c2, c3, c4, c5⟩ := r.cells
  have hbl := bs_len s
  have hw : IntKind.i64.wrap ((s.size : Int) - (i : Int)) = (s.size : Int) - (i : Int) := by rw [IntKind.wrap_i64]; omega
  by_cases h : (bs s).length ≤ i + 1
  · have hR : Hid (hexR (bs s) f i = .error (40, s.size)) := by show _ = _; unfold hexR; rw [if_pos h, hbl]
    have hlt : decide ((s.size : Int) - (i : Int) < 2) = true := decide_eq_true (by omega)
    clear h hbl
    go_enter Tryd.func105, Tryd.ntmps105
    go_wp2
    go_quiet (fail)
    rename_i nq
    have R := r.drewN nq
    have T := (Touch.refl b b w).drewN nq
    clear hw
    go_wp2_with fail
    refine (fail_any R 40 s.size).mono ?_
    rintro e w2 ⟨rfl, R2, T2⟩
    go_wp2
    go_ret2
    refine ⟨T.trans T2, ?_⟩
    rw [hR.out]
    exact ⟨rfl, i, R2⟩
  · have hlt : decide ((s.size : Int) - (i : Int) < 2) = false := decide_eq_false (by omega)
    have hi1 : i < s.size := by omega
    have hi2 : i + 1 < s.size := by omega
    have b1 := bs_lt s
    have hm : ∀ k, at_ (bs s) k < 256 := fun k => by
      unfold at_
      rw [List.getD_eq_getElem?_getD]
      rcases Nat.lt_or_ge k (bs s).length with h3 | h3
      · rw [List.getElem?_eq_getElem h3]; exact b1 _ (List.getElem_mem h3)
      · rw [List.getElem?_eq_none h3]; decide
    have hX := fun w => idx_any { data := #[48, 49, 50, 51, 52, 53, 54, 55, 56, 57, 97, 98, 99, 100, 101, 102] } (at_ (bs s) i) w
    have hY := fun w => idx_any { data := #[48, 49, 50, 51, 52, 53, 54, 55, 56, 57, 97, 98, 99, 100, 101, 102] } (at_ (bs s) (i + 1)) w
    rw [idx_hex _ (hm _)] at hX hY
    have hR : Hid (hexR (bs s) f i = match hexV (at_ (bs s) i), hexV (at_ (bs s) (i + 1)) with
      | some x, some y => .ok (16 * x + y, i + 2)
      | _, _ => .error (43, f)) := by show _ = _; unfold hexR; rw [if_neg h]
    clear h hbl b1 hm
    go_enter Tryd.func105, Tryd.ntmps105
    go_wp2
    go_quiet (fail)
    rename_i nq
    have R := r.drewN nq
    have T := (Touch.refl b b w).drewN nq
    clear hw hlt c0 c1 c2 c3 c4 c5
    go_wp2_with fail
    refine (next_any R hi1 hs).mono ?_
    rintro e w2 ⟨rfl, R2, T2⟩
    go_wp2_with fail
    refine (hX _).mono ?_
    rintro e w3 ⟨rfl, rfl⟩
    go_wp2_with fail
    refine (next_any R2 hi2 hs).mono ?_
    rintro e w3 ⟨rfl, R3, T3⟩
    go_wp2_with fail
    refine (hY _).mono ?_
    rintro e w4 ⟨rfl, rfl⟩
    have T4 := (T.trans T2).trans T3
    clear hX hY T T2 T3 R R2 r
    cases hx : hexV (at_ (bs s) i) with
    | none =>
      rw [hx] at hR
      rw [show hexC (at_ (bs s) i) = -1 from by unfold hexC; rw [hx]]
      generalize hexC (at_ (bs s) (i + 1)) = z2
      clear hx
      go_wp2_with fail
      refine (fail_any R3 43 f).mono ?_
      rintro e w2 ⟨rfl, R4, T5⟩
      go_wp2
      go_ret2
      refine ⟨T4.trans T5, ?_⟩
      rw [hR.out]
      exact ⟨rfl, i + 1 + 1, R4⟩
    | some x =>
      have hxl := hexV_le hx
      cases hy : hexV (at_ (bs s) (i + 1)) with
      | none =>
        rw [hx, hy] at hR
        rw [show hexC (at_ (bs s) i) = x from by unfold hexC; rw [hx], show hexC (at_ (bs s) (i + 1)) = -1 from by unfold hexC; rw [hy]]
        clear hx hy
        have hx0 : ¬ ((x : Int) < 0) := by omega
        go_wp2_with fail
        refine (fail_any R3 43 f).mono ?_
        rintro e w2 ⟨rfl, R4, T5⟩
        go_wp2
        go_ret2
        refine ⟨T4.trans T5, ?_⟩
        rw [hR.out]
        exact ⟨rfl, i + 1 + 1, R4⟩
      | some y =>
        have hyl := hexV_le hy
        rw [hx, hy] at hR
        rw [show hexC (at_ (bs s) i) = x from by unfold hexC; rw [hx], show hexC (at_ (bs s) (i + 1)) = y from by unfold hexC; rw [hy]]
        have hx0 : ¬ ((x : Int) < 0) := by omega
        have hy0 : decide ((y : Int) < 0) = false := decide_eq_false (by omega)
        clear hx hy
        go_wp2
        go_ret2
        refine ⟨T4, ?_⟩
        rw [hR.out]
        refine ⟨?_, R3⟩
        show Ending.returned (.tuple #[.int .u8 ((x : Int) * 16 + (y : Int)), .bool true]) = _
        rw [show (x : Int) * 16 + (y : Int) = ((16 * x + y : Nat) : Int) from by omega]
end

end Go.Proofs.YtghjkbjpdjlddaaDoor.Sy

/- The landed reader: an escape, a byte of a class. -/
namespace Go.Proofs.YtghjkbjpdjlddaaDoor.Sy
open Go.RowKit
set_option maxRecDepth 100000

section
variable {t : List Nat} {i : Nat}
theorem one_end (h : at_ t i = 92) (h1 : t.length ≤ i + 1) : one t i = .error (40, t.length) := by
  unfold one; rw [if_neg (fun e => e h), if_pos h1]
theorem one_of (h : at_ t i = 92) (h1 : i + 1 < t.length) : one t i =
    if at_ t (i + 1) = 110 then .ok (10, i + 2) else if at_ t (i + 1) = 116 then .ok (9, i + 2) else if at_ t (i + 1) = 114 then .ok (13, i + 2)
    else if at_ t (i + 1) = 120 then hexR t i (i + 2) else if specialB (at_ t (i + 1)) || at_ t (i + 1) == 45 then .ok (at_ t (i + 1), i + 2) else .error (43, i) := by
  unfold one hexR; rw [if_neg (fun e => e h), if_neg (by omega)]
  rfl
theorem marks_has (x : Nat) (c : UInt8) (h : c.toNat = x) : decide (0 ≤ idx { data := #[124, 42, 43, 63, 123, 125, 40, 41, 91, 93, 46, 92, 47, 36, 94, 34, 45] } x) = (specialB x || x == 45) := by
  rw [← h, idx_has]
  show ([124, 42, 43, 63, 123, 125, 40, 41, 91, 93, 46, 92, 47, 36, 94, 34, 45] : List Nat).contains c.toNat = _
  unfold specialB
  rw [show ([124, 42, 43, 63, 123, 125, 40, 41, 91, 93, 46, 92, 47, 36, 94, 34, 45] : List Nat) = [124, 42, 43, 63, 123, 125, 40, 41, 91, 93, 46, 92, 47, 36, 94, 34] ++ [45] from rfl]
  generalize [124, 42, 43, 63, 123, 125, 40, 41, 91, 93, 46, 92, 47, 36, 94, 34] = l
  induction l with
  | nil => simp only [List.nil_append, List.contains_cons, List.contains_nil, Bool.or_false, Bool.false_or]
  | cons y r ih => rw [List.cons_append, List.contains_cons, List.contains_cons, ih, Bool.or_assoc]
end

section
variable {w w' : World} {b : Nat} {s : ByteArray} {er pl : Int} {v : Value} {d : Int}
set_option maxHeartbeats 1000000 in
theorem escape_any {i : Nat} (r : PR w b s i er pl v d) (hi : i < s.size) (hs : s.size ≤ 100000) (h92 : at_ (bs s) i = 92) :
    Calls Tryd.prog 87 #[.pointer (some ⟨b, 0, none⟩)] w fun e w' => Touch b b w w' ∧ GotB b s er pl v d (one (bs s) i) e w' := by
  obtain ⟨c0, c1, c2, c3, c4, c5⟩ := r.cells
  have ht := r.thawed
  have hbl := bs_len s
  have R := r.atTo ((i : Int) + 1)
  have T := (Touch.refl b b w).set1 1 (.int .i64 ((i : Int) + 1))
  go_enter Tryd.func87, Tryd.ntmps87
  go_wp2_with fail
  generalize w.setCell ⟨b, 1, none⟩ (.int .i64 ((i : Int) + 1)) = w1 at *
  rw [show (i : Int) + 1 = ((i + 1 : Nat) : Int) from by omega] at R
  clear c0 c1 c2 c3 c4 c5 ht
  by_cases h : s.size ≤ i + 1
  · have hR := hidd (one_end (t := bs s) h92 (by rw [hbl]; exact h))
    rw [hbl] at hR
    have hie : i + 1 = s.size := by omega
    rw [hie] at R
    clear h hbl
    refine (ended_yes R rfl).mono ?_
    rintro e w2 ⟨rfl, m, rfl⟩
    have R2 := R.drewN m
    have T2 := T.drewN m
    generalize w1.drewN m = w2 at *
    obtain ⟨c0, c1, c2, c3, c4, c5⟩ := R2.cells
    clear hie
    go_wp2_with fail
    refine (fail_any R2 40 s.size).mono ?_
    rintro e w3 ⟨rfl, R3, T3⟩
    go_wp2
    go_ret2
    refine ⟨T2.trans T3, ?_⟩
    rw [hR.out]
    exact ⟨rfl, s.size, R3⟩
  · have h1 : i + 1 < s.size := by omega
    have hO := one_of (t := bs s) h92 (by rw [hbl]; exact h1)
    refine (ended_no R h1).mono ?_
    rintro e w2 ⟨rfl, m, rfl⟩
    have R2 := R.drewN m
    have T2 := T.drewN m
    clear R T
    generalize w1.drewN m = w2 at *
    go_wp2_with fail
    refine (next_any R2 h1 hs).mono ?_
    rintro e w3 ⟨rfl, R3, T3⟩
    have T := T2
    clear R2 T2 hbl h
    have hu : s[i + 1].toNat = at_ (bs s) (i + 1) := (at_bs s (i + 1) h1).symm
    have hM := marks_has _ _ hu
    have hX := fun w => idx_any { data := #[124, 42, 43, 63, 123, 125, 40, 41, 91, 93, 46, 92, 47, 36, 94, 34, 45] } (at_ (bs s) (i + 1)) w
    generalize idx { data := #[124, 42, 43, 63, 123, 125, 40, 41, 91, 93, 46, 92, 47, 36, 94, 34, 45] } (at_ (bs s) (i + 1)) = z at *
    generalize at_ (bs s) (i + 1) = c at *
    clear hu
    by_cases h110 : c = 110
    · subst h110
      clear hM
      have hT := T.trans T3
      have HR : Hid (one (bs s) i = .ok (10, i + 2)) := by show _ = _; rw [hO]; rfl
      clear hO T T3
      go_wp2
      go_ret2
      refine ⟨hT, ?_⟩
      rw [HR.out]
      exact ⟨rfl, R3⟩
    · by_cases h116 : c = 116
      · subst h116
        clear hM
        have hT := T.trans T3
        have HR : Hid (one (bs s) i = .ok (9, i + 2)) := by show _ = _; rw [hO]; rfl
        clear hO T T3
        go_wp2
        go_ret2
        refine ⟨hT, ?_⟩
        rw [HR.out]
        exact ⟨rfl, R3⟩
      · by_cases h114 : c = 114
        · subst h114
          clear hM
          have hT := T.trans T3
          have HR : Hid (one (bs s) i = .ok (13, i + 2)) := by show _ = _; rw [hO]; rfl
          clear hO T T3
          go_wp2
          go_ret2
          refine ⟨hT, ?_⟩
          rw [HR.out]
          exact ⟨rfl, R3⟩
        · have n1 : ((c : Int) == 110) = false := by simp; omega
          have n2 : ((c : Int) == 116) = false := by simp; omega
          have n3 : ((c : Int) == 114) = false := by simp; omega
          rw [if_neg h110, if_neg h116, if_neg h114] at hO
          by_cases h120 : c = 120
          · subst h120
            rw [if_pos rfl] at hO
            have HR := hidd hO
            clear hO hM
            go_wp2_with fail
            refine (hex_any (f := i) R3 (by omega) hs).mono ?_
            rintro e w4 ⟨T4, hg⟩
            have hT := (T.trans T3).trans T4
            rw [← HR.out] at hg
            clear T T3 T4
            unfold GotB at hg
            cases ho : one (bs s) i with
            | ok x =>
              rw [ho] at hg HR
              obtain ⟨rfl, R4⟩ := hg
              go_wp2
              go_ret2
              refine ⟨hT, ?_⟩
              rw [ho]
              exact ⟨rfl, R4⟩
            | error x =>
              rw [ho] at hg HR
              obtain ⟨rfl, R4⟩ := hg
              go_wp2
              go_ret2
              refine ⟨hT, ?_⟩
              rw [ho]
              exact ⟨rfl, R4⟩
          · have n4 : ((c : Int) == 120) = false := by simp; omega
            rw [if_neg h120] at hO
            go_wp2_with fail
            refine (hX _).mono ?_
            rintro e w4 ⟨rfl, rfl⟩
            clear hX
            cases hq : (specialB c || c == 45) with
            | true =>
              rw [hq] at hM hO
              have hz := of_decide_eq_true hM
              clear hM hq
              have hT := T.trans T3
              have HR : Hid (one (bs s) i = .ok (c, i + 2)) := by show _ = _; rw [hO]; rfl
              clear hO T T3
              go_wp2
              go_ret2
              refine ⟨hT, ?_⟩
              rw [HR.out]
              exact ⟨rfl, R3⟩
            | false =>
              rw [hq] at hM hO
              have hz := of_decide_eq_false hM
              have HR : Hid (one (bs s) i = .error (43, i)) := by show _ = _; rw [hO]; rfl
              clear hM hq hO
              go_wp2_with fail
              refine (fail_any R3 43 i).mono ?_
              rintro e w5 ⟨rfl, R5, T5⟩
              have hT := (T.trans T3).trans T5
              clear T T3 T5
              go_wp2
              go_ret2
              refine ⟨hT, ?_⟩
              rw [HR.out]
              exact ⟨rfl, i + 1 + 1, R5⟩
end

end Go.Proofs.YtghjkbjpdjlddaaDoor.Sy

/- The landed parser: a byte of a class, and two with what is between them. -/
namespace Go.Proofs.YtghjkbjpdjlddaaDoor.Sy
open Go.RowKit
set_option maxRecDepth 100000

section
variable {t : List Nat}
theorem member_lt (h : ∀ c ∈ t, c < 256) {i c j : Nat} (ho : member t i = .ok (c, j)) : c < 256 := by
  unfold member at ho
  split at ho
  · cases ho
  · split at ho
    · cases ho
    · exact one_lt h ho
end

section
variable {w w' : World} {b : Nat} {s : ByteArray} {er pl : Int} {v : Value} {d : Int}
set_option maxHeartbeats 1000000 in
theorem member_any {i : Nat} (r : PR w b s i er pl v d) (hi : i ≤ s.size) (hs : s.size ≤ 100000) :
    Calls Tryd.prog 120 #[.pointer (some ⟨b, 0, none⟩)] w fun e w' => Touch b b w w' ∧ GotB b s er pl v d (member (bs s) i) e w' := by
  have hbl := bs_len s
  go_enter Tryd.func120, Tryd.ntmps120
  go_wp2_with fail
  rcases Nat.lt_or_ge i s.size with hlt | hge
  · refine (ended_no r hlt).mono ?_
    rintro e w1 ⟨rfl, m, rfl⟩
    have R := r.drewN m
    have T := (Touch.refl b b w).drewN m
    generalize w.drewN m = w1 at *
    go_wp2_with fail
    refine (sees_any R hi { data := #[93, 45, 94] }).mono ?_
    rintro e w2 ⟨rfl, m2, rfl⟩
    have R2 := R.drewN m2
    have T2 := T.drewN m2
    clear r R T
    generalize w1.drewN m2 = w2 at *
    have hsee : seesB (bs s) i (bs { data := #[93, 45, 94] }) = decide (at_ (bs s) i = 93 ∨ at_ (bs s) i = 45 ∨ at_ (bs s) i = 94) := by
      unfold seesB
      rw [decide_eq_true (by rw [hbl]; exact hlt), Bool.true_and]
      show ([93, 45, 94] : List Nat).contains _ = _
      simp
    rw [hsee]
    clear hsee
    by_cases h : at_ (bs s) i = 93 ∨ at_ (bs s) i = 45 ∨ at_ (bs s) i = 94
    · have HR : Hid (member (bs s) i = .error (44, i)) := by show _ = _; unfold member; rw [if_neg (by rw [hbl]; omega), if_pos h]
      rw [decide_eq_true h]
      clear h hbl
      go_wp2_with fail
      refine (fail_here R2 hlt 44).mono ?_
      rintro e w3 ⟨rfl, R3, T3⟩
      have hT := T2.trans T3
      clear T2 T3
      go_wp2
      go_ret2
      refine ⟨hT, ?_⟩
      rw [HR.out]
      exact ⟨rfl, i, R3⟩
    · have hM : member (bs s) i = one (bs s) i := by unfold member; rw [if_neg (by rw [hbl]; omega), if_neg h]
      rw [decide_eq_false h]
      have HM := hidd hM
      clear h hM
      go_wp2_with fail
      refine (sees_any R2 hi { data := #[92] }).mono ?_
      rintro e w3 ⟨rfl, m3, rfl⟩
      have R3 := R2.drewN m3
      have T3 := T2.drewN m3
      clear R2 T2
      generalize w2.drewN m3 = w3 at *
      rw [show bs { data := #[92] } = [92] from rfl, sees_one, is_of (by rw [hbl]; exact hlt)]
      by_cases h92 : at_ (bs s) i = 92
      · have e92 : (at_ (bs s) i == 92) = true := by rw [h92]; rfl
        rw [e92]
        clear e92
        go_wp2_with fail
        refine (escape_any R3 hlt hs h92).mono ?_
        rintro e w4 ⟨T4, hg⟩
        have hT := T3.trans T4
        clear T3 T4
        unfold GotB at hg
        cases ho : one (bs s) i with
        | ok x =>
          rw [ho] at hg
          obtain ⟨rfl, R4⟩ := hg
          go_wp2
          go_ret2
          refine ⟨hT, ?_⟩
          rw [HM.out, ho]
          exact ⟨rfl, R4⟩
        | error x =>
          rw [ho] at hg
          obtain ⟨rfl, R4⟩ := hg
          go_wp2
          go_ret2
          refine ⟨hT, ?_⟩
          rw [HM.out, ho]
          exact ⟨rfl, R4⟩
      · have e92 : (at_ (bs s) i == 92) = false := beq_eq_false_iff_ne.2 h92
        have HR : Hid (member (bs s) i = .ok (at_ (bs s) i, i + 1)) := by show _ = _; rw [HM.out]; unfold one; rw [if_pos h92]
        rw [e92]
        clear e92 h92
        go_wp2_with fail
        refine (next_any R3 hlt hs).mono ?_
        rintro e w4 ⟨rfl, R4, T4⟩
        have hT := T3.trans T4
        clear T3 T4
        go_wp2
        go_ret2
        refine ⟨hT, ?_⟩
        rw [HR.out]
        exact ⟨rfl, R4⟩
  · have hie : i = s.size := by omega
    subst hie
    have HR : Hid (member (bs s) s.size = .error (40, s.size)) := by show _ = _; unfold member; rw [if_pos (by rw [hbl]; exact Nat.le_refl _), hbl]
    refine (ended_yes r rfl).mono ?_
    rintro e w1 ⟨rfl, m, rfl⟩
    have R := r.drewN m
    have T := (Touch.refl b b w).drewN m
    generalize w.drewN m = w1 at *
    clear hbl
    go_wp2_with fail
    refine (fail_end R rfl 44).mono ?_
    rintro e w3 ⟨rfl, R3, T3⟩
    have hT := T.trans T3
    clear T T3
    go_wp2
    go_ret2
    refine ⟨hT, ?_⟩
    rw [HR.out]
    exact ⟨rfl, s.size, R3⟩
end

end Go.Proofs.YtghjkbjpdjlddaaDoor.Sy

/- The landed parser: a byte of a class, or two and what is between them. -/
namespace Go.Proofs.YtghjkbjpdjlddaaDoor
open Go.RowKit
section
variable {w w' : World}
theorem Touch.fresh {g h : Nat} (a : Touch g h w w') {x : Addr} (hx : w.heap.size ≤ x.block) (u : Value) : Touch g h w (w'.setCell x u) :=
  ⟨a.os, a.tape, a.output, by simpa [World.setCell] using a.size, fun k hk h1 h2 => (Below.heap_setCell _ _ _ _ (by omega)).trans (a.block k hk h1 h2)⟩
theorem Touch.alloc {g h : Nat} (a : Touch g h w w') (o : Obj) : Touch g h w (w'.alloc o) := a.below ((Below.refl _ _).alloc (Nat.le_refl _) o)
theorem Row4.touch {g h k : Nat} {p : Nat → Bool} (r : Row4 w k p) (a : Touch g h w w') (h1 : k ≠ g) (h2 : k ≠ h) : Row4 w' k p := (a.block k r.lt h1 h2).trans r
end
end Go.Proofs.YtghjkbjpdjlddaaDoor
namespace Go.Proofs.YtghjkbjpdjlddaaDoor.Sy
open Go.RowKit
set_option maxRecDepth 100000

section
variable {w w' : World} {b : Nat} {s : ByteArray} {er pl : Int} {v : Value} {d : Int}
theorem PR.far {i : Int} (r : PR w b s i er pl v d) {x : Addr} (hx : b ≠ x.block) (u : Value) : PR (w.setCell x u) b s i er pl v d := (Below.heap_setCell w x u b hx).trans r

/-- What is read are the bytes from one to another, and where that ends; or what is wrong. -/
def GotS (b : Nat) (s : ByteArray) (er pl : Int) (v : Value) (d : Int) (R : Except Bad ((Nat × Nat) × Nat)) (e : Ending) (w' : World) : Prop :=
  match R with
  | .ok (x, j) => e = .returned (.tuple #[.agg #[.int .u64 (W (rngS x.1 x.2) 0), .int .u64 (W (rngS x.1 x.2) 1), .int .u64 (W (rngS x.1 x.2) 2), .int .u64 (W (rngS x.1 x.2) 3)], .bool true]) ∧ PR w' b s (j : Int) er pl v d
  | .error (x, p) => e = .returned (.tuple #[.agg #[.int .u64 (W (noB) 0), .int .u64 (W (noB) 1), .int .u64 (W (noB) 2), .int .u64 (W (noB) 3)], .bool false]) ∧ ∃ j : Nat, PR w' b s (j : Int) (x : Int) (p : Int) v d

theorem ret_span {fn : Func} {R : Ending → World → Prop} {a : Act} {w : World} {t g u : Nat} {q : Nat → Bool} {z : Bool} (hr : fn.results = #[.cell t 28, .tmp u]) (ht : a.tmps.getD t undef = .pointer (some ⟨g, 0, none⟩)) (hu : a.tmps.getD u undef = .bool z)
    (h : Row4 w g q) (hd : a.defers = []) (hR : R (.returned (.tuple #[.agg #[.int .u64 (W (q) 0), .int .u64 (W (q) 1), .int .u64 (W (q) 2), .int .u64 (W (q) 3)], .bool z])) w) : bodyPost Tryd.prog fn R .ret a w := by
  obtain ⟨c0, c1, c2, c3⟩ := h.cells
  refine bodyPost_ret (v := .tuple #[.agg #[.int .u64 (W (q) 0), .int .u64 (W (q) 1), .int .u64 (W (q) 2), .int .u64 (W (q) 3)], .bool z]) ?_ hd hR
  have ht' : a.tmps[t]?.getD undef = .pointer (some ⟨g, 0, none⟩) := by rw [← ht]; simp
  have hu' : a.tmps[u]?.getD undef = .bool z := by rw [← hu]; simp
  simp [results, hr, go_sem, ht', hu', c0, c1, c2, c3]
theorem rng_one (c i : Nat) : W (inB [(c : Int)]) i = W (rngS c c) i := by
  congr 1
  funext x
  rw [Bool.eq_iff_iff]
  simp [inB, rngS]
  omega
theorem rng_two (lo hi i : Nat) : W (rngB (lo : Int) ((hi : Int) + 1)) i = W (rngS lo hi) i := by
  congr 1
  funext x
  rw [Bool.eq_iff_iff]
  simp [rngB, rngS]
  omega

set_option maxHeartbeats 2000000 in
theorem span_any {i : Nat} (r : PR w b s i er pl v d) (hi : i ≤ s.size) (hs : s.size ≤ 100000) :
    Calls Tryd.prog 103 #[.pointer (some ⟨b, 0, none⟩)] w fun e w' => Touch b b w w' ∧ GotS b s er pl v d (part (bs s) i) e w' := by
  have hbl := bs_len s
  have hby := bs_lt s
  have hb := r.lt
  have R0 := r.alloc (.cells #[.int .u64 0, .int .u64 0, .int .u64 0, .int .u64 0] 28)
  have T0 := (Touch.refl b b w).alloc (.cells #[.int .u64 0, .int .u64 0, .int .u64 0, .int .u64 0] 28)
  have Z0 := Row4.zero w
  have hbn : w.heap.size ≠ b := by omega
  have hbn' : b ≠ w.heap.size := by omega
  go_enter Tryd.func103, Tryd.ntmps103
  go_wp2_with fail
  generalize w.alloc (.cells #[.int .u64 0, .int .u64 0, .int .u64 0, .int .u64 0] 28) = w0 at *
  clear r
  refine (member_any R0 hi hs).mono ?_
  rintro e w1 ⟨T1, hg⟩
  have Z1 := Row4.touch Z0 T1 hbn hbn
  have T01 := T0.trans T1
  clear Z0 T0 T1 R0
  unfold GotB at hg
  cases ho : member (bs s) i with
  | error x =>
    rw [ho] at hg
    obtain ⟨rfl, j, R1⟩ := hg
    have HR : Hid (part (bs s) i = .error x) := by show _ = _; unfold part; rw [ho]
    obtain ⟨c0, c1, c2, c3⟩ := Z1.cells
    have ht := Z1.thawed
    clear ho
    go_wp2
    refine ret_span (q := noB) Tryd.results103 rfl rfl ?_ rfl ⟨(((T01.fresh (Nat.le_refl _) _).fresh (Nat.le_refl _) _).fresh (Nat.le_refl _) _).fresh (Nat.le_refl _) _, ?_⟩
    · have := Z1.fill noB
      rw [W_zero, W_zero, W_zero, W_zero] at this
      exact this
    · rw [HR.out]
      exact ⟨rfl, j, (((R1.far hbn' _).far hbn' _).far hbn' _).far hbn' _⟩
  | ok x =>
    obtain ⟨lo, j⟩ := x
    rw [ho] at hg
    obtain ⟨rfl, R1⟩ := hg
    have hlo := member_lt hby ho
    have hj := (member_ok ho).2
    rw [hbl] at hj
    cases hd : is (bs s) j 45 with
    | false =>
      have HR : Hid (part (bs s) i = .ok ((lo, lo), j)) := by show _ = _; unfold part; rw [ho]; simp only [hd]; rfl
      clear ho hby
      go_wp2_with fail
      refine (takes_no R1 hj hd).mono ?_
      rintro e w2 ⟨rfl, m, rfl⟩
      have R2 := R1.drewN m
      have T2 := T01.drewN m
      have Z2 := Z1.drewN m
      clear R1 T01 Z1 hd
      generalize w1.drewN m = w2 at *
      go_wp2_with fail
      have hB := bts_one w2 (lo : Int) (by omega) (by omega)
      refine (of_any (some ⟨w2.heap.size, 0, none⟩) 1 [(lo : Int)] _ hB (by simp)).mono ?_
      rintro e w3 ⟨rfl, b3⟩
      have b4 := bel1 b3
      have R3 := R2.below b4 R2.lt
      have T3 := T2.below b4
      have Z3 := Z2.below b4 Z2.lt
      rw [rng_one, rng_one, rng_one, rng_one]
      clear R2 T2 Z2 b3 b4 hB
      obtain ⟨c0, c1, c2, c3⟩ := Z3.cells
      have ht := Z3.thawed
      go_wp2
      refine ret_span (q := rngS lo lo) Tryd.results103 rfl rfl (Z3.fill _) rfl ⟨(((T3.fresh (Nat.le_refl _) _).fresh (Nat.le_refl _) _).fresh (Nat.le_refl _) _).fresh (Nat.le_refl _) _, ?_⟩
      rw [HR.out]
      exact ⟨rfl, (((R3.far hbn' _).far hbn' _).far hbn' _).far hbn' _⟩
    | true =>
      have hj1 : j + 1 ≤ s.size := by have := (is_lt hd).1; rw [hbl] at this; omega
      have hP : part (bs s) i = match member (bs s) (j + 1) with
        | .error e => .error e
        | .ok (hi, k) => if hi < lo then .error (44, j + 1) else .ok ((lo, hi), k) := by unfold part; rw [ho]; simp only [hd]; rfl
      clear ho
      go_wp2_with fail
      refine (takes_yes R1 hs hd).mono ?_
      rintro e w2 ⟨rfl, R2, T2⟩
      have T02 := T01.trans T2
      have Z2 := Row4.touch Z1 T2 hbn hbn
      clear R1 T01 Z1 hd T2
      obtain ⟨c0, c1, c2, c3, c4, c5⟩ := R2.cells
      have HP := hidd hP
      clear hP
      go_wp2_with fail
      clear c0 c1 c2 c3 c4 c5
      refine (member_any R2 hj1 hs).mono ?_
      rintro e w3 ⟨T3, hg⟩
      have Z3 := Row4.touch Z2 T3 hbn hbn
      have T03 := T02.trans T3
      clear Z2 T02 T3 R2
      unfold GotB at hg
      cases ho : member (bs s) (j + 1) with
      | error x =>
        rw [ho] at hg HP
        obtain ⟨rfl, j2, R3⟩ := hg
        obtain ⟨c0, c1, c2, c3⟩ := Z3.cells
        have ht := Z3.thawed
        clear ho
        go_wp2
        refine ret_span (q := noB) Tryd.results103 rfl rfl ?_ rfl ⟨(((T03.fresh (Nat.le_refl _) _).fresh (Nat.le_refl _) _).fresh (Nat.le_refl _) _).fresh (Nat.le_refl _) _, ?_⟩
        · have := Z3.fill noB
          rw [W_zero, W_zero, W_zero, W_zero] at this
          exact this
        · rw [HP.out]
          exact ⟨rfl, j2, (((R3.far hbn' _).far hbn' _).far hbn' _).far hbn' _⟩
      | ok x =>
        obtain ⟨hi2, k⟩ := x
        rw [ho] at hg HP
        obtain ⟨rfl, R3⟩ := hg
        have hhi := member_lt hby ho
        clear ho hby
        by_cases hlt : hi2 < lo
        · have HR : Hid (part (bs s) i = .error (44, j + 1)) := by show _ = _; rw [HP.out]; simp only [if_pos hlt]
          have hlti : (hi2 : Int) < (lo : Int) := by omega
          clear HP hlt
          go_wp2_with fail
          refine (fail_any R3 44 _).mono ?_
          rintro e w4 ⟨rfl, R4, T4⟩
          have Z4 := Row4.touch Z3 T4 hbn hbn
          have T04 := T03.trans T4
          clear Z3 T03 T4 R3
          obtain ⟨c0, c1, c2, c3⟩ := Z4.cells
          have ht := Z4.thawed
          go_wp2
          refine ret_span (q := noB) Tryd.results103 rfl rfl ?_ rfl ⟨(((T04.fresh (Nat.le_refl _) _).fresh (Nat.le_refl _) _).fresh (Nat.le_refl _) _).fresh (Nat.le_refl _) _, ?_⟩
          · have := Z4.fill noB
            rw [W_zero, W_zero, W_zero, W_zero] at this
            exact this
          · rw [HR.out]
            exact ⟨rfl, k, (((R4.far hbn' _).far hbn' _).far hbn' _).far hbn' _⟩
        · have HR : Hid (part (bs s) i = .ok ((lo, hi2), k)) := by show _ = _; rw [HP.out]; simp only [if_neg hlt]
          have hlti : ¬ (hi2 : Int) < (lo : Int) := by omega
          clear HP hlt
          go_wp2_with fail
          refine (range_any (lo : Int) (hi2 : Int) _ (by omega) (by omega) (by omega) (by omega)).mono ?_
          rintro e w4 ⟨rfl, b4⟩
          have R4 := R3.below b4 R3.lt
          have T04 := T03.below b4
          have Z4 := Z3.below b4 Z3.lt
          rw [rng_two, rng_two, rng_two, rng_two]
          clear R3 T03 Z3 b4
          obtain ⟨c0, c1, c2, c3⟩ := Z4.cells
          have ht := Z4.thawed
          go_wp2
          refine ret_span (q := rngS lo hi2) Tryd.results103 rfl rfl (Z4.fill _) rfl ⟨(((T04.fresh (Nat.le_refl _) _).fresh (Nat.le_refl _) _).fresh (Nat.le_refl _) _).fresh (Nat.le_refl _) _, ?_⟩
          rw [HR.out]
          exact ⟨rfl, (((R4.far hbn' _).far hbn' _).far hbn' _).far hbn' _⟩
end

end Go.Proofs.YtghjkbjpdjlddaaDoor.Sy

/- The landed parser: numbers of bounds. -/
namespace Go.Proofs.YtghjkbjpdjlddaaDoor.Sy
open Go.RowKit
set_option maxRecDepth 100000

theorem pu_not : ∀ (l : List UInt8) (acc : Nat), (∀ c ∈ l, digitB c.toNat = true) → Lib.parseUint10 acc l = .range ∨ ∃ u, Lib.parseUint10 acc l = .ok u
  | [], acc, _ => .inr ⟨acc, rfl⟩
  | c :: r, acc, h => by
    have h1 := h c (by simp)
    unfold digitB at h1
    simp at h1
    rw [Lib.parseUint10, if_pos h1]
    split
    · exact .inl rfl
    · split
      · exact .inl rfl
      · exact pu_not r _ (fun x hx => h x (by simp [hx]))
theorem pu_ok : ∀ (l : List UInt8) (acc : Nat), (∀ c ∈ l, digitB c.toNat = true) → (acc + 1) * 10 ^ l.length ≤ 1000000000000 → Lib.parseUint10 acc l = .ok (l.foldl (fun v c => v * 10 + (c.toNat - 48)) acc) ∧ l.foldl (fun v c => v * 10 + (c.toNat - 48)) acc < 1000000000000
  | [], acc, _, hl => by
    simp [Lib.parseUint10] at hl ⊢
    omega
  | c :: r, acc, h, hl => by
    have h1 := h c (by simp)
    unfold digitB at h1
    simp at h1
    have h2 : (acc * 10 + (c.toNat - 48) + 1) * 10 ^ r.length ≤ 1000000000000 := by
      rw [List.length_cons, Nat.pow_succ] at hl
      refine Nat.le_trans (Nat.mul_le_mul_right _ (show acc * 10 + (c.toNat - 48) + 1 ≤ (acc + 1) * 10 from by omega)) ?_
      rw [Nat.mul_assoc, Nat.mul_comm 10]
      exact hl
    have h3 : acc * 10 + (c.toNat - 48) + 1 ≤ 1000000000000 := Nat.le_trans (Nat.le_mul_of_pos_right _ (Nat.pow_pos (by decide))) h2
    rw [Lib.parseUint10, if_pos h1, if_neg (by omega), if_neg (by omega), List.foldl_cons]
    exact pu_ok r _ (fun x hx => h x (by simp [hx])) h2
theorem atoi_digits {t : ByteArray} (h : ∀ c ∈ bs t, digitB c = true) (h1 : 1 ≤ t.size) :
    ((∃ v, Lib.atoiAll t.data.toList = .ok v) ∨ Lib.atoiAll t.data.toList = .range) ∧ (t.size ≤ 6 → Lib.atoiAll t.data.toList = .ok ((value (bs t) : Nat) : Int)) := by
  have hl : t.size = t.data.toList.length := rfl
  have hv : value (bs t) = t.data.toList.foldl (fun v c => v * 10 + (c.toNat - 48)) 0 := by unfold value bs; rw [List.foldl_map]
  have hd : ∀ c ∈ t.data.toList, digitB c.toNat = true := fun c hc => h c.toNat (by unfold bs; exact List.mem_map.2 ⟨c, hc, rfl⟩)
  rw [hl] at h1 ⊢
  rw [hv]
  generalize t.data.toList = l at *
  cases l with
  | nil => simp at h1
  | cons c r =>
    have hc := hd c (by simp)
    unfold digitB at hc
    simp at hc
    have e : (if c.toNat = 43 ∨ c.toNat = 45 then r else c :: r) = c :: r := if_neg (by omega)
    have hp : Lib.parseMag (c :: r) = Lib.parseUint10 0 (c :: r) := by unfold Lib.parseMag; rw [if_neg (by simp)]
    have hn : ¬ c.toNat = 45 := by omega
    constructor
    · unfold Lib.atoiAll
      simp only [e, hp]
      rcases pu_not (c :: r) 0 hd with hq | ⟨u, hq⟩
      · rw [hq]
        exact .inr rfl
      · rw [hq]
        simp only [hn, not_false_eq_true, true_and, false_and, if_false]
        split
        · exact .inr rfl
        · exact .inl ⟨_, rfl⟩
    · intro h6
      obtain ⟨h7, h8⟩ := pu_ok (c :: r) 0 hd (by
        have : 10 ^ (c :: r).length ≤ 10 ^ 6 := Nat.pow_le_pow_right (by decide) h6
        have h9 : (10 : Nat) ^ 6 = 1000000 := by decide
        omega)
      unfold Lib.atoiAll
      simp only [e, hp]
      rw [h7]
      simp only [hn, not_false_eq_true, true_and, false_and, if_false]
      rw [if_neg (by omega)]

/-- A number of bounds by its digits, if it is one. -/
def numV (l : List Nat) : Option Nat := if 6 < l.length ∨ (l.getD 0 0 = 48 ∧ 1 < l.length) then none else some (value l)
/-- The same as the landed code tells it. -/
def numI (l : List Nat) : Int := match numV l with | some n => (n : Int) | none => 4097
theorem cut_len {s : List Nat} {i j : Nat} (hj : j ≤ s.length) : (cut s i j).length = j - i := by
  unfold cut
  rw [List.length_take, List.length_drop]
  omega
theorem number_cut {s : List Nat} {i j : Nat} (hij : i < j) (hj : j ≤ s.length) : number s i j = numV (cut s i j) := by
  unfold number numV
  rw [cut_len hj]
  have : (cut s i j).getD 0 0 = at_ s i := by
    unfold cut at_
    rw [List.getD_eq_getElem?_getD, List.getElem?_take, if_pos (by omega), List.getElem?_drop, Nat.add_zero, List.getD_eq_getElem?_getD]
  rw [this]

theorem atoi_ok (t : ByteArray) (n : Int) (w : World) (hs : t.size ≤ 100000) (h : Lib.atoiAll t.data.toList = .ok n) :
    Calls Tryd.prog 123 #[.string t] w fun e w' => e = .returned (.tuple #[.int .i64 n, .nilIface]) ∧ Below w.heap.size w w' := by
  refine (Tryd.strconv_Atoi_ok t (by omega) n h w).mono ?_
  rintro e w' ⟨h1, h2⟩
  refine ⟨h1, ?_⟩
  rcases h2 with rfl | ⟨t2, rfl⟩
  · exact Below.refl _ _
  · exact Lib.bytesWorld_below w 5 t2
theorem atoi_range (t : ByteArray) (w : World) (hE : EV w) (hs : t.size ≤ 100000) (h : Lib.atoiAll t.data.toList = .range) :
    Calls Tryd.prog 123 #[.string t] w fun e w' => ∃ n N, e = .returned (.tuple #[.int .i64 n, .iface 143 (.pointer (some ⟨N, 0, none⟩))]) ∧ Below w.heap.size w w' := by
  obtain ⟨ev, h1, h2⟩ := hE
  refine (Tryd.strconv_Atoi_range t (by omega) h ev w h1 h2).mono ?_
  rintro e w' ⟨N, h3, -, -, h4⟩
  exact ⟨_, N, h3, h4⟩

set_option maxHeartbeats 1000000 in
theorem pnumber_any (t : ByteArray) (w : World) (hE : EV w) (hd : ∀ c ∈ bs t, digitB c = true) (h1 : 1 ≤ t.size) (hs : t.size ≤ 100000) :
    Calls Tryd.prog 110 #[.string t] w fun e w' => e = .returned (.int .i64 (numI (bs t))) ∧ Below w.heap.size w w' := by
  obtain ⟨ha, hb⟩ := atoi_digits hd h1
  have hbl := bs_len t
  have h0 : (bs t).getD 0 0 = t[0].toNat := at_bs t 0 h1
  clear hd
  have hi0 : (0 : Int) < (t.size : Int) := by omega
  by_cases h6 : 6 < t.size
  · have HV : Hid (numI (bs t) = 4097) := by show _ = _; unfold numI numV; rw [if_pos (.inl (by rw [hbl]; exact h6))]
    have h6i : decide ((6 : Int) < (t.size : Int)) = true := decide_eq_true (by omega)
    clear h0 hb hbl
    rcases ha with ⟨n, ha⟩ | ha
    · go_enter Tryd.func110, Tryd.ntmps110
      go_wp2_with fail
      refine (atoi_ok t n _ hs ha).mono ?_
      rintro e w1 ⟨rfl, b1⟩
      clear ha
      go_wp2
      go_ret
      exact ⟨by rw [HV.out]; rfl, b1⟩
    · go_enter Tryd.func110, Tryd.ntmps110
      go_wp2_with fail
      refine (atoi_range t _ hE hs ha).mono ?_
      rintro e w1 ⟨n, N, rfl, b1⟩
      clear ha
      go_wp2
      go_ret
      exact ⟨by rw [HV.out]; rfl, b1⟩
  · have h6i : decide ((6 : Int) < (t.size : Int)) = false := decide_eq_false (by omega)
    have hb := hb (by omega)
    clear ha
    by_cases h2 : 1 < t.size
    · have h2i : decide ((1 : Int) < (t.size : Int)) = true := decide_eq_true (by omega)
      by_cases h48 : t[0].toNat = 48
      · have HV : Hid (numI (bs t) = 4097) := by show _ = _; unfold numI numV; rw [if_pos (.inr ⟨by rw [h0]; exact h48, by rw [hbl]; exact h2⟩)]
        have h48i : (((t[0].toNat : Nat) : Int) == 48) = true := by rw [h48]; rfl
        clear h0 hbl h48
        go_enter Tryd.func110, Tryd.ntmps110
        go_wp2_with fail
        refine (atoi_ok t _ _ hs hb).mono ?_
        rintro e w1 ⟨rfl, b1⟩
        clear hb
        go_wp2
        go_ret
        exact ⟨by rw [HV.out]; rfl, b1⟩
      · have HV : Hid (numI (bs t) = value (bs t)) := by show _ = _; unfold numI numV; rw [if_neg (by rw [hbl, h0]; omega)]
        have h48i : (((t[0].toNat : Nat) : Int) == 48) = false := by simp; omega
        clear h0 hbl h48
        go_enter Tryd.func110, Tryd.ntmps110
        go_wp2_with fail
        refine (atoi_ok t _ _ hs hb).mono ?_
        rintro e w1 ⟨rfl, b1⟩
        clear hb
        go_wp2
        go_ret
        exact ⟨by rw [HV.out]; rfl, b1⟩
    · have h2i : decide ((1 : Int) < (t.size : Int)) = false := decide_eq_false (by omega)
      have HV : Hid (numI (bs t) = value (bs t)) := by show _ = _; unfold numI numV; rw [if_neg (by rw [hbl]; omega)]
      clear h0 hbl
      go_enter Tryd.func110, Tryd.ntmps110
      go_wp2_with fail
      refine (atoi_ok t _ _ hs hb).mono ?_
      rintro e w1 ⟨rfl, b1⟩
      clear hb
      go_wp2
      go_ret
      exact ⟨by rw [HV.out]; rfl, b1⟩

/-- May something be repeated from lo to hi times? -/
def bndB (lo hi : Int) : Bool := decide (0 ≤ lo) && decide (lo ≤ 4096) && (hi == -1 || (decide (1 ≤ hi) && decide (lo ≤ hi) && decide (hi ≤ 4096)))
set_option maxHeartbeats 1000000 in
theorem arebnd_any (lo hi : Int) (w : World) : Calls Tryd.prog 58 #[.int .i64 lo, .int .i64 hi] w fun e w' => e = .returned (.bool (bndB lo hi)) ∧ w' = w := by
  by_cases h1 : lo < 0
  · skip
    have HV : Hid (bndB lo hi = false) := by show _ = _; unfold bndB; simp; omega
    go_enter Tryd.func58, Tryd.ntmps58
    go_wp2
    go_ret
    exact ⟨by rw [HV.out]; rfl, rfl⟩
  · by_cases h2 : 4096 < lo
    · have h2i : decide ((4096 : Int) < lo) = true := decide_eq_true h2
      have HV : Hid (bndB lo hi = false) := by show _ = _; unfold bndB; simp; omega
      go_enter Tryd.func58, Tryd.ntmps58
      go_wp2
      go_ret
      exact ⟨by rw [HV.out]; rfl, rfl⟩
    · have h2i : decide ((4096 : Int) < lo) = false := decide_eq_false h2
      by_cases h3 : hi = -1
      · subst h3
        have HV : Hid (bndB lo (-1) = true) := by show _ = _; unfold bndB; simp; omega
        go_enter Tryd.func58, Tryd.ntmps58
        go_wp2
        go_ret
        exact ⟨by rw [HV.out]; rfl, rfl⟩
      · have h3i : (hi == -1) = false := beq_eq_false_iff_ne.2 h3
        by_cases h4 : 1 ≤ hi
        · by_cases h5 : lo ≤ hi
          · by_cases h6 : hi ≤ 4096
            · have h6i : decide (hi ≤ 4096) = true := decide_eq_true h6
              have HV : Hid (bndB lo hi = true) := by show _ = _; unfold bndB; simp; omega
              go_enter Tryd.func58, Tryd.ntmps58
              go_wp2
              go_ret
              exact ⟨by rw [HV.out]; rfl, rfl⟩
            · have h6i : decide (hi ≤ 4096) = false := decide_eq_false h6
              have HV : Hid (bndB lo hi = false) := by show _ = _; unfold bndB; simp; omega
              go_enter Tryd.func58, Tryd.ntmps58
              go_wp2
              go_ret
              exact ⟨by rw [HV.out]; rfl, rfl⟩
          · skip
            have HV : Hid (bndB lo hi = false) := by show _ = _; unfold bndB; simp; omega
            go_enter Tryd.func58, Tryd.ntmps58
            go_wp2
            go_ret
            exact ⟨by rw [HV.out]; rfl, rfl⟩
        · skip
          have HV : Hid (bndB lo hi = false) := by show _ = _; unfold bndB; simp; omega
          go_enter Tryd.func58, Tryd.ntmps58
          go_wp2
          go_ret
          exact ⟨by rw [HV.out]; rfl, rfl⟩

end Go.Proofs.YtghjkbjpdjlddaaDoor.Sy

/- The landed parser: bounds, and how often something is repeated. -/
namespace Go.Proofs.YtghjkbjpdjlddaaDoor.Sy
open Go.RowKit
set_option maxRecDepth 100000

section
variable {t : List Nat}
theorem digEnd_all : ∀ (f i x : Nat), i ≤ x → x < digEnd t f i → dig t x = true
  | 0, i, x, h1, h2 => by unfold digEnd at h2; omega
  | f + 1, i, x, h1, h2 => by
    unfold digEnd at h2
    split at h2
    · rename_i h3
      rcases Nat.eq_or_lt_of_le h1 with e | e
      · subst e; exact h3
      · exact digEnd_all f (i + 1) x e h2
    · omega
theorem digEnd_pos {f i : Nat} (h : dig t i = true) (hf : 1 ≤ f) : i < digEnd t f i := by
  obtain ⟨g, rfl⟩ : ∃ g, f = g + 1 := ⟨f - 1, by omega⟩
  unfold digEnd
  rw [if_pos h]
  exact digEnd_ge g (i + 1)
theorem digEnd_same {f i : Nat} (h : dig t i = false) : digEnd t f i = i := by
  cases f with
  | zero => rfl
  | succ f => unfold digEnd; rw [h]; rfl
theorem cut_dig {f i j : Nat} (h : digEnd t f i = j) : ∀ c ∈ cut t i j, digitB c = true := by
  intro c hc
  unfold cut at hc
  obtain ⟨k, hk, rfl⟩ := List.getElem_of_mem hc
  rw [List.length_take, List.length_drop] at hk
  have hd := digEnd_all (t := t) f i (i + k) (by omega) (by omega)
  unfold dig at_ at hd
  rw [List.getElem_take, List.getElem_drop]
  rw [List.getD_eq_getElem?_getD, List.getElem?_eq_getElem (by omega)] at hd
  simp at hd
  exact hd.2
/-- What stands behind the first number: P, and the greatest number as its digits m tell it (none: there are none). -/
structure HiP (t : List Nat) (i P : Nat) (l m : List Nat) : Prop where
  lo : loPart t i = numV l
  pl : (hiPart t (loPart t i) (loEnd t i)).2 = P
  hi : (hiPart t (loPart t i) (loEnd t i)).1 = if m = [] then none else some (numV m)
theorem HiP.soon {i P : Nat} {l m : List Nat} (h : HiP t i P l m) (hP : t.length ≤ P) : bounds t i = .error (40, t.length) := by
  unfold bounds; rw [h.pl, if_pos hP]
theorem HiP.no {i P : Nat} {l m : List Nat} (h : HiP t i P l m) (hP : P < t.length) (hn : at_ t P ≠ 125) : bounds t i = .error (41, P) := by
  unfold bounds; rw [h.pl, if_neg (by omega), if_pos hn]
theorem HiP.ok {i P : Nat} {l m : List Nat} (h : HiP t i P l m) (hP : P < t.length) (hn : at_ t P = 125) :
    bounds t i = if bndB (numI l) (if m = [] then -1 else numI m) = true then .ok ((numI l, if m = [] then -1 else numI m), P + 1) else .error (45, i) := by
  unfold bounds
  rw [h.pl, if_neg (by omega), if_neg (fun e => e hn), h.hi, h.lo]
  unfold numI bndB
  cases numV l with
  | none => simp [okBounds]
  | some a =>
    by_cases hm : m = []
    · simp only [hm, if_true]
      by_cases ha : a ≤ 4096
      · rw [show okBounds (some a) none = some ((a : Int), -1) from by simp [okBounds, ha]]
        simp
        omega
      · rw [show okBounds (some a) none = none from by simp [okBounds, ha]]
        simp
        omega
    · simp only [hm, if_false]
      cases numV m with
      | none => simp [okBounds]
      | some c =>
        by_cases ha : a ≤ 4096 ∧ c ≤ 4096 ∧ 1 ≤ c ∧ a ≤ c
        · rw [show okBounds (some a) (some (some c)) = some ((a : Int), (c : Int)) from by simp [okBounds, ha]]
          simp
          omega
        · rw [show okBounds (some a) (some (some c)) = none from by simp [okBounds, ha]]
          simp
          omega
end
end Go.Proofs.YtghjkbjpdjlddaaDoor.Sy

/- The landed parser: bounds, and how often something is repeated. -/
namespace Go.Proofs.YtghjkbjpdjlddaaDoor
theorem Sy.EV.touch {w w' : World} {b : Nat} (h : Sy.EV w) (a : Touch b b w w') (hb : 5 ≠ b) : Sy.EV w' := by
  have hl := h.lt
  obtain ⟨ev, h1, h2⟩ := h
  exact ⟨ev, (World.cell?_of_block (a.block _ hl hb hb)).trans h1, h2⟩
end Go.Proofs.YtghjkbjpdjlddaaDoor
namespace Go.Proofs.YtghjkbjpdjlddaaDoor.Sy
open Go.RowKit
set_option maxRecDepth 100000

section
variable {w w' : World} {b : Nat} {s : ByteArray} {er pl : Int} {v : Value} {d : Int}
/-- What is read is how often, and where that ends; or what is wrong. -/
def GotN (b : Nat) (s : ByteArray) (er pl : Int) (v : Value) (d : Int) (R : Except Bad ((Int × Int) × Nat)) (e : Ending) (w' : World) : Prop :=
  match R with
  | .ok (x, j) => e = .returned (.tuple #[.int .i64 x.1, .int .i64 x.2, .bool true]) ∧ PR w' b s (j : Int) er pl v d
  | .error (x, p) => e = .returned (.tuple #[.int .i64 0, .int .i64 0, .bool false]) ∧ ∃ j : Nat, PR w' b s (j : Int) (x : Int) (p : Int) v d
theorem str_empty {M : ByteArray} (h : M.size = 0) : bs M = [] := List.eq_nil_of_length_eq_zero (by rw [bs_len]; exact h)
theorem toList_data (M : ByteArray) : M.toList = M.data.toList := ByteArray.toList_eq M
set_option maxHeartbeats 1000000 in
theorem pbounds_any {i : Nat} (r : PR w b s ((i + 1 : Nat) : Int) er pl v d) (hi : i + 1 ≤ s.size) (hs : s.size ≤ 100000) (hE : EV w) (hvb : 5 ≠ b) (hdg : dig (bs s) (i + 1) = true) :
    Calls Tryd.prog 91 #[.pointer (some ⟨b, 0, none⟩), .int .i64 (i : Int)] w fun e w' => Touch b b w w' ∧ GotN b s er pl v d (bounds (bs s) i) e w' := by
  have hbl := bs_len s
  have hlen1 : 1 ≤ (bs s).length := by
    unfold dig at hdg
    simp at hdg
    omega
  go_enter Tryd.func91, Tryd.ntmps91
  go_wp2_with fail
  refine (pdigits_any r hi hs).mono ?_
  rintro e w1 ⟨J, hJ, hJ1, hJ2, rfl, R1, T1⟩
  have hE1 := EV.touch hE T1 hvb
  have hJp := digEnd_pos hdg hlen1
  rw [hJ] at hJp
  have hLb := ex_bs s (i + 1) J
  have hLd : ∀ c ∈ bs (s.extract (i + 1) J), digitB c = true := by rw [hLb]; exact cut_dig hJ
  have hLz : (s.extract (i + 1) J).size = J - (i + 1) := by rw [ByteArray.size_extract]; omega
  have hlo : loEnd (bs s) i = J := hJ
  have hlp : loPart (bs s) i = numV (bs (s.extract (i + 1) J)) := by unfold loPart; rw [hlo, number_cut hJp (by rw [hbl]; exact hJ2), hLb]
  clear r hdg hLb hJ
  generalize s.extract (i + 1) J = L at *
  have HLd := hidd hLd
  have HLZ := hidd hLz
  have HLO := hidd hlo
  have HLP := hidd hlp
  have HBL := hidd hbl
  have hJl0 : 1 ≤ L.size ∧ L.size ≤ 100000 := by omega
  clear hLd hLz hlo hlp
  have hL1 := hJl0.1
  have hLs := hJl0.2
  clear hJl0 hbl
  cases hc : is (bs s) J 44 with
  | false =>
    obtain ⟨P, hPJ⟩ : ∃ P, P = J := ⟨J, rfl⟩
    subst hPJ
    have hm : bs L ≠ [] := fun e => by have := bs_len L; rw [e] at this; simp at this; omega
    have hlp := HLP.out
    have hlo := HLO.out
    have hP : HiP (bs s) i P (bs L) (bs L) := ⟨hlp, by unfold hiPart; rw [hlo, hc]; rfl, by unfold hiPart; rw [hlo, hc, hlp, if_neg hm]; rfl⟩
    have HP := hidd hP
    clear hlp hlo hm hlen1 hP
    go_wp2_with fail
    refine (takes_no R1 hJ2 hc).mono ?_
    rintro e w5 ⟨rfl, m5, rfl⟩
    have R5 := R1.drewN m5
    have T5 := T1.drewN m5
    have hE5 : EV (w1.drewN m5) := hE1
    have hPs := hJ2
    clear R1 T1 hE1 hc HLZ hJp HLO HLP
    generalize w1.drewN m5 = w5 at *
    cases hb5 : is (bs s) P 125 with
    | false =>
      go_wp2_with fail
      refine (takes_no R5 hPs hb5).mono ?_
      rintro e w6 ⟨rfl, m6, rfl⟩
      have R6 := R5.drewN m6
      have T6 := T5.drewN m6
      clear R5 T5
      generalize w5.drewN m6 = w6 at *
      rcases Nat.lt_or_ge P s.size with hPl | hPg
      · have HR : Hid (bounds (bs s) i = .error (41, P)) := HP.out.no (by rw [HBL.out]; exact hPl) (fun e => by rw [is_of (by rw [HBL.out]; exact hPl), e] at hb5; cases hb5)
        clear hb5 HP HBL
        go_wp2_with fail
        refine (fail_here R6 hPl 41).mono ?_
        rintro e w7 ⟨rfl, R7, T7⟩
        have hT := T6.trans T7
        clear T6 T7
        go_wp2
        go_ret3
        refine ⟨hT, ?_⟩
        rw [HR.out]
        exact ⟨rfl, P, R7⟩
      · have hPe : P = s.size := by omega
        subst hPe
        have HR : Hid (bounds (bs s) i = .error (40, s.size)) := by show _ = _; rw [HP.out.soon (by rw [HBL.out]; exact Nat.le_refl _), HBL.out]
        clear hb5 HP HBL
        go_wp2_with fail
        refine (fail_end R6 rfl 41).mono ?_
        rintro e w7 ⟨rfl, R7, T7⟩
        have hT := T6.trans T7
        clear T6 T7
        go_wp2
        go_ret3
        refine ⟨hT, ?_⟩
        rw [HR.out]
        exact ⟨rfl, s.size, R7⟩
    | true =>
      have HR := hidd (HP.out.ok (is_lt hb5).1 (is_lt hb5).2)
      go_wp2_with fail
      refine (takes_yes R5 hs hb5).mono ?_
      rintro e w6 ⟨rfl, R6, T6⟩
      have hT6 := T5.trans T6
      have hE6 := EV.touch hE5 T6 hvb
      clear R5 T5 T6 hE5 hb5 HP
      go_wp2_with fail
      refine (pnumber_any L _ hE6 HLd.out hL1 hLs).mono ?_
      rintro e w7 ⟨rfl, b7⟩
      have R7 := R6.below b7 R6.lt
      have hT7 := hT6.below b7
      have hE7 := hE6.below b7
      clear R6 hT6 hE6 b7
      have hne : L.toList.isEmpty = false := by
        rw [toList_data]
        have : L.data.toList.length = L.size := rfl
        cases hq : L.data.toList with
        | nil => rw [hq] at this; simp at this; omega
        | cons x r => rfl
      have hm : bs L ≠ [] := fun e => by have := bs_len L; rw [e] at this; simp at this; omega
      rw [if_neg hm] at HR
      clear hm
      go_wp2_with fail
      refine (pnumber_any L _ hE7 HLd.out hL1 hLs).mono ?_
      rintro e w8 ⟨rfl, b8⟩
      have R8 := R7.below b8 R7.lt
      have hT8 := hT7.below b8
      clear R7 hT7 b8 hne hE7
      go_wp2_with fail
      refine (arebnd_any _ _ _).mono ?_
      rintro e w9 ⟨rfl, rfl⟩
      cases hb9 : bndB (numI (bs L)) (numI (bs L)) with
      | true =>
        rw [hb9] at HR
        clear hb9
        go_wp2
        go_ret3
        refine ⟨hT8, ?_⟩
        rw [HR.out]
        exact ⟨rfl, R8⟩
      | false =>
        rw [hb9] at HR
        clear hb9
        go_wp2_with fail
        refine (fail_any R8 45 i).mono ?_
        rintro e w10 ⟨rfl, R10, T10⟩
        have hT := (hT8).trans T10
        clear T10
        go_wp2
        go_ret3
        refine ⟨hT, ?_⟩
        rw [HR.out]
        exact ⟨rfl, P + 1, R10⟩
  | true =>
    go_wp2_with fail
    refine (takes_yes R1 hs hc).mono ?_
    rintro e w3 ⟨rfl, R3, T3⟩
    have hT3 := T1.trans T3
    have hE3 := EV.touch hE1 T3 hvb
    have hJl : J < s.size := by have := (is_lt hc).1; rw [HBL.out] at this; exact this
    have HC := hidd hc
    clear R1 T1 hE1 T3 hc
    go_wp2_with fail
    refine (pdigits_any R3 hJl hs).mono ?_
    rintro e w5 ⟨P, hJ', hJ1', hPs, rfl, R5, T5'⟩
    have T5 := hT3.trans T5'
    have hE5 := EV.touch hE3 T5' hvb
    have hMb := ex_bs s (J + 1) P
    have hMd : ∀ c ∈ bs (s.extract (J + 1) P), digitB c = true := by rw [hMb]; exact cut_dig hJ'
    have hMz : (s.extract (J + 1) P).size = P - (J + 1) := by rw [ByteArray.size_extract]; omega
    have HMd := hidd hMd
    have hlp := HLP.out
    have hlo := HLO.out
    have hbl := HBL.out
    have hc := HC.out
    clear R3 T5' hE3 hT3 hMd HC
    cases hdg2 : dig (bs s) (J + 1) with
    | true =>
      have hPp := digEnd_pos hdg2 hlen1
      rw [hJ'] at hPp
      have hm : bs (s.extract (J + 1) P) ≠ [] := fun e => by have := bs_len (s.extract (J + 1) P); rw [e] at this; simp at this; omega
      have hP : HiP (bs s) i P (bs L) (bs (s.extract (J + 1) P)) := ⟨hlp, by unfold hiPart; rw [hlo, hc, hdg2]; exact hJ', by unfold hiPart; rw [hlo, hc, hdg2, if_neg hm, hMb, ← number_cut hPp (by rw [hbl]; exact hPs), ← hJ']; rfl⟩
      have HP := hidd hP
      clear hlp hlo hm hlen1 hP hMb hJ' hdg2 hc
      generalize s.extract (J + 1) P = M at *
      have hM1 : 1 ≤ M.size := by omega
      have hMs : M.size ≤ 100000 := by omega
      clear hMz HLZ hJp hPp HLO HLP hbl
      cases hb5 : is (bs s) P 125 with
      | false =>
        go_wp2_with fail
        refine (takes_no R5 hPs hb5).mono ?_
        rintro e w6 ⟨rfl, m6, rfl⟩
        have R6 := R5.drewN m6
        have T6 := T5.drewN m6
        clear R5 T5
        generalize w5.drewN m6 = w6 at *
        rcases Nat.lt_or_ge P s.size with hPl | hPg
        · have HR : Hid (bounds (bs s) i = .error (41, P)) := HP.out.no (by rw [HBL.out]; exact hPl) (fun e => by rw [is_of (by rw [HBL.out]; exact hPl), e] at hb5; cases hb5)
          clear hb5 HP HBL
          go_wp2_with fail
          refine (fail_here R6 hPl 41).mono ?_
          rintro e w7 ⟨rfl, R7, T7⟩
          have hT := T6.trans T7
          clear T6 T7
          go_wp2
          go_ret3
          refine ⟨hT, ?_⟩
          rw [HR.out]
          exact ⟨rfl, P, R7⟩
        · have hPe : P = s.size := by omega
          subst hPe
          have HR : Hid (bounds (bs s) i = .error (40, s.size)) := by show _ = _; rw [HP.out.soon (by rw [HBL.out]; exact Nat.le_refl _), HBL.out]
          clear hb5 HP HBL
          go_wp2_with fail
          refine (fail_end R6 rfl 41).mono ?_
          rintro e w7 ⟨rfl, R7, T7⟩
          have hT := T6.trans T7
          clear T6 T7
          go_wp2
          go_ret3
          refine ⟨hT, ?_⟩
          rw [HR.out]
          exact ⟨rfl, s.size, R7⟩
      | true =>
        have HR := hidd (HP.out.ok (is_lt hb5).1 (is_lt hb5).2)
        go_wp2_with fail
        refine (takes_yes R5 hs hb5).mono ?_
        rintro e w6 ⟨rfl, R6, T6⟩
        have hT6 := T5.trans T6
        have hE6 := EV.touch hE5 T6 hvb
        clear R5 T5 T6 hE5 hb5 HP
        go_wp2_with fail
        refine (pnumber_any L _ hE6 HLd.out hL1 hLs).mono ?_
        rintro e w7 ⟨rfl, b7⟩
        have R7 := R6.below b7 R6.lt
        have hT7 := hT6.below b7
        have hE7 := hE6.below b7
        clear R6 hT6 hE6 b7
        have hne : M.toList.isEmpty = false := by
          rw [toList_data]
          have : M.data.toList.length = M.size := rfl
          cases hq : M.data.toList with
          | nil => rw [hq] at this; simp at this; omega
          | cons x r => rfl
        have hm : bs M ≠ [] := fun e => by have := bs_len M; rw [e] at this; simp at this; omega
        rw [if_neg hm] at HR
        clear hm
        go_wp2_with fail
        refine (pnumber_any M _ hE7 HMd.out hM1 hMs).mono ?_
        rintro e w8 ⟨rfl, b8⟩
        have R8 := R7.below b8 R7.lt
        have hT8 := hT7.below b8
        clear R7 hT7 b8 hne hE7
        go_wp2_with fail
        refine (arebnd_any _ _ _).mono ?_
        rintro e w9 ⟨rfl, rfl⟩
        cases hb9 : bndB (numI (bs L)) (numI (bs M)) with
        | true =>
          rw [hb9] at HR
          clear hb9
          go_wp2
          go_ret3
          refine ⟨hT8, ?_⟩
          rw [HR.out]
          exact ⟨rfl, R8⟩
        | false =>
          rw [hb9] at HR
          clear hb9
          go_wp2_with fail
          refine (fail_any R8 45 i).mono ?_
          rintro e w10 ⟨rfl, R10, T10⟩
          have hT := (hT8).trans T10
          clear T10
          go_wp2
          go_ret3
          refine ⟨hT, ?_⟩
          rw [HR.out]
          exact ⟨rfl, P + 1, R10⟩
    | false =>
      have hPe := digEnd_same (t := bs s) (f := (bs s).length) hdg2
      rw [hJ'] at hPe
      have hM0 : (s.extract (J + 1) P).size = 0 := by omega
      have hm := str_empty hM0
      have hP : HiP (bs s) i P (bs L) (bs (s.extract (J + 1) P)) := ⟨hlp, by unfold hiPart; rw [hlo, hc, hdg2]; exact hPe.symm, by unfold hiPart; rw [hlo, hc, hdg2, if_pos hm]; rfl⟩
      have HP := hidd hP
      clear hlp hlo hm hlen1 hP hMb hJ' hdg2 hc
      generalize s.extract (J + 1) P = M at *
      clear hMz HLZ hJp hPe HLO HLP hbl
      cases hb5 : is (bs s) P 125 with
      | false =>
        go_wp2_with fail
        refine (takes_no R5 hPs hb5).mono ?_
        rintro e w6 ⟨rfl, m6, rfl⟩
        have R6 := R5.drewN m6
        have T6 := T5.drewN m6
        clear R5 T5
        generalize w5.drewN m6 = w6 at *
        rcases Nat.lt_or_ge P s.size with hPl | hPg
        · have HR : Hid (bounds (bs s) i = .error (41, P)) := HP.out.no (by rw [HBL.out]; exact hPl) (fun e => by rw [is_of (by rw [HBL.out]; exact hPl), e] at hb5; cases hb5)
          clear hb5 HP HBL
          go_wp2_with fail
          refine (fail_here R6 hPl 41).mono ?_
          rintro e w7 ⟨rfl, R7, T7⟩
          have hT := T6.trans T7
          clear T6 T7
          go_wp2
          go_ret3
          refine ⟨hT, ?_⟩
          rw [HR.out]
          exact ⟨rfl, P, R7⟩
        · have hPe : P = s.size := by omega
          subst hPe
          have HR : Hid (bounds (bs s) i = .error (40, s.size)) := by show _ = _; rw [HP.out.soon (by rw [HBL.out]; exact Nat.le_refl _), HBL.out]
          clear hb5 HP HBL
          go_wp2_with fail
          refine (fail_end R6 rfl 41).mono ?_
          rintro e w7 ⟨rfl, R7, T7⟩
          have hT := T6.trans T7
          clear T6 T7
          go_wp2
          go_ret3
          refine ⟨hT, ?_⟩
          rw [HR.out]
          exact ⟨rfl, s.size, R7⟩
      | true =>
        have HR := hidd (HP.out.ok (is_lt hb5).1 (is_lt hb5).2)
        go_wp2_with fail
        refine (takes_yes R5 hs hb5).mono ?_
        rintro e w6 ⟨rfl, R6, T6⟩
        have hT6 := T5.trans T6
        have hE6 := EV.touch hE5 T6 hvb
        clear R5 T5 T6 hE5 hb5 HP
        go_wp2_with fail
        refine (pnumber_any L _ hE6 HLd.out hL1 hLs).mono ?_
        rintro e w7 ⟨rfl, b7⟩
        have R7 := R6.below b7 R6.lt
        have hT7 := hT6.below b7
        have hE7 := hE6.below b7
        clear R6 hT6 hE6 b7
        have hne : M.toList.isEmpty = true := by
          rw [toList_data]
          have : M.data.toList.length = M.size := rfl
          cases hq : M.data.toList with
          | nil => rfl
          | cons x r => rw [hq] at this; simp at this; omega
        rw [if_pos (str_empty hM0)] at HR
        clear hM0
        go_wp2_with fail
        clear hne
        refine (arebnd_any _ _ _).mono ?_
        rintro e w9 ⟨rfl, rfl⟩
        cases hb9 : bndB (numI (bs L)) (-1) with
        | true =>
          rw [hb9] at HR
          clear hb9
          go_wp2
          go_ret3
          refine ⟨hT7, ?_⟩
          rw [HR.out]
          exact ⟨rfl, R7⟩
        | false =>
          rw [hb9] at HR
          clear hb9
          go_wp2_with fail
          refine (fail_any R7 45 i).mono ?_
          rintro e w10 ⟨rfl, R10, T10⟩
          have hT := (hT7).trans T10
          clear T10
          go_wp2
          go_ret3
          refine ⟨hT, ?_⟩
          rw [HR.out]
          exact ⟨rfl, P + 1, R10⟩
end
end Go.Proofs.YtghjkbjpdjlddaaDoor.Sy

/- The landed parser in memory: a block of six cells; what only reads it, and what goes on by a byte. -/
import Derived.Test.YtghjkbjpdjlddaaDoorNe
import Derived.Test.YtghjkbjpdjlddaaDoorVv
import Derived.Test.YtghjkbjpdjlddaaDoorShelf
import Derived.Lib.IndexAny
import Derived.Lib.IndexLaws
namespace Go.Proofs.YtghjkbjpdjlddaaDoor.Sy
open Go.RowKit

abbrev pC (s : ByteArray) (i er pl : Int) (v : Value) (d : Int) : Array Value := #[.string s, .int .i64 i, .int .i64 er, .int .i64 pl, v, .int .i64 d]
/-- Block b is a parser: its text, its place, what is wrong and where, its nodes, how deep it is. -/
def PR (w : World) (b : Nat) (s : ByteArray) (i er pl : Int) (v : Value) (d : Int) : Prop := RowA w b 47 (pC s i er pl v d)
section
variable {w w' : World} {b : Nat} {s : ByteArray} {i er pl : Int} {v : Value} {d : Int}
theorem PR.cells (r : PR w b s i er pl v d) : w.cell? ⟨b, 0, none⟩ = some (.string s) ∧ w.cell? ⟨b, 1, none⟩ = some (.int .i64 i) ∧ w.cell? ⟨b, 2, none⟩ = some (.int .i64 er) ∧ w.cell? ⟨b, 3, none⟩ = some (.int .i64 pl) ∧ w.cell? ⟨b, 4, none⟩ = some v ∧ w.cell? ⟨b, 5, none⟩ = some (.int .i64 d) :=
  ⟨RowA.at_ r rfl, RowA.at_ r rfl, RowA.at_ r rfl, RowA.at_ r rfl, RowA.at_ r rfl, RowA.at_ r rfl⟩
theorem PR.thawed (r : PR w b s i er pl v d) (o : Nat) : w.frozen? ⟨b, o, none⟩ = false := RowA.thawed r o
theorem PR.lt (r : PR w b s i er pl v d) : b < w.heap.size := RowA.lt r
theorem PR.drewN (r : PR w b s i er pl v d) (m : Nat) : PR (w.drewN m) b s i er pl v d := r
theorem PR.drew (r : PR w b s i er pl v d) : PR w.drew b s i er pl v d := r
theorem PR.below {B : Nat} (r : PR w b s i er pl v d) (hb : Below B w w') (hg : b < B) : PR w' b s i er pl v d := RowA.below r hb hg
theorem PR.alloc (r : PR w b s i er pl v d) (o : Obj) : PR (w.alloc o) b s i er pl v d := RowA.alloc r o
theorem PR.atTo (r : PR w b s i er pl v d) (j : Int) : PR (w.setCell ⟨b, 1, none⟩ (.int .i64 j)) b s j er pl v d := by
  unfold PR RowA at r ⊢
  simp [World.setCell, Array.getElem?_modify, r]
theorem PR.bad (r : PR w b s i er pl v d) (e p : Int) : PR ((w.setCell ⟨b, 2, none⟩ (.int .i64 e)).setCell ⟨b, 3, none⟩ (.int .i64 p)) b s i e p v d := by
  unfold PR RowA at r ⊢
  simp [World.setCell, Array.getElem?_modify, r]
theorem PR.deep (r : PR w b s i er pl v d) (k : Int) : PR (w.setCell ⟨b, 5, none⟩ (.int .i64 k)) b s i er pl v k := by
  unfold PR RowA at r ⊢
  simp [World.setCell, Array.getElem?_modify, r]
theorem PR.nodes (r : PR w b s i er pl v d) (u : Value) : PR (w.setCell ⟨b, 4, none⟩ u) b s i er pl u d := by
  unfold PR RowA at r ⊢
  simp [World.setCell, Array.getElem?_modify, r]
end

/-- Is there a byte at i, and is it one of these? -/
def seesB (s : List Nat) (i : Nat) (t : List Nat) : Bool := decide (i < s.length) && t.contains (at_ s i)
/-- Where a byte is in a text; -1: nowhere. -/
def idx (t : ByteArray) (c : Nat) : Int := Lib.indexByte t.data.toList c.toUInt8
theorem bs_has (t : ByteArray) (c : UInt8) : (bs t).contains c.toNat = t.data.toList.contains c := by
  unfold bs
  generalize t.data.toList = l
  induction l with
  | nil => rfl
  | cons x r ih =>
    rw [List.map_cons, List.contains_cons, List.contains_cons, ih]
    congr 1
    by_cases h : c = x
    · subst h; simp
    · have h2 : ¬ c.toNat = x.toNat := fun e => h (UInt8.toNat_inj.1 e)
      rw [beq_eq_false_iff_ne.2 h, beq_eq_false_iff_ne.2 h2]
theorem u8_back (x : UInt8) : (x.toNat).toUInt8 = x := by simp
theorem idx_has (t : ByteArray) (x : UInt8) : decide (0 ≤ idx t x.toNat) = (bs t).contains x.toNat := by
  unfold idx
  rw [u8_back, bs_has, Lib.contains_iff_indexByte]
theorem idx_any (t : ByteArray) (c : Nat) (w : World) : Calls Tryd.prog 26 #[.string t, .int .u8 (c : Int)] w fun e w' => e = .returned (.int .i64 (idx t c)) ∧ w' = w := by
  have := Tryd.strings_IndexByte t (c : Int) w
  rw [Int.toNat_natCast] at this
  exact this

section
variable {w : World} {b : Nat} {s : ByteArray} {er pl : Int} {v : Value} {d : Int}
theorem ended_no {i : Nat} (r : PR w b s i er pl v d) (hi : i < s.size) : Calls Tryd.prog 37 #[.pointer (some ⟨b, 0, none⟩)] w fun e w' => e = .returned (.bool false) ∧ ∃ m, w' = w.drewN m := by
  obtain ⟨c0, c1, c2, c3, c4, c5⟩ := r.cells
  have h1 : ((i : Int) == (s.size : Int)) = false := by simp; omega
  go_enter Tryd.func37, Tryd.ntmps37
  go_wp2
  go_quiet (fail)
  go_wp2
  go_ret
  exact ⟨rfl, _, rfl⟩
theorem ended_yes {i : Nat} (r : PR w b s i er pl v d) (hi : i = s.size) : Calls Tryd.prog 37 #[.pointer (some ⟨b, 0, none⟩)] w fun e w' => e = .returned (.bool true) ∧ ∃ m, w' = w.drewN m := by
  subst hi
  obtain ⟨c0, c1, c2, c3, c4, c5⟩ := r.cells
  go_enter Tryd.func37, Tryd.ntmps37
  go_wp2
  go_quiet (fail)
  go_wp2
  go_ret
  exact ⟨rfl, _, rfl⟩
theorem fail_any {i : Int} (r : PR w b s i er pl v d) (e p : Int) : Calls Tryd.prog 38 #[.pointer (some ⟨b, 0, none⟩), .int .i64 e, .int .i64 p] w fun en w' => en = .returned (.bool false) ∧ PR w' b s i e p v d ∧ Touch b b w w' := by
  obtain ⟨c0, c1, c2, c3, c4, c5⟩ := r.cells
  have ht := r.thawed
  go_enter Tryd.func38, Tryd.ntmps38
  go_wp2
  go_ret
  exact ⟨rfl, r.bad e p, ((Touch.refl b b w).set1 _ _).set1 _ _⟩
theorem next_any {i : Nat} (r : PR w b s i er pl v d) (hi : i < s.size) (hs : s.size ≤ 100000) : Calls Tryd.prog 90 #[.pointer (some ⟨b, 0, none⟩)] w fun e w' => e = .returned (.int .u8 ((at_ (bs s) i : Nat) : Int)) ∧ PR w' b s ((i + 1 : Nat) : Int) er pl v d ∧ Touch b b w w' := by
  have hak := at_bs s i hi
  rw [hak]
  obtain ⟨c0, c1, c2, c3, c4, c5⟩ := r.cells
  have ht := r.thawed
  have hi1 : (i : Int) < (s.size : Int) := by omega
  go_enter Tryd.func90, Tryd.ntmps90
  go_wp2
  go_quiet (fail)
  go_wp2
  go_ret
  exact ⟨rfl, (r.drewN _).atTo _, ((Touch.refl b b w).drewN _).set1 _ _⟩
end

end Go.Proofs.YtghjkbjpdjlddaaDoor.Sy

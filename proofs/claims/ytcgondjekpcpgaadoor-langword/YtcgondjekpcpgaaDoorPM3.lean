/- M3: what were Ta Tb Tc Td Te Tf Tg Th Ti Tj. -/
import Derived.Test.YtcgondjekpcpgaaDoorPM2
import Derived.Test.YtcgondjekpcpgaaDoorPVv
import Derived.Test.YtcgondjekpcpgaaDoorShelf
import Derived.Test.YtcgondjekpcpgaaDoorPM1
import Derived.Lib.IndexAny
import Derived.Lib.IndexLaws
import Derived.Lib.IndexBytes
import Derived.Lib.AtoiAll
import Derived.WalkLawsBesides

/- The landed parser in memory: a block of six cells; what only reads it, and what goes on by a byte. -/
namespace Go.Proofs.YtcgondjekpcpgaaDoor.Sy
open Go.RowKit

section
variable {w w' : World} {b : Nat} {s : ByteArray} {i er pl : Int} {v : Value} {d : Int}
end

section
variable {w : World} {b : Nat} {s : ByteArray} {er pl : Int} {v : Value} {d : Int}
end

end Go.Proofs.YtcgondjekpcpgaaDoor.Sy

/- The landed reader: what it sees, what it takes, a name, digits, an escape, a byte of a class. -/
namespace Go.Proofs.YtcgondjekpcpgaaDoor.Sy
open Go.RowKit

set_option maxHeartbeats 400000 in
theorem pdigit_any (c : Nat) (w : World) : Calls Tryd.prog 81 #[.int .u8 (c : Int)] w fun e w' => e = .returned (.bool (digitB c)) ∧ w' = w := by
  by_cases h1 : 48 ≤ c
  · have h1i : (48 : Int) ≤ (c : Int) := by omega
    by_cases h2 : c ≤ 57
    · have HV : Hid (digitB c = true) := by show _ = _; simp [digitB, h1, h2]
      have h2i : (c : Int) ≤ 57 := by omega
      go_enter Tryd.func81, Tryd.ntmps81
      go_wp2
      go_ret
      exact ⟨by rw [HV.out]; rfl, rfl⟩
    · have HV : Hid (digitB c = false) := by show _ = _; simp [digitB]; omega
      have h2i : ¬ (c : Int) ≤ 57 := by omega
      go_enter Tryd.func81, Tryd.ntmps81
      go_wp2
      go_ret
      exact ⟨by rw [HV.out]; rfl, rfl⟩
  · have HV : Hid (digitB c = false) := by show _ = _; simp [digitB]; omega
    have h1i : ¬ (48 : Int) ≤ (c : Int) := by omega
    go_enter Tryd.func81, Tryd.ntmps81
    go_wp2
    go_ret
    exact ⟨by rw [HV.out]; rfl, rfl⟩

section
variable {w : World} {b : Nat} {s : ByteArray} {er pl : Int} {v : Value} {d : Int}

end

end Go.Proofs.YtcgondjekpcpgaaDoor.Sy

/- The landed reader: digits, what stands up to a brace, an escape. -/
namespace Go.Proofs.YtcgondjekpcpgaaDoor.Sy
open Go.RowKit
set_option maxRecDepth 100000

/-- Where a parser is. -/
def atOf (w : World) (b : Nat) : Nat := match w.cell? ⟨b, 1, none⟩ with
  | some (.int _ k) => k.toNat
  | _ => 0
section
variable {w w' : World} {b : Nat} {s : ByteArray} {er pl : Int} {v : Value} {d : Int}
theorem ex_bs (s : ByteArray) (i j : Nat) : bs (s.extract i j) = cut (bs s) i j := by
  unfold bs cut
  rw [← List.map_drop, ← List.map_take]
  congr 1
  rw [ByteArray.data_extract, Array.toList_extract]

end

end Go.Proofs.YtcgondjekpcpgaaDoor.Sy

/- The landed reader: what stands up to a brace, two digits, an escape, a byte of a class. -/
namespace Go.Proofs.YtcgondjekpcpgaaDoor.Sy
open Go.RowKit
set_option maxRecDepth 100000

section
variable {w w' : World} {b : Nat} {s : ByteArray} {er pl : Int} {v : Value} {d : Int}

end

end Go.Proofs.YtcgondjekpcpgaaDoor.Sy

/- The landed reader: an escape, a byte of a class. -/
namespace Go.Proofs.YtcgondjekpcpgaaDoor.Sy
open Go.RowKit
set_option maxRecDepth 100000

section
variable {t : List Nat} {i : Nat}
end

section
variable {w w' : World} {b : Nat} {s : ByteArray} {er pl : Int} {v : Value} {d : Int}
end

end Go.Proofs.YtcgondjekpcpgaaDoor.Sy

/- The landed parser: a byte of a class, and two with what is between them. -/
namespace Go.Proofs.YtcgondjekpcpgaaDoor.Sy
open Go.RowKit
set_option maxRecDepth 100000

section
variable {t : List Nat}
end

section
variable {w w' : World} {b : Nat} {s : ByteArray} {er pl : Int} {v : Value} {d : Int}
end

end Go.Proofs.YtcgondjekpcpgaaDoor.Sy

/- The landed parser: a byte of a class, or two and what is between them. -/
namespace Go.Proofs.YtcgondjekpcpgaaDoor
open Go.RowKit
section
variable {w w' : World}
theorem Touch.fresh {g h : Nat} (a : Touch g h w w') {x : Addr} (hx : w.heap.size ≤ x.block) (u : Value) : Touch g h w (w'.setCell x u) :=
  ⟨a.os, a.tape, a.output, by simpa [World.setCell] using a.size, fun k hk h1 h2 => (Below.heap_setCell _ _ _ _ (by omega)).trans (a.block k hk h1 h2)⟩
theorem Touch.alloc {g h : Nat} (a : Touch g h w w') (o : Obj) : Touch g h w (w'.alloc o) := a.below ((Below.refl _ _).alloc (Nat.le_refl _) o)
end
end Go.Proofs.YtcgondjekpcpgaaDoor
namespace Go.Proofs.YtcgondjekpcpgaaDoor.Sy
open Go.RowKit
set_option maxRecDepth 100000

section
variable {w w' : World} {b : Nat} {s : ByteArray} {er pl : Int} {v : Value} {d : Int}

end

end Go.Proofs.YtcgondjekpcpgaaDoor.Sy

/- The landed parser: numbers of bounds. -/
namespace Go.Proofs.YtcgondjekpcpgaaDoor.Sy
open Go.RowKit
set_option maxRecDepth 100000

/-- A number of bounds by its digits, if it is one. -/
def numV (l : List Nat) : Option Nat := if 6 < l.length ∨ (l.getD 0 0 = 48 ∧ 1 < l.length) then none else some (value l)
/-- The same as the landed code tells it. -/
def numI (l : List Nat) : Int := match numV l with | some n => (n : Int) | none => 4097
/-- May something be repeated from lo to hi times? -/
def bndB (lo hi : Int) : Bool := decide (0 ≤ lo) && decide (lo ≤ 4096) && (hi == -1 || (decide (1 ≤ hi) && decide (lo ≤ hi) && decide (hi ≤ 4096)))
set_option maxHeartbeats 1000000 in
theorem arebnd_any (lo hi : Int) (w : World) : Calls Tryd.prog 71 #[.int .i64 lo, .int .i64 hi] w fun e w' => e = .returned (.bool (bndB lo hi)) ∧ w' = w := by
  by_cases h1 : lo < 0
  · skip
    have HV : Hid (bndB lo hi = false) := by show _ = _; unfold bndB; simp; omega
    go_enter Tryd.func71, Tryd.ntmps71
    go_wp2
    go_ret
    exact ⟨by rw [HV.out]; rfl, rfl⟩
  · by_cases h2 : 4096 < lo
    · have h2i : decide ((4096 : Int) < lo) = true := decide_eq_true h2
      have HV : Hid (bndB lo hi = false) := by show _ = _; unfold bndB; simp; omega
      go_enter Tryd.func71, Tryd.ntmps71
      go_wp2
      go_ret
      exact ⟨by rw [HV.out]; rfl, rfl⟩
    · have h2i : decide ((4096 : Int) < lo) = false := decide_eq_false h2
      by_cases h3 : hi = -1
      · subst h3
        have HV : Hid (bndB lo (-1) = true) := by show _ = _; unfold bndB; simp; omega
        go_enter Tryd.func71, Tryd.ntmps71
        go_wp2
        go_ret
        exact ⟨by rw [HV.out]; rfl, rfl⟩
      · have h3i : (hi == -1) = false := beq_eq_false_iff_ne.2 h3
        by_cases h4 : 1 ≤ hi
        · by_cases h5 : lo ≤ hi
          · by_cases h6 : hi ≤ 4096
            · have h6i : decide (hi ≤ 4096) = true := decide_eq_true h6
              have HV : Hid (bndB lo hi = true) := by show _ = _; unfold bndB; simp; omega
              go_enter Tryd.func71, Tryd.ntmps71
              go_wp2
              go_ret
              exact ⟨by rw [HV.out]; rfl, rfl⟩
            · have h6i : decide (hi ≤ 4096) = false := decide_eq_false h6
              have HV : Hid (bndB lo hi = false) := by show _ = _; unfold bndB; simp; omega
              go_enter Tryd.func71, Tryd.ntmps71
              go_wp2
              go_ret
              exact ⟨by rw [HV.out]; rfl, rfl⟩
          · skip
            have HV : Hid (bndB lo hi = false) := by show _ = _; unfold bndB; simp; omega
            go_enter Tryd.func71, Tryd.ntmps71
            go_wp2
            go_ret
            exact ⟨by rw [HV.out]; rfl, rfl⟩
        · skip
          have HV : Hid (bndB lo hi = false) := by show _ = _; unfold bndB; simp; omega
          go_enter Tryd.func71, Tryd.ntmps71
          go_wp2
          go_ret
          exact ⟨by rw [HV.out]; rfl, rfl⟩

end Go.Proofs.YtcgondjekpcpgaaDoor.Sy

/- The landed parser: bounds, and how often something is repeated. -/
namespace Go.Proofs.YtcgondjekpcpgaaDoor.Sy
open Go.RowKit
set_option maxRecDepth 100000

section
variable {t : List Nat}
/-- What stands behind the first number: P, and the greatest number as its digits m tell it (none: there are none). -/
structure HiP (t : List Nat) (i P : Nat) (l m : List Nat) : Prop where
  lo : loPart t i = numV l
  pl : (hiPart t (loPart t i) (loEnd t i)).2 = P
  hi : (hiPart t (loPart t i) (loEnd t i)).1 = if m = [] then none else some (numV m)
theorem HiP.no {i P : Nat} {l m : List Nat} (h : HiP t i P l m) (hP : P < t.length) (hn : at_ t P ≠ 125) : bounds t i = .error (41, P) := by
  unfold bounds; rw [h.pl, if_neg (by omega), if_pos hn]
theorem HiP.ok {i P : Nat} {l m : List Nat} (h : HiP t i P l m) (hP : P < t.length) (hn : at_ t P = 125) :
    bounds t i = if bndB (numI l) (if m = [] then -1 else numI m) = true then .ok ((numI l, if m = [] then -1 else numI m), P + 1) else .error (45, i) := by
  unfold bounds
  rw [h.pl, if_neg (by omega), if_neg (fun e => e hn), h.hi, h.lo]
  unfold numI bndB
  cases numV l with
  | none => simp [okBounds]
  | some a =>
    by_cases hm : m = []
    · simp only [hm, if_true]
      by_cases ha : a ≤ 4096
      · rw [show okBounds (some a) none = some ((a : Int), -1) from by simp [okBounds, ha]]
        simp
        omega
      · rw [show okBounds (some a) none = none from by simp [okBounds, ha]]
        simp
        omega
    · simp only [hm, if_false]
      cases numV m with
      | none => simp [okBounds]
      | some c =>
        by_cases ha : a ≤ 4096 ∧ c ≤ 4096 ∧ 1 ≤ c ∧ a ≤ c
        · rw [show okBounds (some a) (some (some c)) = some ((a : Int), (c : Int)) from by simp [okBounds, ha]]
          simp
          omega
        · rw [show okBounds (some a) (some (some c)) = none from by simp [okBounds, ha]]
          simp
          omega
end
end Go.Proofs.YtcgondjekpcpgaaDoor.Sy

/- The landed parser: bounds, and how often something is repeated. -/
namespace Go.Proofs.YtcgondjekpcpgaaDoor
end Go.Proofs.YtcgondjekpcpgaaDoor
namespace Go.Proofs.YtcgondjekpcpgaaDoor.Sy
open Go.RowKit
set_option maxRecDepth 100000

section
variable {w w' : World} {b : Nat} {s : ByteArray} {er pl : Int} {v : Value} {d : Int}
end
end Go.Proofs.YtcgondjekpcpgaaDoor.Sy

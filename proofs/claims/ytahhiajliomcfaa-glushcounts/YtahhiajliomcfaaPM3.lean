/- Names expanded, by plain lists: what Expand tells. -/
import Derived.Test.YtahhiajliomcfaaPSa
import Derived.Test.YtahhiajliomcfaaPM1
import Derived.Test.YtahhiajliomcfaaPM2
import Derived.Test.YtahhiajliomcfaaPVv
import Derived.Test.YtahhiajliomcfaaShelf
import Derived.Lib.IndexAny
import Derived.Lib.IndexLaws
import Derived.Lib.IndexBytes
import Derived.Lib.AtoiAll
import Derived.WalkLawsBesides
namespace Go.Proofs.Ytahhiajliomcfaa.Sy
open Go.RowKit
set_option linter.unusedVariables false

/-- What was put so far: the result, and its nodes that have no parent yet. -/
structure X where
  out : List Nd
  rt : List Nat
/-- A name, and the tree that it stands for. -/
abbrev Df := List Nat × List Nd
def findD (D : List Df) (nm : List Nat) : Option (List Nd) := (D.find? fun d => d.1 == nm).map (·.2)
def remD (D : List Df) (nm : List Nat) : List Df := D.filter fun d => !(d.1 == nm)
def withL (n : Nd) (l : List Nat) : Nd := ⟨n.op, n.s, l, n.lo, n.hi, n.name⟩
def putX (n : Nd) (x : X) : X := ⟨x.out ++ [withL n (x.rt.drop (x.rt.length - n.l.length))], x.rt.take (x.rt.length - n.l.length) ++ [x.out.length]⟩

theorem findD_mem {D : List Df} {nm : List Nat} {t : List Nd} (h : findD D nm = some t) : (nm, t) ∈ D := by
  unfold findD at h
  cases hf : D.find? (fun d => d.1 == nm) with
  | none => rw [hf] at h; cases h
  | some d =>
    rw [hf] at h
    have h1 := List.find?_some hf
    have h2 := List.mem_of_find?_eq_some hf
    simp only [beq_iff_eq] at h1
    simp only [Option.map_some, Option.some.injEq] at h
    subst h1
    subst h
    exact h2
theorem remD_lt {D : List Df} {nm : List Nat} {t : List Nd} (h : findD D nm = some t) : (remD D nm).length < D.length := by
  have h1 := findD_mem h
  unfold remD
  exact List.length_filter_lt_length_iff_exists.2 ⟨_, h1, by simp⟩
/-- The nodes are walked, one by one; D: what the names that are not being walked stand for; all: whether there is a name. -/
def exF (all : List Nat → Bool) (D : List Df) (l : List Nd) (x : X) : Except Nat X :=
  match l with
  | [] => .ok x
  | n :: r =>
    if n.op = 6 then
      match h : findD D n.name with
      | some t =>
        match exF all (remD D n.name) t x with
        | .error e => .error e
        | .ok x' => exF all D r x'
      | none => .error (if all n.name then 61 else 60)
    else if 1024 ≤ x.out.length then .error 3 else exF all D r (putX n x)
termination_by (D.length, l.length)
decreasing_by
  · exact Prod.Lex.left _ _ (remD_lt h)
  · exact Prod.Lex.right _ (by simp)
  · exact Prod.Lex.right _ (by simp)

section
variable {all : List Nat → Bool} {D : List Df} {n : Nd} {r l : List Nd} {x : X}
end

/-- How many have no parent, behind some nodes. -/
def hts : Nat → List Nd → Option Nat
  | h, [] => some h
  | h, n :: r => if n.l.length ≤ h then hts (h - n.l.length + 1) r else none
theorem hts_append (a b : List Nd) : ∀ h, hts h (a ++ b) = (hts h a).bind fun k => hts k b := by
  induction a with
  | nil => intro h; rfl
  | cons n r ih =>
    intro h
    rw [List.cons_append, hts, hts]
    split
    · exact ih _
    · rfl
/-- The nodes from a up to b. -/
def seg (ns : List Nd) (a b : Nat) : List Nd := (ns.drop a).take (b - a)
theorem seg_join {ns : List Nd} {a b c : Nat} (h1 : a ≤ b) (h2 : b ≤ c) : seg ns a c = seg ns a b ++ seg ns b c := by
  unfold seg
  have e : c - a = (b - a) + (c - b) := by omega
  rw [e, List.take_add, List.drop_drop, show a + (b - a) = b from by omega]
theorem seg_one {ns : List Nd} {c : Nat} {n : Nd} (h : ns[c]? = some n) : seg ns c (c + 1) = [n] := by
  unfold seg
  have hl := (List.getElem?_eq_some_iff.1 h).1
  rw [List.drop_eq_getElem_cons hl, show c + 1 - c = 1 from by omega, List.take_succ_cons, List.take_zero, (List.getElem?_eq_some_iff.1 h).2]
theorem seg_self (ns : List Nd) (a : Nat) : seg ns a a = [] := by unfold seg; rw [Nat.sub_self, List.take_zero]
theorem seg_all (ns : List Nd) : seg ns 0 ns.length = ns := by unfold seg; rw [List.drop_zero, Nat.sub_zero, List.take_length]
theorem Forest.hts {ns : List Nd} {a b : Nat} {ks : List Nat} (h : Forest ns a b ks) : ∀ k, Sy.hts k (seg ns a b) = some (k + ks.length) := by
  induction h with
  | nil a => intro k; rw [seg_self]; rfl
  | @snoc a b c ks n h1 hn h2 i1 i2 =>
    intro k
    have l1 := h1.le
    have l2 := h2.le
    rw [seg_join (b := b) l1 (by omega), seg_join (b := c) l2 (by omega), seg_one hn, hts_append, i1 k, Option.bind_some, hts_append, i2, Option.bind_some, Sy.hts, if_pos (by omega)]
    show some _ = some _
    congr 1
    rw [List.length_append, List.length_singleton]
    omega
/-- A tree. -/
structure TreeN (ns : List Nd) : Prop where
  shp : Shp ns
  pos : 1 ≤ ns.length
  few : ns.length ≤ 1024
  frs : Forest ns 0 ns.length [ns.length - 1]
theorem TreeN.hts {ns : List Nd} (h : TreeN ns) : Sy.hts 0 ns = some 1 := by
  have := h.frs.hts 0
  rw [seg_all] at this
  exact this
def TreesD (D : List Df) : Prop := ∀ d ∈ D, TreeN d.2
/-- No names. -/
def PlainN (l : List Nd) : Prop := ∀ n ∈ l, n.op ≠ 6
theorem shape_with {n : Nd} {l : List Nat} (h : l.length = n.l.length) : shapeB (withL n l) = shapeB n := by
  have e : (l == []) = (n.l == []) := by
    cases l with
    | nil => cases hn : n.l with
      | nil => rfl
      | cons a b => rw [hn] at h; simp at h
    | cons a b => cases hn : n.l with
      | nil => rw [hn] at h; simp at h
      | cons c d => rfl
  unfold shapeB zeroB withL
  simp only [h, e]
def x0 : X := ⟨[], []⟩
end Go.Proofs.Ytahhiajliomcfaa.Sy

namespace Go.Proofs.Ytahhiajliomcfaa.Sy
open Go.RowKit
set_option linter.unusedVariables false

/-! ### Fold -/
/-! ### What may be nothing -/
def may1 (n : Nd) (m : List Bool) : Bool :=
  if n.op = 1 then true
  else if n.op = 3 then n.l.all fun k => m.getD k false
  else if n.op = 4 then n.l.any fun k => m.getD k false
  else if n.op = 5 then n.lo == 0 || m.getD (n.l.getD 0 0) false
  else false
def mayL (l : List Nd) : List Bool := l.foldl (fun m n => m ++ [may1 n m]) []
def nulN (l : List Nd) : Bool := (mayL l).getD (l.length - 1) false
theorem mayL_snoc (l : List Nd) (n : Nd) : mayL (l ++ [n]) = mayL l ++ [may1 n (mayL l)] := by unfold mayL; rw [List.foldl_append]; rfl
theorem list_snoc {α : Type} (l : List α) : l = [] ∨ ∃ r n, l = r ++ [n] := by
  rcases List.eq_nil_or_concat l with h | ⟨r, n, h⟩
  · exact .inl h
  · exact .inr ⟨r, n, by rw [h, List.concat_eq_append]⟩
theorem mayL_len : ∀ (k : Nat) (l : List Nd), l.length = k → (mayL l).length = k
  | 0, l, h => by rw [List.eq_nil_of_length_eq_zero h]; rfl
  | k + 1, l, h => by
    rcases list_snoc l with e | ⟨r, n, e⟩
    · rw [e] at h; simp at h
    · subst e
      rw [List.length_append, List.length_singleton] at h
      rw [mayL_snoc, List.length_append, mayL_len k r (by omega), List.length_singleton]
theorem mayL_len' (l : List Nd) : (mayL l).length = l.length := mayL_len _ l rfl
section
variable {ns : List Nd}
theorem Forest.mem {a b : Nat} {ks : List Nat} (h : Forest ns a b ks) : ∀ k ∈ ks, a ≤ k ∧ k < b := by
  induction h with
  | nil a => intro k hk; cases hk
  | @snoc a b c ks n h1 hn h2 ih1 ih2 =>
    intro k hk
    have := h1.le
    have := h2.le
    rcases List.mem_append.1 hk with q | q
    · have := ih1 k q; omega
    · obtain rfl := List.mem_singleton.1 q
      omega
theorem Forest.kids {a b : Nat} {ks : List Nat} (h : Forest ns a b ks) : ∀ i, a ≤ i → i < b → ∃ n e, ns[i]? = some n ∧ Forest ns e i n.l := by
  induction h with
  | nil a => intro i h1 h2; omega
  | @snoc a b c ks n h1 hn h2 ih1 ih2 =>
    intro i h3 h4
    by_cases q : i < b
    · exact ih1 i h3 q
    · by_cases r : i < c
      · exact ih2 i (by omega) r
      · obtain rfl : i = c := by omega
        exact ⟨n, b, hn, h2⟩
end
theorem shp_rep {n : Nd} (h : shapeB n = true) (h5 : n.op = 5) : n.l.length = 1 := by
  unfold shapeB at h
  rw [if_neg (by omega), if_neg (by omega), if_neg (by omega), if_pos h5] at h
  simp only [Bool.and_eq_true, decide_eq_true_eq] at h
  exact h.1.1.1.2
/-! ### Nodes behind others -/
theorem TreeN.low {y : List Nd} (h : TreeN y) : ∀ (i : Nat) (n : Nd), y[i]? = some n → (n.op = 5 → n.l ≠ []) ∧ ∀ k ∈ n.l, k < i := fun i n hn => by
  obtain ⟨n', e, h1, h2⟩ := h.frs.kids i (Nat.zero_le _) (List.getElem?_eq_some_iff.1 hn).1
  rw [hn] at h1
  cases h1
  refine ⟨fun h5 q => ?_, fun k hk => (h2.mem k hk).2⟩
  have := shp_rep (h.shp n (List.mem_of_getElem? hn)) h5
  rw [q] at this
  simp at this
/-! ### The order of names -/
/-! ### How many nodes come -/
end Go.Proofs.Ytahhiajliomcfaa.Sy

/- The landed parser in memory: a block of six cells; what only reads it, and what goes on by a byte. -/
namespace Go.Proofs.Ytahhiajliomcfaa.Sy
open Go.RowKit

section
variable {w w' : World} {b : Nat} {s : ByteArray} {i er pl : Int} {v : Value} {d : Int}
end

section
variable {w : World} {b : Nat} {s : ByteArray} {er pl : Int} {v : Value} {d : Int}
end

end Go.Proofs.Ytahhiajliomcfaa.Sy

/- The landed reader: what it sees, what it takes, a name, digits, an escape, a byte of a class. -/
namespace Go.Proofs.Ytahhiajliomcfaa.Sy
open Go.RowKit

set_option maxHeartbeats 400000 in
theorem pdigit_any (c : Nat) (w : World) : Calls Try.prog 89 #[.int .u8 (c : Int)] w fun e w' => e = .returned (.bool (digitB c)) ∧ w' = w := by
  by_cases h1 : 48 ≤ c
  · have h1i : (48 : Int) ≤ (c : Int) := by omega
    by_cases h2 : c ≤ 57
    · have HV : Hid (digitB c = true) := by show _ = _; simp [digitB, h1, h2]
      have h2i : (c : Int) ≤ 57 := by omega
      go_enter Try.func89, Try.ntmps89
      go_wp2
      go_ret
      exact ⟨by rw [HV.out]; rfl, rfl⟩
    · have HV : Hid (digitB c = false) := by show _ = _; simp [digitB]; omega
      have h2i : ¬ (c : Int) ≤ 57 := by omega
      go_enter Try.func89, Try.ntmps89
      go_wp2
      go_ret
      exact ⟨by rw [HV.out]; rfl, rfl⟩
  · have HV : Hid (digitB c = false) := by show _ = _; simp [digitB]; omega
    have h1i : ¬ (48 : Int) ≤ (c : Int) := by omega
    go_enter Try.func89, Try.ntmps89
    go_wp2
    go_ret
    exact ⟨by rw [HV.out]; rfl, rfl⟩

section
variable {w : World} {b : Nat} {s : ByteArray} {er pl : Int} {v : Value} {d : Int}

end

end Go.Proofs.Ytahhiajliomcfaa.Sy

/- The landed reader: digits, what stands up to a brace, an escape. -/
namespace Go.Proofs.Ytahhiajliomcfaa.Sy
open Go.RowKit
set_option maxRecDepth 100000

/-- Where a parser is. -/
def atOf (w : World) (b : Nat) : Nat := match w.cell? ⟨b, 1, none⟩ with
  | some (.int _ k) => k.toNat
  | _ => 0
section
variable {w w' : World} {b : Nat} {s : ByteArray} {er pl : Int} {v : Value} {d : Int}
theorem ex_bs (s : ByteArray) (i j : Nat) : bs (s.extract i j) = cut (bs s) i j := by
  unfold bs cut
  rw [← List.map_drop, ← List.map_take]
  congr 1
  rw [ByteArray.data_extract, Array.toList_extract]

end

end Go.Proofs.Ytahhiajliomcfaa.Sy

/- The landed reader: what stands up to a brace, two digits, an escape, a byte of a class. -/
namespace Go.Proofs.Ytahhiajliomcfaa.Sy
open Go.RowKit
set_option maxRecDepth 100000

section
variable {w w' : World} {b : Nat} {s : ByteArray} {er pl : Int} {v : Value} {d : Int}

end

end Go.Proofs.Ytahhiajliomcfaa.Sy

/- The landed reader: an escape, a byte of a class. -/
namespace Go.Proofs.Ytahhiajliomcfaa.Sy
open Go.RowKit
set_option maxRecDepth 100000

section
variable {t : List Nat} {i : Nat}
end

section
variable {w w' : World} {b : Nat} {s : ByteArray} {er pl : Int} {v : Value} {d : Int}
end

end Go.Proofs.Ytahhiajliomcfaa.Sy

/- The landed parser: a byte of a class, and two with what is between them. -/
namespace Go.Proofs.Ytahhiajliomcfaa.Sy
open Go.RowKit
set_option maxRecDepth 100000

section
variable {t : List Nat}
end

section
variable {w w' : World} {b : Nat} {s : ByteArray} {er pl : Int} {v : Value} {d : Int}
end

end Go.Proofs.Ytahhiajliomcfaa.Sy

/- The landed parser: a byte of a class, or two and what is between them. -/
namespace Go.Proofs.Ytahhiajliomcfaa
open Go.RowKit
section
variable {w w' : World}
theorem Touch.fresh {g h : Nat} (a : Touch g h w w') {x : Addr} (hx : w.heap.size ≤ x.block) (u : Value) : Touch g h w (w'.setCell x u) :=
  ⟨a.os, a.tape, a.output, by simpa [World.setCell] using a.size, fun k hk h1 h2 => (Below.heap_setCell _ _ _ _ (by omega)).trans (a.block k hk h1 h2)⟩
theorem Touch.alloc {g h : Nat} (a : Touch g h w w') (o : Obj) : Touch g h w (w'.alloc o) := a.below ((Below.refl _ _).alloc (Nat.le_refl _) o)
end
end Go.Proofs.Ytahhiajliomcfaa
namespace Go.Proofs.Ytahhiajliomcfaa.Sy
open Go.RowKit
set_option maxRecDepth 100000

section
variable {w w' : World} {b : Nat} {s : ByteArray} {er pl : Int} {v : Value} {d : Int}

end

end Go.Proofs.Ytahhiajliomcfaa.Sy

/- The landed parser: numbers of bounds. -/
namespace Go.Proofs.Ytahhiajliomcfaa.Sy
open Go.RowKit
set_option maxRecDepth 100000

/-- A number of bounds by its digits, if it is one. -/
def numV (l : List Nat) : Option Nat := if 6 < l.length ∨ (l.getD 0 0 = 48 ∧ 1 < l.length) then none else some (value l)
/-- The same as the landed code tells it. -/
def numI (l : List Nat) : Int := match numV l with | some n => (n : Int) | none => 4097
/-- May something be repeated from lo to hi times? -/
def bndB (lo hi : Int) : Bool := decide (0 ≤ lo) && decide (lo ≤ 4096) && (hi == -1 || (decide (1 ≤ hi) && decide (lo ≤ hi) && decide (hi ≤ 4096)))
set_option maxHeartbeats 1000000 in
theorem arebnd_any (lo hi : Int) (w : World) : Calls Try.prog 80 #[.int .i64 lo, .int .i64 hi] w fun e w' => e = .returned (.bool (bndB lo hi)) ∧ w' = w := by
  by_cases h1 : lo < 0
  · skip
    have HV : Hid (bndB lo hi = false) := by show _ = _; unfold bndB; simp; omega
    go_enter Try.func80, Try.ntmps80
    go_wp2
    go_ret
    exact ⟨by rw [HV.out]; rfl, rfl⟩
  · by_cases h2 : 4096 < lo
    · have h2i : decide ((4096 : Int) < lo) = true := decide_eq_true h2
      have HV : Hid (bndB lo hi = false) := by show _ = _; unfold bndB; simp; omega
      go_enter Try.func80, Try.ntmps80
      go_wp2
      go_ret
      exact ⟨by rw [HV.out]; rfl, rfl⟩
    · have h2i : decide ((4096 : Int) < lo) = false := decide_eq_false h2
      by_cases h3 : hi = -1
      · subst h3
        have HV : Hid (bndB lo (-1) = true) := by show _ = _; unfold bndB; simp; omega
        go_enter Try.func80, Try.ntmps80
        go_wp2
        go_ret
        exact ⟨by rw [HV.out]; rfl, rfl⟩
      · have h3i : (hi == -1) = false := beq_eq_false_iff_ne.2 h3
        by_cases h4 : 1 ≤ hi
        · by_cases h5 : lo ≤ hi
          · by_cases h6 : hi ≤ 4096
            · have h6i : decide (hi ≤ 4096) = true := decide_eq_true h6
              have HV : Hid (bndB lo hi = true) := by show _ = _; unfold bndB; simp; omega
              go_enter Try.func80, Try.ntmps80
              go_wp2
              go_ret
              exact ⟨by rw [HV.out]; rfl, rfl⟩
            · have h6i : decide (hi ≤ 4096) = false := decide_eq_false h6
              have HV : Hid (bndB lo hi = false) := by show _ = _; unfold bndB; simp; omega
              go_enter Try.func80, Try.ntmps80
              go_wp2
              go_ret
              exact ⟨by rw [HV.out]; rfl, rfl⟩
          · skip
            have HV : Hid (bndB lo hi = false) := by show _ = _; unfold bndB; simp; omega
            go_enter Try.func80, Try.ntmps80
            go_wp2
            go_ret
            exact ⟨by rw [HV.out]; rfl, rfl⟩
        · skip
          have HV : Hid (bndB lo hi = false) := by show _ = _; unfold bndB; simp; omega
          go_enter Try.func80, Try.ntmps80
          go_wp2
          go_ret
          exact ⟨by rw [HV.out]; rfl, rfl⟩

end Go.Proofs.Ytahhiajliomcfaa.Sy

/- The landed parser: bounds, and how often something is repeated. -/
namespace Go.Proofs.Ytahhiajliomcfaa.Sy
open Go.RowKit
set_option maxRecDepth 100000

section
variable {t : List Nat}
/-- What stands behind the first number: P, and the greatest number as its digits m tell it (none: there are none). -/
structure HiP (t : List Nat) (i P : Nat) (l m : List Nat) : Prop where
  lo : loPart t i = numV l
  pl : (hiPart t (loPart t i) (loEnd t i)).2 = P
  hi : (hiPart t (loPart t i) (loEnd t i)).1 = if m = [] then none else some (numV m)
theorem HiP.no {i P : Nat} {l m : List Nat} (h : HiP t i P l m) (hP : P < t.length) (hn : at_ t P ≠ 125) : bounds t i = .error (41, P) := by
  unfold bounds; rw [h.pl, if_neg (by omega), if_pos hn]
theorem HiP.ok {i P : Nat} {l m : List Nat} (h : HiP t i P l m) (hP : P < t.length) (hn : at_ t P = 125) :
    bounds t i = if bndB (numI l) (if m = [] then -1 else numI m) = true then .ok ((numI l, if m = [] then -1 else numI m), P + 1) else .error (45, i) := by
  unfold bounds
  rw [h.pl, if_neg (by omega), if_neg (fun e => e hn), h.hi, h.lo]
  unfold numI bndB
  cases numV l with
  | none => simp [okBounds]
  | some a =>
    by_cases hm : m = []
    · simp only [hm, if_true]
      by_cases ha : a ≤ 4096
      · rw [show okBounds (some a) none = some ((a : Int), -1) from by simp [okBounds, ha]]
        simp
        omega
      · rw [show okBounds (some a) none = none from by simp [okBounds, ha]]
        simp
        omega
    · simp only [hm, if_false]
      cases numV m with
      | none => simp [okBounds]
      | some c =>
        by_cases ha : a ≤ 4096 ∧ c ≤ 4096 ∧ 1 ≤ c ∧ a ≤ c
        · rw [show okBounds (some a) (some (some c)) = some ((a : Int), (c : Int)) from by simp [okBounds, ha]]
          simp
          omega
        · rw [show okBounds (some a) (some (some c)) = none from by simp [okBounds, ha]]
          simp
          omega
end
end Go.Proofs.Ytahhiajliomcfaa.Sy

/- The landed parser: bounds, and how often something is repeated. -/
namespace Go.Proofs.Ytahhiajliomcfaa
end Go.Proofs.Ytahhiajliomcfaa
namespace Go.Proofs.Ytahhiajliomcfaa.Sy
open Go.RowKit
set_option maxRecDepth 100000

section
variable {w w' : World} {b : Nat} {s : ByteArray} {er pl : Int} {v : Value} {d : Int}
end
end Go.Proofs.Ytahhiajliomcfaa.Sy

/- SyntaxLetters. -/
import Derived.Test.YtghjkbjpdjlddaaDoorSe
namespace Go.Proofs.YtghjkbjpdjlddaaDoor.Sy
open Go.RowKit
set_option maxRecDepth 100000
set_option linter.unusedVariables false

theorem own_grown {w w' : World} {base : Nat} {e : TypeId} {sz n : Nat} {v : Value} {xs : List Value} {row : Option Nat} (h : w.ownsRow base e sz v n xs) (hg : w.grownBy w' row) (hr : ∀ j, v.ownBlock = some j → row ≠ some j) : w'.ownsRow base e sz v n xs := by
  obtain ⟨h1, h2⟩ := h
  refine ⟨h1, ?_⟩
  rcases h2 with h2 | ⟨g, cap, cur, hv, hgb, hh, r⟩
  · exact .inl h2
  · have hlt : g < w.heap.size := by
      rcases Nat.lt_or_ge g w.heap.size with q | q
      · exact q
      · rw [Array.getElem?_eq_none q] at hh; cases hh
    exact .inr ⟨g, cap, cur, hv, hgb, (hg.block g hlt (fun e => hr g (by rw [hv]; rfl) e.symm)).trans hh, r⟩
/-- The letters and digits in their order. -/
abbrev lettersB : ByteArray := { data := #[97, 98, 99, 100, 101, 102, 103, 104, 105, 106, 107, 108, 109, 110, 111, 112, 113, 114, 115, 116, 117, 118, 119, 120, 121, 122, 65, 66, 67, 68, 69, 70, 71, 72, 73, 74, 75, 76, 77, 78, 79, 80, 81, 82, 83, 84, 85, 86, 87, 88, 89, 90, 48, 49, 50, 51, 52, 53, 54, 55, 56, 57] }
def ltr (i : Nat) : Nat := at_ (bs lettersB) i
theorem ltr_plain : ∀ i, i < 62 → specialB (ltr i) = false ∧ ltr i ≤ 255 := by decide
def litC (ds : List Nat) : List Value := ds.flatMap fun d => gdL (oneG d) none 0
/-- How the loop stands behind these letters. -/
structure Ltr (w : World) (base : Nat) (ds : List Nat) (s t : ByteArray) (v7 v8 : Value) (wr : World) : Prop where
  s : bs s = ds
  t : bs t = bars ds
  nds : wr.ownsRow base 30 9 v7 ds.length (litC ds)
  ints : wr.ownsRow base 3 1 v8 ds.length (i64s (List.range ds.length))
  far : ∀ j, v7.ownBlock = some j → v8.ownBlock ≠ some j
  bel : Below base w wr
  sz : base ≤ wr.heap.size
def dsOf (xs : List Int) (i : Nat) : List Nat := (xs.take i).map fun x => ltr (x.toNat % 62)
theorem dsOf_snoc {xs : List Int} {i y d : Nat} (hi : i < xs.length) (hx : xs.getD i 0 = (y : Int)) (hd : ltr (y % 62) = d) : dsOf xs (i + 1) = dsOf xs i ++ [d] := by
  unfold dsOf
  rw [List.getD_eq_getElem?_getD, List.getElem?_eq_getElem hi, Option.getD_some] at hx
  rw [List.take_succ_eq_append_getElem hi, List.map_append, hx, List.map_singleton, Int.toNat_natCast, hd]
theorem dsOf_len {xs : List Int} {i : Nat} (hi : i ≤ xs.length) : (dsOf xs i).length = i := by
  unfold dsOf
  rw [List.length_map, List.length_take]
  omega
end Go.Proofs.YtghjkbjpdjlddaaDoor.Sy

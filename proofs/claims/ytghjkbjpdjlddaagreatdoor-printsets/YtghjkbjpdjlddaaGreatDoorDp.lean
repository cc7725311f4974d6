/- PrintSets: its walk. -/
import Derived.Test.YtghjkbjpdjlddaaGreatDoorDl
namespace Go.Proofs.YtghjkbjpdjlddaaGreatDoor.Sy.Pn
open Go.RowKit
set_option maxRecDepth 100000
set_option linter.unusedVariables false

def setG (p : Nat → Bool) : Gd := ⟨2, p, [], 0, 0, ⟨#[]⟩⟩
theorem parse_set {s : Nat → Bool} (hs : emptyS s = false) (hl : (setT s).length ≤ 1024) : parse (setT s) = .ok [ndBytes (qS s)] := by
  obtain ⟨m1, m2, m40, m41, m124, m42, m43, m63, m123⟩ := set_mid [] [] hs
  simp only [List.nil_append, List.append_nil, List.length_nil, Nat.zero_add] at m1
  have hrp : repAt (setT s) 0 = false := by unfold repAt; simp only [is_of m2]; simp [m42, m43, m63, m123]
  have hrun : run (setT s) start = .ok [ndBytes (qS s)] := by
    unfold start
    rw [run_it m2 m124 m41 hrp m40 m1, run_done rfl]
    rfl
  unfold parse
  rw [if_neg (by omega), hrun]
  simp only
  rw [if_neg (by simp)]
theorem ne_set (s : Nat → Bool) : NE [ndBytes s] [ndBytes (qS s)] := by
  refine ⟨rfl, fun i => ?_⟩
  match i with
  | 0 => exact ⟨rfl, fun b hb => (qS_has s b hb).symm, rfl, rfl, rfl, rfl⟩
  | i + 1 => exact NE1.refl _
theorem gn_set (s : Nat → Bool) : GN [setG s] [ndBytes s] := ⟨rfl, fun i hi => by
  match i, hi with
  | 0, _ => exact ⟨rfl, fun _ _ => rfl, rfl, rfl, rfl, rfl⟩⟩
/-- Parse of a set's text. -/
theorem parse_setM {s : Nat → Bool} (hs : emptyS s = false) (x : ByteArray) (hx : bs x = setT s) (hl : x.size ≤ 1024) (w : World) (hE : EV w) :
    Calls Tryz.prog 10 #[.string x] w fun e w' => ∃ A c gs, e = .returned (.tuple #[.slice A 1 c, .int .i64 0, .int .i64 0]) ∧ Nds w' w'.heap.size A gs ∧ GN gs [ndBytes s] ∧ Below w.heap.size w w' := by
  have hp : parse (bs x) = .ok [ndBytes (qS s)] := by
    rw [hx]
    exact parse_set hs (by rw [← hx, bs_len]; exact hl)
  refine (parseC.ok (by omega) hp w hE).mono ?_
  rintro e w' ⟨A, c, gs, h1, h2, h3, h4⟩
  have hl1 : gs.length = 1 := h3.1
  rw [hl1] at h1
  exact ⟨A, c, gs, h1, h2, gn_ne h3 (ne_set s), h4⟩
theorem same_set {s : Nat → Bool} {gs : List Gd} (h : GN gs [ndBytes s]) (A A2 : Option Addr) (c c2 : Nat) (w : World) (hx : Nds w w.heap.size A gs) (hy : Nds w w.heap.size A2 [setG s]) :
    Calls Tryz.prog 11 #[.slice A 1 c, .slice A2 1 c2] w fun e w' => e = .returned (.bool true) ∧ Below w.heap.size w w' := by
  have hl1 : gs.length = 1 := h.1
  have := same_any A A2 c c2 gs [setG s] w hx hy (h.leq (gn_set s)) (by omega) (fun g hg => by
    obtain ⟨i, hi, rfl⟩ := List.getElem_of_mem hg
    have hi0 : i = 0 := by omega
    subst hi0
    have hg := (h.2 0 hi).l
    rw [List.getD_eq_getElem?_getD, List.getElem?_eq_getElem hi] at hg
    have hg' : gs[0].l = [] := hg
    rw [hg']
    exact Nat.zero_le _)
  rw [hl1] at this
  exact this
abbrev setC (p : Nat → Bool) : Array Value := #[.int .u8 2, .int .u64 (W p 0), .int .u64 (W p 1), .int .u64 (W p 2), .int .u64 (W p 3), .slice none 0 0, .int .i64 0, .int .i64 0, .string { data := #[] }]
theorem nds_row {u : World} {b : Nat} {p : Nat → Bool} (r : RowA u b 38 (setC p)) : Nds u u.heap.size (some ⟨b, 0, none⟩) [setG p] := by
  refine fun _ => ⟨b, 0, rfl, r.lt, fun i hi => ?_⟩
  have hi0 : i = 0 := by simp at hi; omega
  subst hi0
  refine ⟨none, 0, its_nil _ _ _, fun j v hv => ?_⟩
  have e : ([setG p].getD 0 gd0) = setG p := rfl
  rw [e] at hv
  have : (gdL (setG p) none 0).toArray = setC p := rfl
  rw [show (0 + 0 * 9 + j) = j from by omega]
  exact r.at_ (by rw [← this, List.getElem?_toArray]; exact hv)
theorem set_zero (p : Nat → Bool) (w : World) : (binOp .eql 34 (.agg #[.int .u64 (W (p) 0), .int .u64 (W (p) 1), .int .u64 (W (p) 2), .int .u64 (W (p) 3)]) (.agg #[.int .u64 0, .int .u64 0, .int .u64 0, .int .u64 0])).run Tryz.prog w = .ok (.bool (eqB p noB)) w := by
  have := set_eql p noB w
  rw [W_zero, W_zero, W_zero, W_zero] at this
  exact this
theorem setT_no : setT noS = [91, 93] := by decide +kernel
theorem one_full {c : Nat} (hc : c ≤ 255) : emptyS (oneS c) = false := by
  refine emptyS_of (x := c) (by omega) ?_
  simp [oneS]
end Go.Proofs.YtghjkbjpdjlddaaGreatDoor.Sy.Pn

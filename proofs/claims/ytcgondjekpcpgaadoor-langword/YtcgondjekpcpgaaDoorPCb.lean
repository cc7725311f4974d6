/- The reference's walker: which names are open, by plain lists; the walker in memory; names found. -/
import Derived.Test.YtcgondjekpcpgaaDoorPBf
import Derived.Test.YtcgondjekpcpgaaDoorPRs
import Derived.Test.YtcgondjekpcpgaaDoorPCa
import Derived.Lib.LaidTab
import Derived.Shelf.Spec.TrailingZeros
namespace Go.Proofs.YtcgondjekpcpgaaDoor.Sy.Ap.Wk
open Go.RowKit
set_option maxRecDepth 100000
set_option linter.unusedVariables false

/-! ### The Defs that are not being walked -/
section
variable {D : List Df} {o : List Bool} {k : Nat} {d : Df}
end
def shut (o : List Bool) : Nat := o.countP fun b => !b
/-! ### The walker in memory -/
/-- All blocks but those of P are as they were. -/
structure Keeps (P : Nat → Prop) (u u' : World) : Prop where
  os : u'.os = u.os
  tape : u'.tape = u.tape
  output : u'.output = u.output
  size : u.heap.size ≤ u'.heap.size
  block : ∀ k, k < u.heap.size → ¬ P k → u'.heap[k]? = u.heap[k]?
theorem Keeps.below {P : Nat → Prop} {u u' : World} (h : Keeps P u u') {B : Nat} (hB : B ≤ u.heap.size) (hP : ∀ k, P k → B ≤ k) : Below B u u' :=
  ⟨h.os, h.tape, h.output, h.size, fun k hk => h.block k (by omega) (fun q => by have := hP k q; omega)⟩
theorem Keeps.of_below {P : Nat → Prop} {u u' : World} (h : Below u.heap.size u u') : Keeps P u u' := ⟨h.os, h.tape, h.output, h.size, fun k hk _ => h.block k hk⟩
theorem Keeps.trans {P Q : Nat → Prop} {u v w : World} (h : Keeps P u v) (h2 : Keeps Q v w) (hQ : ∀ k, k < u.heap.size → ¬ P k → ¬ Q k) : Keeps P u w :=
  ⟨h2.os.trans h.os, h2.tape.trans h.tape, h2.output.trans h.output, Nat.le_trans h.size h2.size, fun k hk hp => (h2.block k (Nat.lt_of_lt_of_le hk h.size) (hQ k hk hp)).trans (h.block k hk hp)⟩
theorem keeps_set {P : Nat → Prop} {u u' : World} (h : Keeps P u u') (p : Addr) (v : Value) (hp : P p.block ∨ u.heap.size ≤ p.block) : Keeps P u (u'.setCell p v) :=
  ⟨h.os, h.tape, h.output, by simpa [World.setCell] using h.size, fun k hk hn => (Below.heap_setCell u' p v k (fun e => by rcases hp with q | q; exact hn (e ▸ q); omega)).trans (h.block k hk hn)⟩
theorem keeps_grown {P : Nat → Prop} {u v w : World} {row : Option Nat} (h : Keeps P u v) (hg : v.grownBy w row) (hr : ∀ k, row = some k → P k ∨ u.heap.size ≤ k) : Keeps P u w :=
  ⟨hg.os.trans h.os, hg.tape.trans h.tape, hg.output.trans h.output, Nat.le_trans h.size hg.size, fun k hk hn => (hg.block k (Nat.lt_of_lt_of_le hk h.size) (fun e => by rcases hr k e.symm with q | q; exact hn q; omega)).trans (h.block k hk hn)⟩
theorem own_keeps {P : Nat → Prop} {u u' : World} {base : Nat} {e : TypeId} {sz n : Nat} {v : Value} {xs : List Value} (h : u.ownsRow base e sz v n xs) (hk : Keeps P u u') (hp : ∀ k, v.ownBlock = some k → ¬ P k) : u'.ownsRow base e sz v n xs := by
  have hl := h.lt
  obtain ⟨h1, h2⟩ := h
  refine ⟨h1, ?_⟩
  rcases h2 with h2 | ⟨g, cap, cur, hv, hg, hh, r⟩
  · exact .inl h2
  · have hgb : v.ownBlock = some g := by rw [hv]; rfl
    exact .inr ⟨g, cap, cur, hv, hg, (hk.block g (hl g hgb).2 (hp g hgb)).trans hh, r⟩
theorem row_keeps {P : Nat → Prop} {u u' : World} {g : Nat} {t : TypeId} {cs : Array Value} (r : RowA u g t cs) (hk : Keeps P u u') (hp : ¬ P g) : RowA u' g t cs := (hk.block g r.lt hp).trans r
section
variable {B : Nat} {w w' : World} {b ob m : Nat} {A2 : Option Addr} {c2 : Nat} {nv : Value} {l : List NR} {o : List Bool} {e : Int}
end
/-! ### A name found -/
end Go.Proofs.YtcgondjekpcpgaaDoor.Sy.Ap.Wk

namespace Go.Proofs.YtcgondjekpcpgaaDoor.Sy.Ap.Wk
open Go.RowKit
set_option maxRecDepth 100000
set_option linter.unusedVariables false

/-! ### By plain lists -/
section
variable {all : List Nat → Bool} {D : List Df} {ns : List Nd} {bb mid k c : Nat} {out : List Nd}
end
/-! ### What a walk owes -/
theorem lies_refl (u : World) (v : Value) : Lies u v v := .inl rfl
theorem lies_trans {u u1 : World} {v v1 v2 : Value} (hs : u.heap.size ≤ u1.heap.size) (h1 : Lies u v v1) (h2 : Lies u1 v1 v2) : Lies u v v2 := by
  rcases h2 with h2 | ⟨k, h2, h3⟩
  · rcases h1 with h1 | ⟨k, h1, h4⟩
    · exact .inl (h2.trans h1)
    · exact .inr ⟨k, h2.trans h1, h4⟩
  · exact .inr ⟨k, h2, Nat.le_trans hs h3⟩
end Go.Proofs.YtcgondjekpcpgaaDoor.Sy.Ap.Wk

namespace Go.Proofs.YtcgondjekpcpgaaDoor.Sy.Lg
open Go.RowKit
set_option maxRecDepth 100000
set_option linter.unusedVariables false

/-! ### The lowest bit -/
section
variable {n k : Nat}
/-- k is the lowest bit of n. -/
def Low1 (n k : Nat) : Prop := n.testBit k = true ∧ ∀ j, j < k → n.testBit j = false
theorem low_mod (h : Low1 n k) : n % 2 ^ (k + 1) = 2 ^ k := by
  apply Nat.eq_of_testBit_eq
  intro j
  rw [Nat.testBit_mod_two_pow, Nat.testBit_two_pow]
  rcases Nat.lt_trichotomy j k with q | q | q
  · rw [h.2 j q, Bool.and_false, decide_eq_false (by omega)]
  · subst q
    rw [h.1, Bool.and_true, decide_eq_true (by omega), decide_eq_true rfl]
  · rw [decide_eq_false (by omega : ¬ j < k + 1), decide_eq_false (by omega : ¬ k = j)]
    rfl
theorem low_pred (h : Low1 n k) (j : Nat) : (n - 1).testBit j = if j < k then true else if j = k then false else n.testBit j := by
  have hm := low_mod h
  have e : n = 2 ^ (k + 1) * (n / 2 ^ (k + 1)) + 2 ^ k := by
    have := Nat.div_add_mod n (2 ^ (k + 1))
    rw [hm] at this
    exact this.symm
  have hp : 0 < 2 ^ k := Nat.two_pow_pos k
  have e2 : n - 1 = 2 ^ (k + 1) * (n / 2 ^ (k + 1)) + (2 ^ k - 1) := by omega
  have hlt : 2 ^ k - 1 < 2 ^ (k + 1) := by rw [Nat.pow_succ]; omega
  have hlt2 : 2 ^ k < 2 ^ (k + 1) := by rw [Nat.pow_succ]; omega
  rw [e2, Nat.testBit_two_pow_mul_add _ hlt]
  split
  · rename_i hj
    rw [Nat.testBit_two_pow_sub_one]
    by_cases q : j < k
    · simp [q]
    · rw [if_neg q, if_pos (by omega)]
      simp
      omega
  · rename_i hj
    rw [if_neg (by omega), if_neg (by omega)]
    have := Nat.testBit_two_pow_mul_add (n / 2 ^ (k + 1)) hlt2 j
    rw [if_neg hj, ← e] at this
    exact this.symm
theorem low_neg (h : Low1 n k) (hn : n < 2 ^ 64) (hk : k < 64) : n &&& (2 ^ 64 - n) = 2 ^ k := by
  have hpos : 0 < n := by
    rcases Nat.eq_zero_or_pos n with q | q
    · have := h.1
      rw [q] at this
      simp at this
    · exact q
  apply Nat.eq_of_testBit_eq
  intro j
  rw [Nat.testBit_and, show 2 ^ 64 - n = 2 ^ 64 - ((n - 1) + 1) from by omega, Nat.testBit_two_pow_sub_succ (by omega), low_pred h, Nat.testBit_two_pow]
  rcases Nat.lt_trichotomy j k with q | q | q
  · rw [h.2 j q]
    simp
    omega
  · subst q
    rw [h.1, if_neg (Nat.lt_irrefl _), if_pos rfl]
    simp [hk]
  · rw [if_neg (by omega), if_neg (by omega)]
    cases n.testBit j <;> simp <;> omega
end
def tabT : List Int := Lib.deBruijn64tab.map fun n : Nat => (n : Int)
/-- The table of the Go library that TrailingZeros64 reads. -/
def DB (w : World) : Prop := Lib.TabIs Tryd.prog w "math/bits.deBruijn64tab" .u8 tabT
theorem gDB : Tryd.prog.globalNamed "math/bits.deBruijn64tab" = some 0 := by kernel_rfl
theorem DB.lt {w : World} (h : DB w) : 0 < w.heap.size := by
  have := h.cell gDB 0 (by decide)
  rcases Nat.lt_or_ge 0 w.heap.size with q | q
  · exact q
  · simp [World.cell?, Array.getElem?_eq_none q] at this
theorem DB.kept {w w' : World} (h : DB w) (e : w'.heap[0]? = w.heap[0]?) : DB w' := by
  unfold DB Lib.TabIs World.var? at h ⊢
  rw [gDB] at h ⊢
  simp only [Option.bind] at h ⊢
  rw [e]
  exact h
theorem DB.below {w w' : World} (h : DB w) (hb : Below w.heap.size w w') : DB w' := h.kept (hb.block _ h.lt)
/-- k is the first of p. -/
def Fst (p : Nat → Bool) (k : Nat) : Prop := k < 64 ∧ p k = true ∧ ∀ j, j < k → p j = false
theorem fst_low {p : Nat → Bool} {k : Nat} (h : Fst p k) : Low1 (wN p 0) k := by
  obtain ⟨h1, h2, h3⟩ := h
  refine ⟨?_, fun j hj => ?_⟩
  · rw [wN_bit]; simp [h1, h2]
  · rw [wN_bit]; simp [h3 j hj]
theorem W_ne {p : Nat → Bool} {k : Nat} (hk : k < 64) (h : p k = true) : W p 0 ≠ 0 := fun e => by
  rw [← W_zero 0] at e
  have := W_inj e k hk
  simp [noB, h] at this
theorem W_pred {p : Nat → Bool} {k : Nat} (h : Fst p k) : bits .and .u64 (W p 0) (W p 0 - 1) = W (fun i => p i && !(i == k)) 0 := by
  have hl := fst_low h
  have hlt := wN_lt p 0
  have hpos : 0 < wN p 0 := by
    rcases Nat.eq_zero_or_pos (wN p 0) with q | q
    · have := hl.1; rw [q] at this; simp at this
    · exact q
  have e : W p 0 - 1 = ((wN p 0 - 1 : Nat) : Int) := by rw [W_eq]; omega
  rw [e, W_eq, u64_and_nat _ _ hlt (by omega), W_eq]
  congr 1
  apply wN_ext
  · exact Nat.and_lt_two_pow (n := 64) _ (by omega)
  · intro j hj
    rw [Nat.testBit_and, low_pred hl, wN_bit]
    simp only [Nat.mul_zero, Nat.zero_add, hj, decide_true, Bool.true_and]
    rcases Nat.lt_trichotomy j k with q | q | q
    · rw [h.2.2 j q]
      simp
    · subst q
      simp
    · rw [if_neg (by omega), if_neg (by omega)]
      have : (j == k) = false := by simp; omega
      rw [this]
      simp
/-- The kit's contract of TrailingZeros64, at this program. -/
def tzRen : Go.Shelf.Ren := ⟨fun | 29 => 51 | n => n, fun | 22 => 39 | 25 => 96 | 54 => 95 | n => n, fun | 1 => 0 | n => n⟩
theorem tzLays : Go.Proofs.Lays7.n29 Tryd.prog tzRen := {
  mixed := by kernel_rfl
  f29 := Tryd.func51.trans (congrArg some (by kernel_rfl))
  t0 := Tryd.underlying0
  a0 := Tryd.isAgg0
  z0 := Tryd.sizeOf0
  v0 := Tryd.zeroValue0
  i0 := by kernel_rfl
  t3 := Tryd.underlying3
  a3 := Tryd.isAgg3
  z3 := Tryd.sizeOf3
  v3 := Tryd.zeroValue3
  i3 := by kernel_rfl
  t4 := Tryd.underlying4
  a4 := Tryd.isAgg4
  z4 := Tryd.sizeOf4
  v4 := Tryd.zeroValue4
  i4 := by kernel_rfl
  t5 := Tryd.underlying5
  a5 := Tryd.isAgg5
  z5 := Tryd.sizeOf5
  v5 := Tryd.zeroValue5
  i5 := by kernel_rfl
  t22 := Tryd.underlying39
  a22 := Tryd.isAgg39
  z22 := Tryd.sizeOf39
  v22 := Tryd.zeroValue39
  i22 := by kernel_rfl
  t25 := Tryd.underlying96
  a25 := Tryd.isAgg96
  z25 := Tryd.sizeOf96
  v25 := Tryd.zeroValue96
  i25 := by kernel_rfl
  t54 := Tryd.underlying95
  a54 := Tryd.isAgg95
  z54 := Tryd.sizeOf95
  g1 := by kernel_rfl
}
theorem trail_any (p : Nat → Bool) (k : Nat) (h : Fst p k) (w : World) (hD : DB w) :
    Calls Tryd.prog 51 #[.int .u64 (W p 0)] w fun e w' => e = .returned (.int .i64 (k : Int)) ∧ w' = w := by
  have hl := fst_low h
  have hlt := wN_lt p 0
  have hne : wN p 0 ≠ 0 := fun q => by
    have := hl.1
    rw [q] at this
    simp at this
  obtain ⟨h1, h2⟩ := Lib.lowest_bit 64 (wN p 0) hne hlt
  have h3 := low_neg hl hlt h.1
  have h4 : Lib.ctz 64 (wN p 0) = k := by
    have e : (2 : Nat) ^ Lib.ctz 64 (wN p 0) = 2 ^ k := h1.symm.trans h3
    have e2 := congrArg (fun z => Nat.testBit z k) e
    simp only [Nat.testBit_two_pow] at e2
    simpa using e2
  have h5 := Any7.bits_TrailingZeros64 tzLays (wN p 0) hlt w (fun _ j hj => by
    have := hD.cell gDB j (by unfold tabT; rw [List.length_map]; exact hj)
    unfold tabT at this
    rw [List.getD_eq_getElem?_getD, List.getElem?_map, List.getElem?_eq_getElem hj] at this
    rw [List.getD_eq_getElem?_getD, List.getElem?_eq_getElem hj]
    exact this)
  rw [h4] at h5
  exact h5
/-! ### Places in memory -/
/-- v is the places p, all below 64: no word, or one at b. -/
def Pl (w : World) (v : Value) (p : Nat → Bool) : Prop :=
  (∀ i, p i = true → i < 64) ∧ ((v = .agg #[.int .i64 0, .slice none 0 0] ∧ ∀ i, p i = false) ∨
    ∃ b c i, v = .agg #[.int .i64 0, .slice (some ⟨b, 0, none⟩) 1 c] ∧ 1 ≤ c ∧ b < w.heap.size ∧ w.cell? ⟨b, 0, none⟩ = some (.int .u64 (W p 0)) ∧ p i = true)
/-- The block that places lie in. -/
def plB : Value → Option Nat
  | .agg cs => (cs.getD 1 undef).ownBlock
  | _ => none
theorem Pl.keep {w w' : World} {v : Value} {p : Nat → Bool} (h : Pl w v p) (hs : w.heap.size ≤ w'.heap.size) (hk : ∀ b, plB v = some b → w'.heap[b]? = w.heap[b]?) : Pl w' v p := by
  obtain ⟨h1, h2⟩ := h
  refine ⟨h1, ?_⟩
  rcases h2 with h2 | ⟨b, c, i, rfl, hc, hb, hcell, hi⟩
  · exact .inl h2
  · refine .inr ⟨b, c, i, rfl, hc, Nat.lt_of_lt_of_le hb hs, ?_, hi⟩
    rw [← hcell]
    have := hk b rfl
    simp [World.cell?, this]
theorem Pl.below {w w' : World} {v : Value} {p : Nat → Bool} (h : Pl w v p) (hb : Below w.heap.size w w') : Pl w' v p := by
  refine h.keep hb.size fun b hv => ?_
  rcases h.2 with ⟨rfl, _⟩ | ⟨b', c, i, rfl, _, hl, _⟩
  · have hv : (none : Option Nat) = some b := hv
    cases hv
  · have hv : some b' = some b := hv
    cases hv
    exact hb.block _ hl
theorem Pl.lt {w : World} {v : Value} {p : Nat → Bool} (h : Pl w v p) {b : Nat} (hv : plB v = some b) : b < w.heap.size := by
  rcases h.2 with ⟨rfl, _⟩ | ⟨b', c, i, rfl, _, hl, _⟩
  · have hv : (none : Option Nat) = some b := hv
    cases hv
  · have hv : some b' = some b := hv
    cases hv
    exact hl
def noneB (p : Nat → Bool) : Prop := ∀ i, p i = false
set_option maxHeartbeats 1000000 in
theorem none_any (v : Value) (p : Nat → Bool) (w : World) (h : Pl w v p) : Calls Tryd.prog 46 #[v] w fun e w' => ∃ z, e = .returned (.bool z) ∧ (z = true ↔ noneB p) ∧ Below w.heap.size w w' := by
  rcases h.2 with ⟨rfl, hno⟩ | ⟨b, c, i, rfl, hc, hb, hcell, hi⟩
  · have R := RowA.new w 58 #[.int .i64 0, .slice none 0 0]
    have x1 : (w.alloc (.cells #[.int .i64 0, .slice none 0 0] 58)).cell? ⟨w.heap.size, 1, none⟩ = some (.slice none 0 0) := R.at_ rfl
    have HN := hidd hno
    clear R hno h
    go_enter Tryd.func46, Tryd.ntmps46
    go_wp2
    go_ret
    exact ⟨true, rfl, ⟨fun _ => HN.out, fun _ => rfl⟩, (Below.refl _ _).alloc (Nat.le_refl _) _⟩
  · have R := RowA.new w 58 #[.int .i64 0, .slice (some ⟨b, 0, none⟩) 1 c]
    have x1 : (w.alloc (.cells #[.int .i64 0, .slice (some ⟨b, 0, none⟩) 1 c] 58)).cell? ⟨w.heap.size, 1, none⟩ = some (.slice (some ⟨b, 0, none⟩) 1 c) := R.at_ rfl
    have HN := hidd hi
    clear R h hcell hi
    go_enter Tryd.func46, Tryd.ntmps46
    go_wp2
    go_ret
    exact ⟨false, rfl, ⟨(fun q => by cases q), fun q => by have := q i; rw [HN.out] at this; cases this⟩, (Below.refl _ _).alloc (Nat.le_refl _) _⟩
end Go.Proofs.YtcgondjekpcpgaaDoor.Sy.Lg

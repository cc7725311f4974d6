/- M1: what were Math Gn Mem Wa Wb Eq Wc Wd Sp Sq Gs We Wf Wg Wh Wi Wj. -/
import Derived.Test.YtahhiajliomcfaaRows
import Derived.Laws.BitsAllLaws
import Derived.Laws.Entries
import Derived.WalkKit
import Derived.WalkSpells
import Derived.WalkLawsBesides
import Derived.Deep.Draws
import Derived.OwnWalk
import Derived.Maps.AppendAt
import Derived.Laws.MakeOwn
import Derived.Deep.QuietTactic
import Derived.BigQuiet
import Derived.Handy
import Derived.StillTailTactics
import Derived.ChangeKeysEq
import Derived.KernelRfl
import Derived.Laws.BytesArg
import Derived.Deep.RegionHeld3
import Derived.Deep.DeepMust
import Derived.Deep.AppendLies

/- The words of a set of 256 bytes, and what Go's operations on them give. Plain numbers, nothing of the program. -/
namespace Go.Proofs.Ytahhiajliomcfaa

/-- The number whose bits below n are those of p. -/
def wd (p : Nat → Bool) : Nat → Nat
  | 0 => 0
  | n + 1 => wd p n ||| (if p n = true then 2 ^ n else 0)

theorem wd_bit (p : Nat → Bool) (n i : Nat) : (wd p n).testBit i = (decide (i < n) && p i) := by
  induction n with
  | zero => simp [wd]
  | succ n ih =>
    simp only [wd, Nat.testBit_or, ih]
    by_cases hp : p n = true
    · simp only [hp, if_true, Nat.testBit_two_pow]
      by_cases h : n = i
      · subst h; simp [hp]
      · have : decide (i < n + 1) = decide (i < n) := by simp; omega
        simp [h, this]
    · simp only [hp]
      by_cases h : n = i
      · subst h; simp [hp]
      · have : decide (i < n + 1) = decide (i < n) := by simp; omega
        simp [this]

theorem wd_lt (p : Nat → Bool) (n : Nat) : wd p n < 2 ^ n := by
  apply Nat.lt_pow_two_of_testBit
  intro i hi
  rw [wd_bit]
  simp; omega

/-- Word i of the set of the bytes with p. -/
def W (p : Nat → Bool) (i : Nat) : Int := (wd (fun j => p (64 * i + j)) 64 : Nat)

def wN (p : Nat → Bool) (i : Nat) : Nat := wd (fun j => p (64 * i + j)) 64
theorem W_eq (p : Nat → Bool) (i : Nat) : W p i = (wN p i : Nat) := rfl
theorem wN_lt (p : Nat → Bool) (i : Nat) : wN p i < 18446744073709551616 := wd_lt _ 64
theorem wN_bit (p : Nat → Bool) (i j : Nat) : (wN p i).testBit j = (decide (j < 64) && p (64 * i + j)) := wd_bit _ _ _
theorem W_nonneg (p : Nat → Bool) (i : Nat) : 0 ≤ W p i := Int.natCast_nonneg _
theorem wN_ext {p : Nat → Bool} {i n : Nat} (hn : n < 18446744073709551616) (h : ∀ j, j < 64 → n.testBit j = p (64 * i + j)) : n = wN p i := by
  apply Nat.eq_of_testBit_eq
  intro j
  rw [wN_bit]
  by_cases hj : j < 64
  · simp [hj, h j hj]
  · simp only [hj, decide_false, Bool.false_and]
    apply Nat.testBit_lt_two_pow
    have : (18446744073709551616 : Nat) = 2 ^ 64 := by decide
    have h2 : 2 ^ 64 ≤ 2 ^ j := Nat.pow_le_pow_right (by decide) (by omega)
    omega

theorem W_congr {p q : Nat → Bool} {i : Nat} (h : ∀ j, j < 64 → p (64 * i + j) = q (64 * i + j)) : W p i = W q i := by
  rw [W_eq, W_eq]
  congr 1
  exact wN_ext (wN_lt p i) (fun j hj => by rw [wN_bit]; simp [hj, h j hj])

theorem W_inj {p q : Nat → Bool} {i : Nat} (h : W p i = W q i) : ∀ j, j < 64 → p (64 * i + j) = q (64 * i + j) := by
  intro j hj
  rw [W_eq, W_eq] at h
  have h' : wN p i = wN q i := by omega
  have := congrArg (fun n => n.testBit j) h'
  simpa [wN_bit, hj] using this

/-- Every number of 64 bits is a word. -/
theorem W_of (a : Int) (i : Nat) (h0 : 0 ≤ a) (h1 : a < 18446744073709551616) : a = W (fun b => a.toNat.testBit (b - 64 * i)) i := by
  rw [W_eq, ← wN_ext (p := fun b => a.toNat.testBit (b - 64 * i)) (n := a.toNat) (by omega)]
  · omega
  · intro j _
    simp

/-- Sets out of sets, and of bytes: names that a walk does not look behind. -/
def orB (p q : Nat → Bool) (x : Nat) : Bool := p x || q x
def noB (_ : Nat) : Bool := false
def oneB (b : Nat) (x : Nat) : Bool := x == b
def addB (p : Nat → Bool) (b : Nat) (x : Nat) : Bool := p x || x == b
def rngB (lo k : Int) (x : Nat) : Bool := decide (lo ≤ (x : Int) ∧ (x : Int) < k)
def inB (l : List Int) (x : Nat) : Bool := l.any fun b => x == b.toNat

theorem addB_eq (p : Nat → Bool) (b : Nat) : addB p b = orB p (oneB b) := rfl

theorem W_or (p q : Nat → Bool) (i : Nat) : bits .or .u64 (W p i) (W q i) = W (orB p q) i := by
  rw [W_eq, W_eq, W_eq, u64_or_nat _ _ (wN_lt _ _) (wN_lt _ _)]
  congr 1
  apply wN_ext
  · exact Nat.or_lt_two_pow (n := 64) (wN_lt p i) (wN_lt q i)
  · intro j hj; simp [Nat.testBit_or, wN_bit, hj, orB]

theorem W_zero (i : Nat) : W noB i = 0 := by
  rw [W_eq, ← wN_ext (p := noB) (n := 0) (by decide)]
  · rfl
  · intro j _; simp [noB]

/-- The bit of a byte, in its word. -/
theorem pow_W (b : Nat) : IntKind.u64.wrap (2 ^ (b % 64)) = W (oneB b) (b / 64) := by
  have hlt : 2 ^ (b % 64) < 2 ^ 64 := Nat.pow_lt_pow_right (by decide) (Nat.mod_lt _ (by decide))
  have h1 : (2 : Int) ^ (b % 64) = ((2 ^ (b % 64) : Nat) : Int) := by norm_cast
  rw [h1, IntKind.wrap_u64, W_eq, ← wN_ext (p := oneB b) (n := 2 ^ (b % 64)) hlt]
  · have h64 : (2 ^ 64 : Nat) = 18446744073709551616 := by decide
    rw [h64] at hlt
    generalize 2 ^ (b % 64) = m at hlt
    omega
  · intro j hj
    rw [Nat.testBit_two_pow]
    by_cases h : b % 64 = j
    · have : 64 * (b / 64) + j = b := by omega
      simp [h, this, oneB]
    · have : 64 * (b / 64) + j ≠ b := by omega
      simp [h, this, oneB]

/-- A byte's bit in other words is none. -/
theorem one_W (b i : Nat) (h : i ≠ b / 64) : W (oneB b) i = 0 := by
  rw [← W_zero i]
  apply W_congr
  intro j hj
  have : 64 * i + j ≠ b := by omega
  simp [this, oneB, noB]

/-- The reference's way to ask for a bit. -/
theorem rhas_W (p : Nat → Bool) (b : Nat) : (W p (b / 64) / 2 ^ (b % 64) % 2 == 1) = p b := by
  have hb : (wN p (b / 64)).testBit (b % 64) = p b := by
    rw [wN_bit, Nat.div_add_mod]; simp [Nat.mod_lt]
  rw [W_eq]
  have h1 : (2 : Int) ^ (b % 64) = ((2 ^ (b % 64) : Nat) : Int) := by norm_cast
  rw [h1, ← Int.natCast_ediv, ← hb, Nat.testBit_eq_decide_div_mod_eq]
  rw [Bool.eq_iff_iff]
  simp only [beq_iff_eq, decide_eq_true_eq]
  omega

theorem add_eq_or (x y : Nat) (hx : x < 18446744073709551616) (hy : y < 18446744073709551616) (h : x &&& y = 0) : x + y = x ||| y := by
  have hz : BitVec.ofNat 65 x &&& BitVec.ofNat 65 y = 0#65 := by
    apply BitVec.eq_of_toNat_eq
    rw [BitVec.toNat_and, BitVec.toNat_ofNat, BitVec.toNat_ofNat, Nat.mod_eq_of_lt (by omega), Nat.mod_eq_of_lt (by omega), h]; rfl
  have := congrArg BitVec.toNat (BitVec.add_eq_or_of_and_eq_zero _ _ hz)
  have ho : x ||| y < 2 ^ 64 := Nat.or_lt_two_pow (n := 64) hx hy
  rw [BitVec.toNat_add, BitVec.toNat_or, BitVec.toNat_ofNat, BitVec.toNat_ofNat, Nat.mod_eq_of_lt (a := x) (by omega), Nat.mod_eq_of_lt (a := y) (by omega)] at this
  omega

/-- The reference's way to add a bit that is not there. -/
theorem with_W (p : Nat → Bool) (b : Nat) (h : p b = false) : IntKind.u64.wrap (W p (b / 64) + IntKind.u64.wrap (2 ^ (b % 64))) = W (addB p b) (b / 64) := by
  rw [pow_W, addB_eq, ← W_or, W_eq, W_eq, u64_or_nat _ _ (wN_lt _ _) (wN_lt _ _), IntKind.wrap_u64]
  have hd : wN p (b / 64) &&& wN (oneB b) (b / 64) = 0 := by
    apply Nat.eq_of_testBit_eq
    intro j
    rw [Nat.testBit_and, wN_bit, wN_bit, Nat.zero_testBit]
    by_cases hj : 64 * (b / 64) + j = b
    · simp [hj, h]
    · simp [hj, oneB]
  have hs : wN p (b / 64) + wN (oneB b) (b / 64) = wN p (b / 64) ||| wN (oneB b) (b / 64) := by
    exact add_eq_or _ _ (wN_lt _ _) (wN_lt _ _) hd
  have hl : wN p (b / 64) ||| wN (oneB b) (b / 64) < 2 ^ 64 := Nat.or_lt_two_pow (wN_lt p _) (wN_lt _ _)
  have h64 : (2 ^ 64 : Nat) = 18446744073709551616 := by decide
  omega

/-- What is added to one word changes no other. -/
theorem oth_W (p : Nat → Bool) (b i : Nat) (h : i ≠ b / 64) : W (addB p b) i = W p i := by
  apply W_congr
  intro j hj
  have : 64 * i + j ≠ b := by omega
  simp [this, addB]

end Go.Proofs.Ytahhiajliomcfaa

/- Words for memory that speak of no type of the program's own: blocks that a call made, rows told by a function of their place, slices that read as bytes. -/
namespace Go.Proofs.Ytahhiajliomcfaa
open Go.RowKit

theorem hidd {p : Prop} (h : p) : Hid p := h
theorem bel_drewN {B : Nat} {a w : World} (h : Below B a w) (n : Nat) : Below B a (w.drewN n) := ⟨h.os, h.tape, h.output, h.size, h.block⟩
theorem bel_drew {B : Nat} {a w : World} (h : Below B a w) : Below B a w.drew := ⟨h.os, h.tape, h.output, h.size, h.block⟩
theorem bel1 {w w1 : World} {o : Obj} (hb : Below (w.alloc o).heap.size (w.alloc o) w1) : Below w.heap.size w w1 := ((Below.refl _ _).alloc (Nat.le_refl _) o).trans (hb.mono (by simp))

theorem heap_new (w : World) (o : Obj) : (w.alloc o).heap[w.heap.size]? = some o := by
  show (w.heap.push o)[w.heap.size]? = _
  rw [Array.getElem?_push, if_pos rfl]

theorem ret_bool {a b : Bool} (h : a = b) : Ending.returned (.bool a) = .returned (.bool b) := by rw [h]

theorem own_base {w : World} {b b' : Nat} {e : TypeId} {size : Nat} {v : Value} {n : Nat} {xs : List Value} (h : w.ownsRow b e size v n xs) (hb : b' ≤ b) : w.ownsRow b' e size v n xs := by
  obtain ⟨h1, h2⟩ := h
  refine ⟨h1, ?_⟩
  rcases h2 with h2 | ⟨g, cap, cur, hv, hg, r⟩
  · exact .inl h2
  · exact .inr ⟨g, cap, cur, hv, Nat.le_trans hb hg, r⟩
theorem own_below {w w' : World} {b B : Nat} {e : TypeId} {size : Nat} {v : Value} {n : Nat} {xs : List Value} (h : w.ownsRow b e size v n xs) (hb : Below B w w') (hB : w.heap.size ≤ B) : w'.ownsRow b e size v n xs := by
  obtain ⟨h1, h2⟩ := h
  refine ⟨h1, ?_⟩
  rcases h2 with h2 | ⟨g, cap, cur, hv, hg, hh, r⟩
  · exact .inl h2
  · have hl : g < w.heap.size := by
      rcases Nat.lt_or_ge g w.heap.size with hl | hl
      · exact hl
      · rw [Array.getElem?_eq_none hl] at hh; cases hh
    exact .inr ⟨g, cap, cur, hv, hg, (hb.block g (by omega)).trans hh, r⟩

theorem own_form {w : World} {b : Nat} {e : TypeId} {size : Nat} {v : Value} {n : Nat} {xs : List Value} (h : w.ownsRow b e size v n xs) : ∃ A c, v = .slice A n c := by
  rcases h.2 with ⟨hv, hn⟩ | ⟨g, cap, cur, hv, _⟩
  · exact ⟨none, 0, by rw [hv, hn]⟩
  · exact ⟨_, _, hv⟩
theorem own_pos {w : World} {b : Nat} {e : TypeId} {size : Nat} {v : Value} {n : Nat} {xs : List Value} (h : w.ownsRow b e size v n xs) (hn : 0 < n) : ∃ g c, v = .slice (some ⟨g, 0, none⟩) n c ∧ b ≤ g ∧ g < w.heap.size := by
  rcases h.2 with ⟨hv, h0⟩ | ⟨g, cap, cur, hv, hg, hh, _⟩
  · omega
  · refine ⟨g, cap, hv, hg, ?_⟩
    rcases Nat.lt_or_ge g w.heap.size with hl | hl
    · exact hl
    · rw [Array.getElem?_eq_none hl] at hh; cases hh

/-- The slice at A reads as the bytes xs, and lies in blocks below B. -/
def Bts (w : World) (B : Nat) (A : Option Addr) (xs : List Int) : Prop :=
  (∀ x ∈ xs, 0 ≤ x ∧ x ≤ 255) ∧ (xs ≠ [] → ∃ g off, A = some ⟨g, off, none⟩ ∧ g < B ∧ ∀ i, i < xs.length → w.cell? ⟨g, off + i, none⟩ = some (.int .u8 (xs.getD i 0)))

theorem Bts.keep {w w' : World} {B : Nat} {A : Option Addr} {xs : List Int} (h : Bts w B A xs) (hc : ∀ p : Addr, p.block < B → w'.cell? p = w.cell? p) : Bts w' B A xs :=
  ⟨h.1, fun hx => by
    obtain ⟨g, off, e, hg, ha⟩ := h.2 hx
    exact ⟨g, off, e, hg, fun i hi => (hc _ hg).trans (ha i hi)⟩⟩
theorem Bts.below {w w' : World} {B : Nat} {A : Option Addr} {xs : List Int} (h : Bts w B A xs) (hb : Below B w w') : Bts w' B A xs := h.keep fun _ hp => hb.cell hp
theorem Bts.more {w : World} {B B' : Nat} {A : Option Addr} {xs : List Int} (h : Bts w B A xs) (hB : B ≤ B') : Bts w B' A xs :=
  ⟨h.1, fun hx => by
    obtain ⟨g, off, e, hg, ha⟩ := h.2 hx
    exact ⟨g, off, e, by omega, ha⟩⟩
theorem Bts.at_ {w : World} {B : Nat} {A : Option Addr} {xs : List Int} (h : Bts w B A xs) {k : Nat} (hk : k < xs.length) :
    ∃ g off, A = some ⟨g, off, none⟩ ∧ g < B ∧ w.cell? ⟨g, off + k, none⟩ = some (.int .u8 (xs.getD k 0)) ∧ 0 ≤ xs.getD k 0 ∧ xs.getD k 0 ≤ 255 := by
  obtain ⟨g, off, e, hg, ha⟩ := h.2 (fun e => by subst e; simp at hk)
  have hm : xs.getD k 0 ∈ xs := by rw [List.getD_eq_getElem?_getD, List.getElem?_eq_getElem hk]; exact List.getElem_mem hk
  exact ⟨g, off, e, hg, ha k hk, (h.1 _ hm).1, (h.1 _ hm).2⟩
theorem Bts.cut {w : World} {B : Nat} {A : Option Addr} {xs : List Int} (h : Bts w B A xs) (n : Nat) : Bts w B A (xs.take n) := by
  refine ⟨fun x hx => h.1 x (List.mem_of_mem_take hx), fun hne => ?_⟩
  obtain ⟨g, off, e, hg, hc⟩ := h.2 (fun e => hne (by subst e; simp))
  refine ⟨g, off, e, hg, fun i hi => ?_⟩
  rw [List.length_take] at hi
  rw [hc i (by omega), List.getD_eq_getElem?_getD, List.getD_eq_getElem?_getD, List.getElem?_take, if_pos (by omega)]
/-- n cells, told by a function of their place. -/
def fnC (n : Nat) (h : Nat → Value) : Array Value := ((List.range n).map h).toArray
theorem fnC_size (n : Nat) (h : Nat → Value) : (fnC n h).size = n := by simp [fnC]
theorem fnC_at (n : Nat) (h : Nat → Value) (k : Nat) (hk : k < n) : (fnC n h)[k]? = some (h k) := by
  unfold fnC
  rw [List.getElem?_toArray]
  simp [hk]
theorem fnC_congr {n : Nat} {h h' : Nat → Value} (e : ∀ i, i < n → h i = h' i) : fnC n h = fnC n h' := by
  unfold fnC
  congr 1
  apply List.map_congr_left
  intro i hi
  exact e i (by simpa using hi)
theorem fnC_set (n : Nat) (h : Nat → Value) (k : Nat) (v : Value) : (fnC n h).setIfInBounds k v = fnC n (fun i => if i = k then v else h i) := by
  apply Array.ext_getElem?
  intro i
  by_cases hi : i < n
  · rw [fnC_at _ _ _ hi]
    by_cases e : i = k
    · subst e
      rw [Array.getElem?_setIfInBounds_self_of_lt (by rw [fnC_size]; exact hi)]
      simp
    · rw [Array.getElem?_setIfInBounds_ne (fun x => e x.symm), fnC_at _ _ _ hi]
      simp [e]
  · rw [Array.getElem?_eq_none (by simp [fnC_size]; omega), Array.getElem?_eq_none (by simp [fnC_size]; omega)]

/-- Block g holds just these cells. -/
def RowF (w : World) (g : Nat) (t : TypeId) (n : Nat) (h : Nat → Value) : Prop := w.heap[g]? = some (.cells (fnC n h) t (0, 0))
section
variable {w w' : World} {g : Nat} {t : TypeId} {n : Nat} {h h' : Nat → Value}
theorem RowF.lt (r : RowF w g t n h) : g < w.heap.size := by
  unfold RowF at r
  rcases Nat.lt_or_ge g w.heap.size with hl | hg
  · exact hl
  · rw [Array.getElem?_eq_none hg] at r; cases r
theorem RowF.at_ (r : RowF w g t n h) (k : Nat) (hk : k < n) : w.cell? ⟨g, k, none⟩ = some (h k) := by
  unfold RowF at r
  simp [World.cell?, r, fnC_at n h k hk]
theorem RowF.thawed (r : RowF w g t n h) (o : Nat) : w.frozen? ⟨g, o, none⟩ = false := by
  unfold RowF at r
  simp [World.frozen?, r]
theorem RowF.below {B : Nat} (r : RowF w g t n h) (hb : Below B w w') (hg : g < B) : RowF w' g t n h := (hb.block g hg).trans r
theorem RowF.new (w : World) (t : TypeId) (n : Nat) (h : Nat → Value) : RowF (w.alloc (.cells (fnC n h) t)) w.heap.size t n h := heap_new w _
theorem RowF.alloc (r : RowF w g t n h) (o : Obj) : RowF (w.alloc o) g t n h := (Below.heap_alloc w o g r.lt).trans r
theorem RowF.far (r : RowF w g t n h) {a : Addr} (ha : g ≠ a.block) (u : Value) : RowF (w.setCell a u) g t n h := (Below.heap_setCell w a u g ha).trans r
theorem RowF.grown {row : Option Nat} (r : RowF w g t n h) (hg : w.grownBy w' row) (hr : some g ≠ row) : RowF w' g t n h := (hg.block g r.lt hr).trans r
theorem RowF.put (r : RowF w g t n h) (k : Nat) (v : Value) : RowF (w.setCell ⟨g, k, none⟩ v) g t n (fun i => if i = k then v else h i) := by
  unfold RowF at r ⊢
  rw [← fnC_set]
  simp [World.setCell, Array.getElem?_modify, r]
theorem RowF.congr (r : RowF w g t n h) (e : ∀ i, i < n → h i = h' i) : RowF w g t n h' := by
  unfold RowF at r ⊢
  rw [← fnC_congr e]; exact r
end

/-- All blocks but g and h are as they were. -/
structure Touch (g h : Nat) (w w' : World) : Prop where
  os : w'.os = w.os
  tape : w'.tape = w.tape
  output : w'.output = w.output
  size : w.heap.size ≤ w'.heap.size
  block : ∀ k, k < w.heap.size → k ≠ g → k ≠ h → w'.heap[k]? = w.heap[k]?
section
variable {g h : Nat} {w w' w2 : World}
theorem Touch.refl (g h : Nat) (w : World) : Touch g h w w := ⟨rfl, rfl, rfl, Nat.le_refl _, fun _ _ _ _ => rfl⟩
theorem Touch.trans (a : Touch g h w w') (b : Touch g h w' w2) : Touch g h w w2 :=
  ⟨b.os.trans a.os, b.tape.trans a.tape, b.output.trans a.output, Nat.le_trans a.size b.size, fun k hk h1 h2 => (b.block k (Nat.lt_of_lt_of_le hk a.size) h1 h2).trans (a.block k hk h1 h2)⟩
theorem Touch.drewN (a : Touch g h w w') (n : Nat) : Touch g h w (w'.drewN n) := ⟨a.os, a.tape, a.output, a.size, a.block⟩
theorem Touch.below (a : Touch g h w w') (b : Below w'.heap.size w' w2) : Touch g h w w2 :=
  a.trans ⟨b.os, b.tape, b.output, b.size, fun k hk _ _ => b.block k hk⟩
theorem Touch.set1 (a : Touch g h w w') (k : Nat) (v : Value) : Touch g h w (w'.setCell ⟨g, k, none⟩ v) :=
  a.trans ⟨rfl, rfl, rfl, by simp [World.setCell], fun i _ h1 _ => Below.heap_setCell _ _ _ _ h1⟩
theorem Touch.bel {B : Nat} {w0 : World} (a : Touch g h w w') (b : Below B w0 w) (hs : B ≤ w.heap.size) (hg : B ≤ g) (hh : B ≤ h) : Below B w0 w' :=
  b.trans ⟨a.os, a.tape, a.output, a.size, fun k hk => a.block k (by omega) (by omega) (by omega)⟩
end

/-- The slice at A reads as the numbers xs, and lies in blocks below B. -/
def Nts (w : World) (B : Nat) (A : Option Addr) (xs : List Nat) : Prop :=
  xs ≠ [] → ∃ g off, A = some ⟨g, off, none⟩ ∧ g < B ∧ ∀ i, i < xs.length → w.cell? ⟨g, off + i, none⟩ = some (.int .i64 ((xs.getD i 0 : Nat) : Int))
section
variable {w w' : World} {B : Nat} {A : Option Addr} {xs : List Nat}
theorem Nts.keep (h : Nts w B A xs) (hc : ∀ p : Addr, p.block < B → w'.cell? p = w.cell? p) : Nts w' B A xs := fun hx => by
  obtain ⟨g, off, e, hg, ha⟩ := h hx
  exact ⟨g, off, e, hg, fun i hi => (hc _ hg).trans (ha i hi)⟩
theorem Nts.below (h : Nts w B A xs) (hb : Below B w w') : Nts w' B A xs := h.keep fun _ hp => hb.cell hp
theorem Nts.more {B' : Nat} (h : Nts w B A xs) (hB : B ≤ B') : Nts w B' A xs := fun hx => by
  obtain ⟨g, off, e, hg, ha⟩ := h hx
  exact ⟨g, off, e, by omega, ha⟩
theorem Nts.at_ (h : Nts w B A xs) {k : Nat} (hk : k < xs.length) : ∃ g off, A = some ⟨g, off, none⟩ ∧ g < B ∧ w.cell? ⟨g, off + k, none⟩ = some (.int .i64 ((xs.getD k 0 : Nat) : Int)) := by
  obtain ⟨g, off, e, hg, ha⟩ := h (fun e => by subst e; simp at hk)
  exact ⟨g, off, e, hg, ha k hk⟩
end
def i64s (l : List Nat) : List Value := l.map fun x : Nat => Value.int .i64 (x : Int)
theorem i64s_snoc (l : List Nat) (x : Nat) : i64s l ++ [.int .i64 (x : Int)] = i64s (l ++ [x]) := by simp [i64s]
theorem i64s_len (l : List Nat) : (i64s l).length = l.length := by simp [i64s]
theorem i64s_at (l : List Nat) (i : Nat) (h : i < l.length) : (i64s l)[i]? = some (.int .i64 ((l.getD i 0 : Nat) : Int)) := by
  unfold i64s
  rw [List.getElem?_map, List.getElem?_eq_getElem h, List.getD_eq_getElem?_getD, List.getElem?_eq_getElem h]
  rfl
theorem int_info : (Try.prog.info? 3).map (fun i => (i.zero, i.size, i.bytes)) = some (some (.int .i64 0), 1, 8) := by kernel_rfl
theorem made_one (z : Value) (h : z.cells = #[z]) (n : Nat) : madeCells z.cells (n * 1) = fnC n (fun _ => z) := by
  apply Array.ext_getElem?
  intro i
  by_cases hi : i < n
  · rw [fnC_at _ _ _ hi, h]
    simp [madeCells, hi, Nat.mod_one]
  · rw [Array.getElem?_eq_none (by rw [size_madeCells]; omega), Array.getElem?_eq_none (by rw [fnC_size]; omega)]

theorem bel_setRow {B : Nat} {a w : World} (h : Below B a w) (g : Nat) (cs : Array Value) (hg : B ≤ g) : Below B a (w.setRow g cs) :=
  ⟨h.os, h.tape, h.output, by simpa using h.size, fun k hk => (setRow_other w g k cs (by omega)).trans (h.block k hk)⟩
/-- Block g holds just these cells. -/
def RowA (w : World) (g : Nat) (t : TypeId) (cs : Array Value) : Prop := w.heap[g]? = some (.cells cs t (0, 0))
section
variable {w w' : World} {g : Nat} {t : TypeId} {cs : Array Value}
theorem RowA.lt (r : RowA w g t cs) : g < w.heap.size := by
  unfold RowA at r
  rcases Nat.lt_or_ge g w.heap.size with hl | hg
  · exact hl
  · rw [Array.getElem?_eq_none hg] at r; cases r
theorem RowA.new (w : World) (t : TypeId) (cs : Array Value) : RowA (w.alloc (.cells cs t)) w.heap.size t cs := heap_new w _
theorem RowA.row (r : RowA w g t cs) (cs' : Array Value) : RowA (w.setRow g cs') g t cs' := setRow_heap w g _ _ _ _ r
theorem RowA.apart {j : Nat} (r : RowA w g t cs) (cs' : Array Value) (hj : g ≠ j) : RowA (w.setRow j cs') g t cs := (setRow_other w j g cs' hj).trans r
theorem RowA.alloc (r : RowA w g t cs) (o : Obj) : RowA (w.alloc o) g t cs := (Below.heap_alloc w o g r.lt).trans r
theorem RowA.below {B : Nat} (r : RowA w g t cs) (hb : Below B w w') (hg : g < B) : RowA w' g t cs := (hb.block g hg).trans r
theorem RowA.drewN (r : RowA w g t cs) (n : Nat) : RowA (w.drewN n) g t cs := r
theorem RowA.at_ (r : RowA w g t cs) {k : Nat} {v : Value} (hk : cs[k]? = some v) : w.cell? ⟨g, k, none⟩ = some v := by
  unfold RowA at r
  simp [World.cell?, r, hk]
theorem RowA.thawed (r : RowA w g t cs) (o : Nat) : w.frozen? ⟨g, o, none⟩ = false := by
  unfold RowA at r
  simp [World.frozen?, r]
end

end Go.Proofs.Ytahhiajliomcfaa

/- Words for memory: a block that holds one set; slices that read as bytes, and as sets. Nothing of the program but the number of the type Set. -/
namespace Go.Proofs.Ytahhiajliomcfaa
open Go.RowKit

/-- Block g holds just the set p. -/
def Row4 (w : World) (g : Nat) (p : Nat → Bool) : Prop := w.heap[g]? = some (.cells (#[.int .u64 (W (p) 0), .int .u64 (W (p) 1), .int .u64 (W (p) 2), .int .u64 (W (p) 3)]) 40 (0, 0))

section
variable {w w' : World} {g : Nat} {p q : Nat → Bool}
theorem Row4.lt (h : Row4 w g p) : g < w.heap.size := by
  unfold Row4 at h
  rcases Nat.lt_or_ge g w.heap.size with hl | hg
  · exact hl
  · rw [Array.getElem?_eq_none hg] at h; cases h
theorem Row4.cells (h : Row4 w g p) : w.cell? ⟨g, 0, none⟩ = some (.int .u64 (W p 0)) ∧ w.cell? ⟨g, 1, none⟩ = some (.int .u64 (W p 1)) ∧ w.cell? ⟨g, 2, none⟩ = some (.int .u64 (W p 2)) ∧ w.cell? ⟨g, 3, none⟩ = some (.int .u64 (W p 3)) := by
  unfold Row4 at h
  simp [World.cell?, h]
theorem Row4.at_ (h : Row4 w g p) {k : Nat} (hk : k < 4) : w.cell? ⟨g, k, none⟩ = some (.int .u64 (W p k)) := by
  obtain ⟨h0, h1, h2, h3⟩ := h.cells
  have : k = 0 ∨ k = 1 ∨ k = 2 ∨ k = 3 := by omega
  rcases this with rfl | rfl | rfl | rfl <;> assumption
theorem Row4.thawed (h : Row4 w g p) (o : Nat) : w.frozen? ⟨g, o, none⟩ = false := by
  unfold Row4 at h
  simp [World.frozen?, h]
theorem Row4.drew (h : Row4 w g p) : Row4 w.drew g p := h
theorem Row4.alloc (h : Row4 w g p) (o : Obj) : Row4 (w.alloc o) g p := (Below.heap_alloc w o g h.lt).trans h
theorem Row4.far (h : Row4 w g p) {a : Addr} (ha : g ≠ a.block) (u : Value) : Row4 (w.setCell a u) g p := (Below.heap_setCell w a u g ha).trans h
theorem Row4.below {B : Nat} (h : Row4 w g p) (hb : Below B w w') (hg : g < B) : Row4 w' g p := (hb.block g hg).trans h
theorem Row4.new (w : World) (p : Nat → Bool) : Row4 (w.alloc (.cells (#[.int .u64 (W (p) 0), .int .u64 (W (p) 1), .int .u64 (W (p) 2), .int .u64 (W (p) 3)]) 40)) w.heap.size p := by
  exact heap_new w _
theorem Row4.zero (w : World) : Row4 (w.alloc (.cells #[.int .u64 0, .int .u64 0, .int .u64 0, .int .u64 0] 40)) w.heap.size noB := by
  unfold Row4; rw [W_zero, W_zero, W_zero, W_zero]; exact heap_new w _
theorem Row4.congr (h : Row4 w g p) (e : p = q) : Row4 w g q := e ▸ h

/-- A store of the whole set, cell by cell. -/
theorem Row4.fill (h : Row4 w g p) (q : Nat → Bool) : Row4 ((((w.setCell ⟨g, 0, none⟩ (.int .u64 (W q 0))).setCell ⟨g, 1, none⟩ (.int .u64 (W q 1))).setCell ⟨g, 2, none⟩ (.int .u64 (W q 2))).setCell ⟨g, 3, none⟩ (.int .u64 (W q 3))) g q := by
  unfold Row4 at h ⊢
  simp [World.setCell, Array.getElem?_modify, h]

/-- A store into one word. -/
theorem Row4.put (h : Row4 w g p) {k : Nat} (hk : k < 4) (hq : ∀ i, i < 4 → i ≠ k → W q i = W p i) : Row4 (w.setCell ⟨g, k, none⟩ (.int .u64 (W q k))) g q := by
  have q0 := hq 0 (by omega)
  have q1 := hq 1 (by omega)
  have q2 := hq 2 (by omega)
  have q3 := hq 3 (by omega)
  unfold Row4 at h ⊢
  have : k = 0 ∨ k = 1 ∨ k = 2 ∨ k = 3 := by omega
  rcases this with rfl | rfl | rfl | rfl
  · rw [q1 (by omega), q2 (by omega), q3 (by omega)]; simp [World.setCell, Array.getElem?_modify, h]
  · rw [q0 (by omega), q2 (by omega), q3 (by omega)]; simp [World.setCell, Array.getElem?_modify, h]
  · rw [q0 (by omega), q1 (by omega), q3 (by omega)]; simp [World.setCell, Array.getElem?_modify, h]
  · rw [q0 (by omega), q1 (by omega), q2 (by omega)]; simp [World.setCell, Array.getElem?_modify, h]

/-- One byte put into a set. -/
theorem Row4.add (h : Row4 w g p) (b : Nat) (hb : b < 256) : Row4 (w.setCell ⟨g, b / 64, none⟩ (.int .u64 (W (addB p b) (b / 64)))) g (addB p b) :=
  h.put (by omega) fun i _ hi => oth_W p b i hi
end

/-- The slice at A reads as the sets ps, and lies in blocks below B. -/
def Sts (w : World) (B : Nat) (A : Option Addr) (ps : List (Nat → Bool)) : Prop :=
  ps ≠ [] → ∃ g off, A = some ⟨g, off, none⟩ ∧ g < B ∧ ∀ i, i < ps.length → ∀ k, k < 4 → w.cell? ⟨g, off + i * 4 + k, none⟩ = some (.int .u64 (W (ps.getD i noB) k))

theorem Sts.keep {w w' : World} {B : Nat} {A : Option Addr} {ps : List (Nat → Bool)} (h : Sts w B A ps) (hc : ∀ p : Addr, p.block < B → w'.cell? p = w.cell? p) : Sts w' B A ps :=
  fun hx => by
    obtain ⟨g, off, e, hg, ha⟩ := h hx
    exact ⟨g, off, e, hg, fun i hi k hk => (hc _ hg).trans (ha i hi k hk)⟩
theorem Sts.below {w w' : World} {B : Nat} {A : Option Addr} {ps : List (Nat → Bool)} (h : Sts w B A ps) (hb : Below B w w') : Sts w' B A ps := h.keep fun _ hp => hb.cell hp
theorem Sts.more {w : World} {B B' : Nat} {A : Option Addr} {ps : List (Nat → Bool)} (h : Sts w B A ps) (hB : B ≤ B') : Sts w B' A ps :=
  fun hx => by
    obtain ⟨g, off, e, hg, ha⟩ := h hx
    exact ⟨g, off, e, by omega, ha⟩
theorem Sts.at_ {w : World} {B : Nat} {A : Option Addr} {ps : List (Nat → Bool)} (h : Sts w B A ps) {k : Nat} (hk : k < ps.length) :
    ∃ g off, A = some ⟨g, off, none⟩ ∧ g < B ∧ w.cell? ⟨g, off + k * 4, none⟩ = some (.int .u64 (W (ps.getD k noB) 0)) ∧ w.cell? ⟨g, off + k * 4 + 1, none⟩ = some (.int .u64 (W (ps.getD k noB) 1)) ∧
      w.cell? ⟨g, off + k * 4 + 2, none⟩ = some (.int .u64 (W (ps.getD k noB) 2)) ∧ w.cell? ⟨g, off + k * 4 + 3, none⟩ = some (.int .u64 (W (ps.getD k noB) 3)) := by
  obtain ⟨g, off, e, hg, ha⟩ := h (fun e => by subst e; simp at hk)
  exact ⟨g, off, e, hg, ha k hk 0 (by omega), ha k hk 1 (by omega), ha k hk 2 (by omega), ha k hk 3 (by omega)⟩

end Go.Proofs.Ytahhiajliomcfaa

/- What the calls of bset and of its reference on single sets do: the smallest ones. -/

namespace Go.Proofs.Ytahhiajliomcfaa
open Go.RowKit

/-- A set that lies in the result's own block is what is returned. -/
theorem ret_set {fn : Func} {R : Ending → World → Prop} {a : Act} {w : World} {t g : Nat} {q : Nat → Bool} (hr : fn.results = #[.cell t 40]) (ht : a.tmps.getD t undef = .pointer (some ⟨g, 0, none⟩))
    (h : Row4 w g q) (hd : a.defers = []) (hR : R (.returned (.agg #[.int .u64 (W (q) 0), .int .u64 (W (q) 1), .int .u64 (W (q) 2), .int .u64 (W (q) 3)])) w) : bodyPost Try.prog fn R .ret a w := by
  obtain ⟨c0, c1, c2, c3⟩ := h.cells
  refine bodyPost_ret (v := .agg #[.int .u64 (W (q) 0), .int .u64 (W (q) 1), .int .u64 (W (q) 2), .int .u64 (W (q) 3)]) ?_ hd hR
  have ht' : a.tmps[t]?.getD undef = .pointer (some ⟨g, 0, none⟩) := by rw [← ht]; simp
  simp [results, hr, go_sem, ht', c0, c1, c2, c3]

/-- Word k of four. -/
theorem four_at (p : Nat → Bool) (b : Int) (h0 : 0 ≤ b) (h1 : b ≤ 255) :
    [Value.int IntKind.u64 (W p 0), Value.int IntKind.u64 (W p 1), Value.int IntKind.u64 (W p 2), Value.int IntKind.u64 (W p 3)][(b / 64).toNat]? = some (.int .u64 (W p (b.toNat / 64))) := by
  have e : (b / 64).toNat = b.toNat / 64 := by omega
  have h : b.toNat / 64 = 0 ∨ b.toNat / 64 = 1 ∨ b.toNat / 64 = 2 ∨ b.toNat / 64 = 3 := by omega
  rw [e]
  rcases h with h | h | h | h <;> rw [h] <;> rfl

set_option maxHeartbeats 400000 in
theorem rhas_any (p : Nat → Bool) (b : Int) (w : World) (h0 : 0 ≤ b) (h1 : b ≤ 255) :
    Calls Try.prog 55 #[.agg #[.int .u64 (W (p) 0), .int .u64 (W (p) 1), .int .u64 (W (p) 2), .int .u64 (W (p) 3)], .int .u8 b] w fun e w' => e = .returned (.bool (p b.toNat)) ∧ Below w.heap.size w w' := by
  have h4 := four_at p b h0 h1
  have hn := W_nonneg p (b.toNat / 64)
  go_enter Try.func55, Try.ntmps55
  go_wp2
  go_ret
  refine ⟨ret_bool ?_, (Below.refl _ _).alloc (Nat.le_refl _) _⟩
  rw [Int.tmod_eq_emod_of_nonneg (Int.ediv_nonneg hn (by exact Int.le_of_lt (Int.pow_pos (by decide))))]
  have : (b % 64).toNat = b.toNat % 64 := by omega
  rw [this]
  exact rhas_W p _

set_option maxHeartbeats 1000000 in
theorem with_any (p : Nat → Bool) (b : Int) (w : World) (h0 : 0 ≤ b) (h1 : b ≤ 255) :
    Calls Try.prog 38 #[.agg #[.int .u64 (W (p) 0), .int .u64 (W (p) 1), .int .u64 (W (p) 2), .int .u64 (W (p) 3)], .int .u8 b] w fun e w' => e = .returned (.agg #[.int .u64 (W (addB p b.toNat) 0), .int .u64 (W (addB p b.toNat) 1), .int .u64 (W (addB p b.toNat) 2), .int .u64 (W (addB p b.toNat) 3)]) ∧ Below w.heap.size w w' := by
  cases hp : p b.toNat with
  | true =>
    have e : (addB p b.toNat) = p := by
      funext x
      by_cases h : x = b.toNat
      · subst h; simp [hp, addB]
      · simp [h, addB]
    rw [e]
    clear e
    go_enter Try.func38, Try.ntmps38
    go_wp2_with fail
    refine (rhas_any p _ _ h0 h1).mono ?_
    rintro e w1 ⟨rfl, hb⟩
    obtain ⟨c0, c1, c2, c3⟩ := (((Row4.new w p).alloc _).below hb (by simp; omega)).cells
    have R := (Row4.zero (w.alloc (.cells (#[.int .u64 (W (p) 0), .int .u64 (W (p) 1), .int .u64 (W (p) 2), .int .u64 (W (p) 3)]) 40))).below hb (by simp)
    rw [World.size_alloc] at R
    obtain ⟨r0, r1, r2, r3⟩ := R.cells
    have rf := R.thawed
    go_wp2
    exact ret_set Try.results38 rfl (R.fill p) rfl
      ⟨rfl, ((((bel1 (bel1 hb)).setCell (by simp) _).setCell (by simp) _).setCell (by simp) _).setCell (by simp) _⟩
  | false =>
    have hw := with_W p b.toNat hp
    have ho := oth_W p b.toNat
    have em : (b % 64).toNat = b.toNat % 64 := by omega
    rw [← em] at hw
    have hk : b / 64 = 0 ∨ b / 64 = 1 ∨ b / 64 = 2 ∨ b / 64 = 3 := by omega
    rcases hk with hk | hk | hk | hk
    all_goals
      have hk' : b.toNat / 64 = (b / 64).toNat := by omega
      rw [hk] at hk'
      simp only [Int.toNat_zero, Int.toNat_one, Int.reduceToNat] at hk'
      rw [hk'] at hw ho
      have H0 := hidd (ho 0)
      have H1 := hidd (ho 1)
      have H2 := hidd (ho 2)
      have H3 := hidd (ho 3)
      have HW := hidd hw
      clear ho hw em hk'
      go_enter Try.func38, Try.ntmps38
      go_wp2_with fail
      refine (rhas_any p _ _ h0 h1).mono ?_
      rintro e w1 ⟨rfl, hb⟩
      have C := ((Row4.new w p).alloc _).below hb (by simp; omega)
      obtain ⟨c0, c1, c2, c3⟩ := C.cells
      have cf := C.thawed
      have R := (Row4.zero (w.alloc (.cells (#[.int .u64 (W (p) 0), .int .u64 (W (p) 1), .int .u64 (W (p) 2), .int .u64 (W (p) 3)]) 40))).below hb (by simp)
      rw [World.size_alloc] at R
      obtain ⟨r0, r1, r2, r3⟩ := R.cells
      have rf := R.thawed
      go_wp2
      rw [HW.out]
      first | rw [← H0.out (by decide), ← H1.out (by decide), ← H2.out (by decide)] | rw [← H0.out (by decide), ← H1.out (by decide), ← H3.out (by decide)] | rw [← H0.out (by decide), ← H2.out (by decide), ← H3.out (by decide)] | rw [← H1.out (by decide), ← H2.out (by decide), ← H3.out (by decide)]
      exact ret_set Try.results38 rfl ((R.far (by simp) _).fill (addB p b.toNat)) rfl
        ⟨rfl, (((((bel1 (bel1 hb)).setCell (by simp) _).setCell (by simp) _).setCell (by simp) _).setCell (by simp) _).setCell (by simp) _⟩
end Go.Proofs.Ytahhiajliomcfaa

/- Range and Of, of bset and of its reference. -/
namespace Go.Proofs.Ytahhiajliomcfaa
open Go.RowKit
set_option maxRecDepth 100000

theorem any_snoc (l : List Int) (k : Nat) (h : k < l.length) : inB (l.take (k + 1)) = addB (inB (l.take k)) (l.getD k 0).toNat := by
  funext x
  unfold inB addB
  rw [List.take_succ_eq_append_getElem h, List.any_append, List.getD_eq_getElem?_getD, List.getElem?_eq_getElem h]
  simp

set_option maxHeartbeats 1000000 in
theorem rof_any (A : Option Addr) (c : Nat) (xs : List Int) (w : World) (hx : Bts w w.heap.size A xs) (hl : xs.length ≤ 1000000) :
    Calls Try.prog 19 #[.slice A xs.length c] w fun e w' => e = .returned (.agg #[.int .u64 (W (inB xs) 0), .int .u64 (W (inB xs) 1), .int .u64 (W (inB xs) 2), .int .u64 (W (inB xs) 3)]) ∧ Below w.heap.size w w' := by
  go_enter Try.func19, Try.ntmps19
  go_wp2
  go_loopw [4] (fun i wr => ∃ k : Nat, k ≤ xs.length ∧ i = .int .i64 k ∧ Row4 wr w.heap.size noB ∧ Row4 wr (w.heap.size + 1) (inB (xs.take k)) ∧ Below w.heap.size w wr) (fun i _ => xs.length - (intOf i).toNat)
  case atStart =>
    have R := Row4.zero (w.alloc (.cells #[.int .u64 0, .int .u64 0, .int .u64 0, .int .u64 0] 40))
    rw [World.size_alloc] at R
    exact ⟨0, Nat.zero_le _, rfl, (Row4.zero w).alloc _, R.congr (by funext x; simp [noB, inB]), ((Below.refl _ _).alloc (Nat.le_refl _) _).alloc (by simp) _⟩
  case round =>
    obtain ⟨k, hk0, rfl, R0, R1, hb⟩ := hrel
    by_cases hlt : k < xs.length
    · have hs := any_snoc xs k hlt
      have HS := hidd hs
      obtain ⟨g, off, rfl, hg, hcx, hb0, hb1⟩ := (hx.below hb).at_ hlt
      clear hs hx
      generalize xs.getD k 0 = b at *
      obtain ⟨c0, c1, c2, c3⟩ := R1.cells
      go_wp2
      refine wp_region_still_tail 5 (by kernel_rfl) (by kernel_rfl) ?_
      simp only [List.take_succ_cons, List.take_zero, List.drop_succ_cons, List.drop_zero]
      repeat still_step
      refine wpStill_nil ?_
      change wpList _ _ _ _ _ wr.drew
      go_wp2_with fail
      refine (with_any (inB (xs.take k)) b _ hb0 hb1).mono ?_
      rintro e w1 ⟨rfl, hbw⟩
      have Q0 := R0.drew.below hbw R0.lt
      have Q1 := R1.drew.below hbw R1.lt
      obtain ⟨d0, d1, d2, d3⟩ := Q1.cells
      have df := Q1.thawed
      clear c0 c1 c2 c3
      go_wp2
      refine ⟨⟨k + 1, by omega, rfl, (((Q0.far (by simp) _).far (by simp) _).far (by simp) _).far (by simp) _, (Q1.fill _).congr HS.out.symm, ?_⟩, by simp [intOf]; omega⟩
      exact ((((hb.drew.trans (hbw.mono hb.size)).setCell (by simp) _).setCell (by simp) _).setCell (by simp) _).setCell (by simp) _
    · obtain ⟨c0, c1, c2, c3⟩ := R1.cells
      obtain ⟨r0, r1, r2, r3⟩ := R0.cells
      have rf := R0.thawed
      have HT := hidd (List.take_of_length_le (l := xs) (i := k) (by omega))
      go_wp2
      rw [HT.out]
      exact ret_set Try.results19 rfl (R0.fill _) rfl ⟨rfl, (((hb.setCell (by simp) _).setCell (by simp) _).setCell (by simp) _).setCell (by simp) _⟩

set_option maxHeartbeats 1000000 in
theorem rrange_any (lo hi : Int) (w : World) (l0 : 0 ≤ lo) (l1 : lo ≤ 255) (h0 : 0 ≤ hi) (h1 : hi ≤ 255) :
    Calls Try.prog 103 #[.int .u8 lo, .int .u8 hi] w fun e w' => e = .returned (.agg #[.int .u64 (W (rngB lo (hi + 1)) 0), .int .u64 (W (rngB lo (hi + 1)) 1), .int .u64 (W (rngB lo (hi + 1)) 2), .int .u64 (W (rngB lo (hi + 1)) 3)]) ∧ Below w.heap.size w w' := by
  go_enter Try.func103, Try.ntmps103
  go_wp2
  go_loopw [6] (fun i wr => ∃ k : Int, lo ≤ k ∧ (k ≤ hi + 1 ∨ k = lo) ∧ i = .int .i64 k ∧ Row4 wr w.heap.size noB ∧ Row4 wr (w.heap.size + 1) (rngB lo k) ∧ Below w.heap.size w wr) (fun i _ => (256 - intOf i).toNat)
  case atStart =>
    have R := Row4.zero (w.alloc (.cells #[.int .u64 0, .int .u64 0, .int .u64 0, .int .u64 0] 40))
    rw [World.size_alloc] at R
    exact ⟨lo, Int.le_refl _, .inr rfl, rfl, (Row4.zero w).alloc _, R.congr (by funext x; simp [noB, rngB]), ((Below.refl _ _).alloc (Nat.le_refl _) _).alloc (by simp) _⟩
  case round =>
    obtain ⟨k, hk0, hk1, rfl, R0, R1, hb⟩ := hrel
    obtain ⟨c0, c1, c2, c3⟩ := R1.cells
    by_cases hlt : k ≤ hi
    · have hk2 : k ≤ 255 := by omega
      have hk3 : 0 ≤ k := by omega
      clear hk1
      go_wp2_with fail
      refine (with_any (rngB lo k) k _ hk3 hk2).mono ?_
      rintro e w1 ⟨rfl, hbw⟩
      have Q0 := R0.below hbw R0.lt
      have Q1 := R1.below hbw R1.lt
      obtain ⟨d0, d1, d2, d3⟩ := Q1.cells
      have df := Q1.thawed
      clear c0 c1 c2 c3
      go_wp2
      refine ⟨⟨k + 1, by omega, .inl (by omega), rfl, (((Q0.far (by simp) _).far (by simp) _).far (by simp) _).far (by simp) _, (Q1.fill _).congr ?_, ?_⟩, by simp [intOf]; omega⟩
      · funext x
        unfold addB rngB
        rw [Bool.eq_iff_iff]
        simp
        omega
      · exact ((((hb.trans (hbw.mono hb.size)).setCell (by simp) _).setCell (by simp) _).setCell (by simp) _).setCell (by simp) _
    · have hk4 : hi < k := by omega
      obtain ⟨r0, r1, r2, r3⟩ := R0.cells
      have rf := R0.thawed
      have HE := hidd hk1
      clear hk1
      go_wp2
      have e : rngB lo k = rngB lo (hi + 1) := by
        funext x
        have := HE.out
        unfold rngB
        rw [decide_eq_decide]
        omega
      rw [e]
      exact ret_set Try.results103 rfl (R0.fill _) rfl ⟨rfl, (((hb.setCell (by simp) _).setCell (by simp) _).setCell (by simp) _).setCell (by simp) _⟩

end Go.Proofs.Ytahhiajliomcfaa

/- '==' and '!=' on sets, and on pairs of bytes: arrays of integers, item by item. -/
namespace Go.Proofs.Ytahhiajliomcfaa
open Go.RowKit

theorem u64_info : (Try.prog.info? 38).isSome = true := by kernel_rfl
theorem u64_cells : Try.prog.cellsOf 38 = 1 := by kernel_rfl
theorem u64_plain : Try.prog.plainKey 38 = true := by kernel_rfl
theorem items_step {e : TypeId} {k k' : IntKind} (he : Try.prog.plainKey e = true) (hu : Try.prog.underlying e = some (.int k')) (d : Nat) (xs ys : Array Value) (i : Nat) (is : List Nat) (a b : Int) (w : World)
    (hx : xs[i]? = some (.int k a)) (hy : ys[i]? = some (.int k b)) :
    (Op.eqItems (d + 1) e 1 xs ys (i :: is)).run Try.prog w = if a = b then (Op.eqItems (d + 1) e 1 xs ys is).run Try.prog w else .ok false w := by
  simp only [Op.eqItems, Sem.run_bind, Nat.mul_one, run_part_plain w he hx, run_part_plain w he hy, Result.andThen_ok, run_equalIn_int w d e k k' a b hu]
  by_cases h : a = b
  · simp [h]
  · simp [h]

theorem run_eq27 (d : Nat) (a0 a1 a2 a3 b0 b1 b2 b3 : Int) (w : World) : (Op.equalIn (d + 2) 40 (.agg #[.int .u64 a0, .int .u64 a1, .int .u64 a2, .int .u64 a3]) (.agg #[.int .u64 b0, .int .u64 b1, .int .u64 b2, .int .u64 b3])).run Try.prog w = .ok (decide (a0 = b0 ∧ a1 = b1 ∧ a2 = b2 ∧ a3 = b3)) w := by
  obtain ⟨i, hi⟩ := Option.isSome_iff_exists.1 u64_info
  rw [run_equalIn_array w (d + 1) _ _ Try.underlying40 hi, u64_cells, show List.range 4 = [0, 1, 2, 3] from rfl]
  rw [items_step u64_plain Try.underlying38 d _ _ 0 _ a0 b0 w rfl rfl, items_step u64_plain Try.underlying38 d _ _ 1 _ a1 b1 w rfl rfl, items_step u64_plain Try.underlying38 d _ _ 2 _ a2 b2 w rfl rfl, items_step u64_plain Try.underlying38 d _ _ 3 _ a3 b3 w rfl rfl]
  by_cases h0 : a0 = b0
  · by_cases h1 : a1 = b1
    · by_cases h2 : a2 = b2
      · by_cases h3 : a3 = b3
        · simp [h0, h1, h2, h3, Op.eqItems]
        · simp [h0, h1, h2, h3]
      · simp [h0, h1, h2]
    · simp [h0, h1]
  · simp [h0]

/-- What '==' on two sets tells: whether they have the same bytes. -/
def eqB (p q : Nat → Bool) : Bool := decide (W p 0 = W q 0 ∧ W p 1 = W q 1 ∧ W p 2 = W q 2 ∧ W p 3 = W q 3)
theorem eqB_true {p q : Nat → Bool} (h : ∀ b, b < 256 → p b = q b) : eqB p q = true := by
  have hw : ∀ i, i < 4 → W p i = W q i := fun i hi => W_congr fun j hj => h _ (by omega)
  simp [eqB, hw 0, hw 1, hw 2, hw 3]
theorem set_eql (p q : Nat → Bool) (w : World) : (binOp .eql 40 (.agg #[.int .u64 (W (p) 0), .int .u64 (W (p) 1), .int .u64 (W (p) 2), .int .u64 (W (p) 3)]) (.agg #[.int .u64 (W (q) 0), .int .u64 (W (q) 1), .int .u64 (W (q) 2), .int .u64 (W (q) 3)])).run Try.prog w = .ok (.bool (eqB p q)) w := by
  rw [run_eql_struct]
  exact (congrArg (fun r => Result.andThen r _) (run_eq27 9998 _ _ _ _ _ _ _ _ w))
theorem set_neq (p q : Nat → Bool) (w : World) : (binOp .neq 40 (.agg #[.int .u64 (W (p) 0), .int .u64 (W (p) 1), .int .u64 (W (p) 2), .int .u64 (W (p) 3)]) (.agg #[.int .u64 (W (q) 0), .int .u64 (W (q) 1), .int .u64 (W (q) 2), .int .u64 (W (q) 3)])).run Try.prog w = .ok (.bool (!eqB p q)) w := by
  rw [run_neq_struct]
  exact (congrArg (fun r => Result.andThen r _) (run_eq27 9998 _ _ _ _ _ _ _ _ w))

end Go.Proofs.Ytahhiajliomcfaa

/- Or and And of bset. -/
namespace Go.Proofs.Ytahhiajliomcfaa
open Go.RowKit
set_option maxRecDepth 100000
def anyB (ps : List (Nat → Bool)) (x : Nat) : Bool := ps.any fun p => p x
theorem anyB_snoc (l : List (Nat → Bool)) (k : Nat) (h : k < l.length) : anyB (l.take (k + 1)) = orB (anyB (l.take k)) (l.getD k noB) := by
  funext x
  unfold anyB orB
  rw [List.take_succ_eq_append_getElem h, List.any_append, List.getD_eq_getElem?_getD, List.getElem?_eq_getElem h]
  simp
theorem Row4.same {w : World} {g : Nat} {p q : Nat → Bool} (h : Row4 w g p) (e : ∀ k, k < 4 → W p k = W q k) : Row4 w g q := by
  unfold Row4 at h ⊢
  rw [h, e 0 (by omega), e 1 (by omega), e 2 (by omega), e 3 (by omega)]
end Go.Proofs.Ytahhiajliomcfaa

/- List, of bset and of its reference. -/
namespace Go.Proofs.Ytahhiajliomcfaa
open Go.RowKit

/-- The bytes below n of a set, rising. -/
def lstB (p : Nat → Bool) (n : Nat) : List Int := ((List.range n).filter p).map fun x : Nat => (x : Int)
theorem lst_len (p : Nat → Bool) (n : Nat) : (lstB p n).length ≤ n := by
  unfold lstB
  rw [List.length_map]
  exact Nat.le_trans (List.length_filter_le _ _) (by simp)
end Go.Proofs.Ytahhiajliomcfaa

/- The ranges of a rising list of bytes: plain lists. -/
namespace Go.Proofs.Ytahhiajliomcfaa

def spStep (out : List (Int × Int)) (b : Int) : List (Int × Int) :=
  match out.getLast? with
  | some (a, c) => if c + 1 = b then out.dropLast ++ [(a, b)] else out ++ [(b, b)]
  | none => [(b, b)]
def spansL (l : List Int) : List (Int × Int) := l.foldl spStep []

theorem spans_snoc (l : List Int) (b : Int) : spansL (l ++ [b]) = spStep (spansL l) b := by simp [spansL]
theorem step_last (init : List (Int × Int)) (a c b : Int) : spStep (init ++ [(a, c)]) b = if c + 1 = b then init ++ [(a, b)] else init ++ [(a, c)] ++ [(b, b)] := by
  unfold spStep
  rw [List.getLast?_append]
  simp
theorem spans_last (l : List Int) (h : l ≠ []) : ∃ init a, spansL l = init ++ [(a, l.getLast h)] := by
  obtain ⟨l', b, rfl⟩ : ∃ l' b, l = l' ++ [b] := ⟨l.dropLast, l.getLast h, (List.dropLast_concat_getLast h).symm⟩
  rw [spans_snoc, show (l' ++ [b]).getLast h = b from by simp]
  unfold spStep
  cases hh : (spansL l').getLast? with
  | none => exact ⟨[], b, rfl⟩
  | some x =>
    obtain ⟨a, c⟩ := x
    simp only
    split
    · exact ⟨_, a, rfl⟩
    · exact ⟨_, b, rfl⟩
theorem spans_len (l : List Int) : (spansL l).length ≤ l.length := by
  have key : ∀ n, ∀ l : List Int, l.length = n → (spansL l).length ≤ n := by
    intro n
    induction n with
    | zero => intro l hl; rw [List.eq_nil_of_length_eq_zero hl]; exact Nat.le_refl _
    | succ n ih =>
      intro l hl
      have hne : l ≠ [] := fun e => by subst e; simp at hl
      obtain ⟨l', b, rfl⟩ : ∃ l' b, l = l' ++ [b] := ⟨l.dropLast, l.getLast hne, (List.dropLast_concat_getLast hne).symm⟩
      have hl' : l'.length = n := by simpa using hl
      have := ih l' hl'
      rw [spans_snoc]
      unfold spStep
      split
      · split
        · simp; omega
        · simp; omega
      · simp
  exact key _ l rfl

/-- The bytes of a set rise, and are bytes. -/
theorem lst_rises (p : Nat → Bool) (n : Nat) : (lstB p n).Pairwise (· < ·) := by
  unfold lstB
  rw [List.pairwise_map]
  refine (List.Pairwise.filter p List.pairwise_lt_range).imp ?_
  intro a b h
  omega
theorem lst_mem (p : Nat → Bool) (n : Nat) (x : Int) : x ∈ lstB p n ↔ ∃ b : Nat, x = b ∧ b < n ∧ p b = true := by
  unfold lstB
  simp only [List.mem_map, List.mem_filter, List.mem_range]
  constructor
  · rintro ⟨b, ⟨h1, h2⟩, rfl⟩; exact ⟨b, rfl, h1, h2⟩
  · rintro ⟨b, rfl, h1, h2⟩; exact ⟨b, ⟨h1, h2⟩, rfl⟩
theorem lst_byte (p : Nat → Bool) : ∀ x ∈ lstB p 256, 0 ≤ x ∧ x ≤ 255 := by
  intro x hx
  obtain ⟨b, rfl, h, _⟩ := (lst_mem p 256 x).1 hx
  omega
end Go.Proofs.Ytahhiajliomcfaa

/- Ranges of a rising list stand apart, and together have just its numbers. Plain lists. -/
namespace Go.Proofs.Ytahhiajliomcfaa

structure Good (l : List Int) (o : List (Int × Int)) : Prop where
  apart : o.Pairwise fun x y => x.2 + 1 < y.1
  up : ∀ x ∈ o, x.1 ≤ x.2
  has : ∀ n : Int, (∃ x ∈ o, x.1 ≤ n ∧ n ≤ x.2) ↔ n ∈ l

theorem good_step {l : List Int} {b : Int} (hr : (l ++ [b]).Pairwise (· < ·)) (g : Good l (spansL l)) : Good (l ++ [b]) (spansL (l ++ [b])) := by
  have hlt : ∀ x ∈ l, x < b := fun x hx => (List.pairwise_append.1 hr).2.2 x hx b (by simp)
  rw [spans_snoc]
  rcases List.eq_nil_or_concat l with rfl | ⟨l', c, rfl⟩
  · have e : spStep (spansL []) b = [(b, b)] := rfl
    rw [e]
    refine ⟨by simp, by simp, fun n => ?_⟩
    simp
    omega
  · rw [List.concat_eq_append] at g hlt ⊢
    have hne : l' ++ [c] ≠ [] := by simp
    obtain ⟨init, a, e⟩ := spans_last (l' ++ [c]) hne
    rw [show (l' ++ [c]).getLast hne = c from by simp] at e
    rw [e] at g ⊢
    obtain ⟨ga, gu, gh⟩ := g
    rw [step_last]
    have hc : c < b := hlt c (by simp)
    have hac : a ≤ c := gu (a, c) (by simp)
    have hin : ∀ x ∈ init, x.2 + 1 < a := fun x hx => (List.pairwise_append.1 ga).2.2 x hx (a, c) (by simp)
    by_cases hcb : c + 1 = b
    · rw [if_pos hcb]
      refine ⟨?_, ?_, fun n => ?_⟩
      · rw [List.pairwise_append] at ga ⊢
        refine ⟨ga.1, by simp, fun x hx y hy => ?_⟩
        simp at hy
        subst hy
        exact hin x hx
      · intro x hx
        rw [List.mem_append] at hx
        rcases hx with hx | hx
        · exact gu x (by simp [hx])
        · simp at hx; subst hx; show a ≤ b; omega
      · rw [List.mem_append, ← gh n]
        constructor
        · rintro ⟨x, hx, h1, h2⟩
          rw [List.mem_append] at hx
          rcases hx with hx | hx
          · exact .inl ⟨x, by simp [hx], h1, h2⟩
          · simp at hx; subst hx
            by_cases e1 : n = b
            · exact .inr (by simp [e1])
            · exact .inl ⟨(a, c), by simp, h1, by have : n ≤ b := h2; show n ≤ c; omega⟩
        · rintro (⟨x, hx, h1, h2⟩ | h)
          · rw [List.mem_append] at hx
            rcases hx with hx | hx
            · exact ⟨x, by simp [hx], h1, h2⟩
            · simp at hx; subst hx
              exact ⟨(a, b), by simp, h1, by have : n ≤ c := h2; show n ≤ b; omega⟩
          · simp at h; subst h
            exact ⟨(a, n), by simp, by show a ≤ n; omega, Int.le_refl _⟩
    · rw [if_neg hcb]
      refine ⟨?_, ?_, fun n => ?_⟩
      · rw [List.pairwise_append]
        refine ⟨ga, by simp, fun x hx y hy => ?_⟩
        simp at hy
        subst hy
        rw [List.mem_append] at hx
        rcases hx with hx | hx
        · have := hin x hx; show x.2 + 1 < b; omega
        · simp at hx; subst hx; show c + 1 < b; omega
      · intro x hx
        rw [List.mem_append] at hx
        rcases hx with hx | hx
        · exact gu x hx
        · simp at hx; subst hx; exact Int.le_refl _
      · rw [List.mem_append, ← gh n]
        constructor
        · rintro ⟨x, hx, h1, h2⟩
          rw [List.mem_append] at hx
          rcases hx with hx | hx
          · exact .inl ⟨x, hx, h1, h2⟩
          · simp at hx; subst hx
            have h1' : b ≤ n := h1
            have h2' : n ≤ b := h2
            exact .inr (by simp; omega)
        · rintro (⟨x, hx, h1, h2⟩ | h)
          · exact ⟨x, by rw [List.mem_append]; exact .inl hx, h1, h2⟩
          · simp at h; subst h
            exact ⟨(n, n), by simp, Int.le_refl _, Int.le_refl _⟩

theorem good_spans (l : List Int) (hr : l.Pairwise (· < ·)) : Good l (spansL l) := by
  have key : ∀ n, ∀ l : List Int, l.length = n → l.Pairwise (· < ·) → Good l (spansL l) := by
    intro n
    induction n with
    | zero =>
      intro l hl _
      rw [List.eq_nil_of_length_eq_zero hl]
      exact ⟨List.Pairwise.nil, by simp [spansL], fun n => by simp [spansL]⟩
    | succ n ih =>
      intro l hl hr
      have hne : l ≠ [] := fun e => by subst e; simp at hl
      obtain ⟨l', b, rfl⟩ : ∃ l' b, l = l' ++ [b] := ⟨l.dropLast, l.getLast hne, (List.dropLast_concat_getLast hne).symm⟩
      exact good_step hr (ih l' (by simpa using hl) (List.pairwise_append.1 hr).1)
  exact key _ l rfl hr

/-- What a round over the ranges of a set meets. -/
theorem span_at (p : Nat → Bool) (k : Nat) (hk : k < (spansL (lstB p 256)).length) :
    0 ≤ ((spansL (lstB p 256)).getD k (0, 0)).1 ∧ ((spansL (lstB p 256)).getD k (0, 0)).1 ≤ ((spansL (lstB p 256)).getD k (0, 0)).2 ∧ ((spansL (lstB p 256)).getD k (0, 0)).2 ≤ 255 := by
  have g := good_spans _ (lst_rises p 256)
  have hm : (spansL (lstB p 256)).getD k (0, 0) ∈ spansL (lstB p 256) := by rw [List.getD_eq_getElem?_getD, List.getElem?_eq_getElem hk]; exact List.getElem_mem hk
  generalize (spansL (lstB p 256)).getD k (0, 0) = x at *
  have hu := g.up x hm
  have h1 := lst_byte p _ ((g.has x.1).1 ⟨x, hm, Int.le_refl _, hu⟩)
  have h2 := lst_byte p _ ((g.has x.2).1 ⟨x, hm, hu, Int.le_refl _⟩)
  omega
end Go.Proofs.Ytahhiajliomcfaa

/- Bytes made a string. -/
namespace Go.Proofs.Ytahhiajliomcfaa
open Go.RowKit

end Go.Proofs.Ytahhiajliomcfaa

/- Not, Or and And of the reference. -/
namespace Go.Proofs.Ytahhiajliomcfaa
open Go.RowKit

/-- The bytes of p below n. -/
def belB (n : Nat) (p : Nat → Bool) (x : Nat) : Bool := decide (x < n) && p x
theorem bel_yes (n : Nat) (p : Nat → Bool) (h : p n = true) : addB (belB n p) n = belB (n + 1) p := by
  funext x
  unfold addB belB
  rw [Bool.eq_iff_iff]
  simp
  by_cases e : x = n
  · subst e; simp [h]
  · simp [e]; omega
theorem Row4.bel256 {w : World} {g : Nat} {p : Nat → Bool} (h : Row4 w g (belB 256 p)) : Row4 w g p :=
  h.same fun k hk => W_congr fun j hj => by unfold belB; simp; omega
theorem bel_zero (p : Nat → Bool) : noB = belB 0 p := by funext x; simp [noB, belB]

/-- The bytes of p below n, and n, if q has it. -/
def curB (n : Nat) (q p : Nat → Bool) (x : Nat) : Bool := (decide (x < n) && p x) || (x == n && q x)
theorem cur_yes (n : Nat) (q q' p : Nat → Bool) (h : q' n = true) : addB (curB n q p) n = curB n q' p := by
  funext x
  unfold addB curB
  by_cases e : x = n
  · subst e; simp [h]
  · have : (x == n) = false := by simpa using e
    simp [this]
theorem cur_no (n : Nat) (q q' p : Nat → Bool) (h : q n = q' n) : curB n q p = curB n q' p := by
  funext x
  unfold curB
  by_cases e : x = n
  · subst e; simp [h]
  · have : (x == n) = false := by simpa using e
    simp [this]
theorem cur_zero (n : Nat) (p : Nat → Bool) : belB n p = curB n noB p := by
  funext x; simp [belB, curB, noB]
theorem cur_end (n : Nat) (p : Nat → Bool) : curB n p p = belB (n + 1) p := by
  funext x
  unfold curB belB
  by_cases e : x = n
  · subst e; simp
  · have : decide (x < n) = decide (x < n + 1) := by rw [decide_eq_decide]; omega
    simp [e, this]

set_option maxRecDepth 100000 in
set_option maxHeartbeats 2000000 in
theorem ror_any (A : Option Addr) (c : Nat) (ps : List (Nat → Bool)) (w : World) (hx : Sts w w.heap.size A ps) (hl : ps.length ≤ 1000000) :
    Calls Try.prog 104 #[.slice A ps.length c] w fun e w' => e = .returned (.agg #[.int .u64 (W (anyB ps) 0), .int .u64 (W (anyB ps) 1), .int .u64 (W (anyB ps) 2), .int .u64 (W (anyB ps) 3)]) ∧ Below w.heap.size w w' := by
  go_enter Try.func104, Try.ntmps104
  go_wp2
  go_loopw [4] (fun i wr => ∃ k : Nat, k ≤ 256 ∧ i = .int .i64 k ∧ Row4 wr w.heap.size noB ∧ Row4 wr (w.heap.size + 1) (belB k (anyB ps)) ∧ Below w.heap.size w wr) (fun i _ => 256 - (intOf i).toNat)
  case atStart =>
    have R := Row4.zero (w.alloc (.cells #[.int .u64 0, .int .u64 0, .int .u64 0, .int .u64 0] 40))
    rw [World.size_alloc] at R
    exact ⟨0, Nat.zero_le _, rfl, (Row4.zero w).alloc _, R.congr (bel_zero _), ((Below.refl _ _).alloc (Nat.le_refl _) _).alloc (by simp) _⟩
  case round =>
    obtain ⟨k, hk0, rfl, R0, R1, hb⟩ := hrel
    by_cases hlt : k < 256
    · have hk1 : (k : Int) ≤ 255 := by omega
      have hk3 : (k : Int) < 256 := by omega
      go_wp2
      go_loopw [5] (fun i wi => ∃ j : Nat, j ≤ ps.length ∧ i = .int .i64 j ∧ Row4 wi w.heap.size noB ∧ Row4 wi (w.heap.size + 1) (curB k (anyB (ps.take j)) (anyB ps)) ∧ Below w.heap.size w wi) (fun i _ => ps.length - (intOf i).toNat)
      case atStart => exact ⟨0, Nat.zero_le _, rfl, R0, R1.congr (cur_zero _ _), hb⟩
      case round =>
        obtain ⟨j, hj0, rfl, S0, S1, hbi⟩ := hrel
        clear R0 R1 hb
        by_cases hj : j < ps.length
        · have hs := anyB_snoc ps j hj
          obtain ⟨g, off, rfl, hg, x0, x1, x2, x3⟩ := (hx.below hbi).at_ hj
          clear hx
          generalize ps.getD j noB = q at *
          have HS := hidd hs
          clear hs
          go_wp2_with fail
          refine (rhas_any q (k : Int) _ (by omega) hk1).mono ?_
          rintro e w1 ⟨rfl, hb1⟩
          have Q0 := S0.below hb1 S0.lt
          have Q1 := S1.below hb1 S1.lt
          have hbb := hbi.trans (hb1.mono hbi.size)
          rw [Int.toNat_natCast]
          clear x0 x1 x2 x3 S0 S1 hb1 hbi
          cases hp : q k with
          | true =>
            have HT := hidd (cur_yes k (anyB (ps.take j)) (anyB (ps.take (j + 1))) (anyB ps) (by rw [HS.out]; simp [orB, hp]))
            obtain ⟨c0, c1, c2, c3⟩ := Q1.cells
            go_wp2_with fail
            refine (with_any (curB k (anyB (ps.take j)) (anyB ps)) (k : Int) _ (by omega) hk1).mono ?_
            rintro e w2 ⟨rfl, hb2⟩
            have S0 := Q0.below hb2 Q0.lt
            have S1 := Q1.below hb2 Q1.lt
            have hbc := hbb.trans (hb2.mono hbb.size)
            rw [Int.toNat_natCast]
            clear c0 c1 c2 c3 Q0 Q1 hb2 hbb
            obtain ⟨c0, c1, c2, c3⟩ := S1.cells
            have cf := S1.thawed
            go_wp2
            refine ⟨⟨j + 1, by omega, rfl, (((S0.far (by simp) _).far (by simp) _).far (by simp) _).far (by simp) _, (S1.fill _).congr HT.out, ?_⟩, by simp [intOf]; omega⟩
            exact (((hbc.setCell (by simp) _).setCell (by simp) _).setCell (by simp) _).setCell (by simp) _
          | false =>
            have HT := hidd (cur_no k (anyB (ps.take j)) (anyB (ps.take (j + 1))) (anyB ps) (by rw [HS.out]; simp [orB, hp]))
            go_wp2
            exact ⟨⟨j + 1, by omega, rfl, Q0, Q1.congr HT.out, hbb⟩, by simp [intOf]; omega⟩
        · have HT := hidd (List.take_of_length_le (l := ps) (i := j) (by omega))
          go_wp2
          refine ⟨⟨k + 1, by omega, rfl, S0, S1.congr ?_, hbi⟩, by simp [intOf]; omega⟩
          rw [HT.out, cur_end]
    · have hk2 : k = 256 := by omega
      subst hk2
      have Q1 := R1.bel256
      obtain ⟨c0, c1, c2, c3⟩ := Q1.cells
      obtain ⟨r0, r1, r2, r3⟩ := R0.cells
      have rf := R0.thawed
      clear R1
      go_wp2
      exact ret_set Try.results104 rfl (R0.fill _) rfl ⟨rfl, (((hb.setCell (by simp) _).setCell (by simp) _).setCell (by simp) _).setCell (by simp) _⟩

end Go.Proofs.Ytahhiajliomcfaa

/- And of the reference; slices of sets that a call made. -/
namespace Go.Proofs.Ytahhiajliomcfaa
open Go.RowKit

theorem set_info : (Try.prog.info? 40).map (fun i => (i.zero, i.size, i.bytes)) = some (some (.agg #[.int .u64 0, .int .u64 0, .int .u64 0, .int .u64 0]), 4, 32) := by kernel_rfl

def sw (p : Nat → Bool) : List Value := [.int .u64 (W p 0), .int .u64 (W p 1), .int .u64 (W p 2), .int .u64 (W p 3)]
def sws (ps : List (Nat → Bool)) : List Value := ps.flatMap sw
theorem sws_at (ps : List (Nat → Bool)) (i k : Nat) (hi : i < ps.length) (hk : k < 4) : (sws ps)[i * 4 + k]? = some (.int .u64 (W (ps.getD i noB) k)) := by
  induction ps generalizing i with
  | nil => simp at hi
  | cons p r ih =>
    have e : sws (p :: r) = sw p ++ sws r := by simp [sws]
    rw [e]
    have hl : (sw p).length = 4 := rfl
    cases i with
    | zero =>
      rw [List.getElem?_append_left (by omega)]
      have : k = 0 ∨ k = 1 ∨ k = 2 ∨ k = 3 := by omega
      rcases this with rfl | rfl | rfl | rfl <;> rfl
    | succ i =>
      rw [List.getElem?_append_right (by omega), hl, show (i + 1) * 4 + k - 4 = i * 4 + k from by omega]
      exact ih i (by simpa using hi)

theorem Sts.of_own {w : World} {b : Nat} {v : Value} {ps : List (Nat → Bool)} (h : w.ownsRow b 40 4 v ps.length (sws ps)) : ∃ A c, v = .slice A ps.length c ∧ Sts w w.heap.size A ps := by
  rcases h.2 with ⟨hv, hn⟩ | ⟨g, cap, cur, hv, hg, hh, h1, h2, h3, h4⟩
  · refine ⟨none, 0, by rw [hv, hn], fun hx => ?_⟩
    exact absurd (List.eq_nil_of_length_eq_zero hn) hx
  · refine ⟨_, cap, hv, fun _ => ⟨g, 0, rfl, ?_, fun i hi k hk => ?_⟩⟩
    · rcases Nat.lt_or_ge g w.heap.size with hl | hl
      · exact hl
      · rw [Array.getElem?_eq_none hl] at hh; cases hh
    · subst hv
      have := h.cellAt (i * 4 + k) (by omega)
      rw [sws_at ps i k hi hk] at this
      rw [Nat.zero_add]
      exact this

end Go.Proofs.Ytahhiajliomcfaa

/- Fold, of bset and of its reference. -/
namespace Go.Proofs.Ytahhiajliomcfaa
open Go.RowKit

/-- The bytes of p, and of its letters below k (and their capitals) the other case. -/
def foldK (k : Nat) (p : Nat → Bool) (x : Nat) : Bool := p x || (decide (97 ≤ x ∧ x < k) && p (x - 32)) || (decide (65 ≤ x ∧ x + 32 < k) && p (x + 32))
end Go.Proofs.Ytahhiajliomcfaa

/- Of and Or, And at lists that are written out; Fold of bset. -/
namespace Go.Proofs.Ytahhiajliomcfaa
open Go.RowKit

def c8 (p q : Nat → Bool) : Array Value := #[.int .u64 (W p 0), .int .u64 (W p 1), .int .u64 (W p 2), .int .u64 (W p 3), .int .u64 (W q 0), .int .u64 (W q 1), .int .u64 (W q 2), .int .u64 (W q 3)]
end Go.Proofs.Ytahhiajliomcfaa

/- Spans, of bset and of its reference. -/
namespace Go.Proofs.Ytahhiajliomcfaa
open Go.RowKit

end Go.Proofs.Ytahhiajliomcfaa

/- The law's own small functions: spans, few. -/
namespace Go.Proofs.Ytahhiajliomcfaa
open Go.RowKit

/-- The slice at A reads as the pairs l, and lies in blocks below B. -/
def Prs (w : World) (B : Nat) (A : Option Addr) (l : List (Int × Int)) : Prop :=
  l ≠ [] → ∃ g off, A = some ⟨g, off, none⟩ ∧ g < B ∧ ∀ i, i < l.length → w.cell? ⟨g, off + i * 2, none⟩ = some (.int .u8 (l.getD i (0, 0)).1) ∧ w.cell? ⟨g, off + i * 2 + 1, none⟩ = some (.int .u8 (l.getD i (0, 0)).2)
theorem Prs.below {w w' : World} {B : Nat} {A : Option Addr} {l : List (Int × Int)} (h : Prs w B A l) (hb : Below B w w') : Prs w' B A l := fun hx => by
  obtain ⟨g, off, e, hg, ha⟩ := h hx
  exact ⟨g, off, e, hg, fun i hi => ⟨(hb.cell (p := ⟨g, _, none⟩) hg).trans (ha i hi).1, (hb.cell (p := ⟨g, _, none⟩) hg).trans (ha i hi).2⟩⟩
theorem Prs.more {w : World} {B B' : Nat} {A : Option Addr} {l : List (Int × Int)} (h : Prs w B A l) (hb : B ≤ B') : Prs w B' A l := fun hx => by
  obtain ⟨g, off, e, hg, ha⟩ := h hx
  exact ⟨g, off, e, by omega, ha⟩
theorem Prs.at_ {w : World} {B : Nat} {A : Option Addr} {l : List (Int × Int)} (h : Prs w B A l) {k : Nat} (hk : k < l.length) :
    ∃ g off, A = some ⟨g, off, none⟩ ∧ g < B ∧ w.cell? ⟨g, off + k * 2, none⟩ = some (.int .u8 (l.getD k (0, 0)).1) ∧ w.cell? ⟨g, off + k * 2 + 1, none⟩ = some (.int .u8 (l.getD k (0, 0)).2) := by
  obtain ⟨g, off, e, hg, ha⟩ := h (fun e => by subst e; simp at hk)
  exact ⟨g, off, e, hg, (ha k hk).1, (ha k hk).2⟩

end Go.Proofs.Ytahhiajliomcfaa

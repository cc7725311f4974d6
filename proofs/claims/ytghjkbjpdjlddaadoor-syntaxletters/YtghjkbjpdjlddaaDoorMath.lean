/- The words of a set of 256 bytes, and what Go's operations on them give. Plain numbers, nothing of the program. -/
import Derived.Laws.BitsAllLaws
import Derived.Laws.Entries
namespace Go.Proofs.YtghjkbjpdjlddaaDoor

/-- The number whose bits below n are those of p. -/
def wd (p : Nat → Bool) : Nat → Nat
  | 0 => 0
  | n + 1 => wd p n ||| (if p n = true then 2 ^ n else 0)

theorem wd_bit (p : Nat → Bool) (n i : Nat) : (wd p n).testBit i = (decide (i < n) && p i) := by
  induction n with
  | zero => simp [wd]
  | succ n ih =>
    simp only [wd, Nat.testBit_or, ih]
    by_cases hp : p n = true
    · simp only [hp, if_true, Nat.testBit_two_pow]
      by_cases h : n = i
      · subst h; simp [hp]
      · have : decide (i < n + 1) = decide (i < n) := by simp; omega
        simp [h, this]
    · simp only [hp]
      by_cases h : n = i
      · subst h; simp [hp]
      · have : decide (i < n + 1) = decide (i < n) := by simp; omega
        simp [this]

theorem wd_lt (p : Nat → Bool) (n : Nat) : wd p n < 2 ^ n := by
  apply Nat.lt_pow_two_of_testBit
  intro i hi
  rw [wd_bit]
  simp; omega

/-- Word i of the set of the bytes with p. -/
def W (p : Nat → Bool) (i : Nat) : Int := (wd (fun j => p (64 * i + j)) 64 : Nat)

def wN (p : Nat → Bool) (i : Nat) : Nat := wd (fun j => p (64 * i + j)) 64
theorem W_eq (p : Nat → Bool) (i : Nat) : W p i = (wN p i : Nat) := rfl
theorem wN_lt (p : Nat → Bool) (i : Nat) : wN p i < 18446744073709551616 := wd_lt _ 64
theorem wN_bit (p : Nat → Bool) (i j : Nat) : (wN p i).testBit j = (decide (j < 64) && p (64 * i + j)) := wd_bit _ _ _
theorem W_nonneg (p : Nat → Bool) (i : Nat) : 0 ≤ W p i := Int.natCast_nonneg _
theorem W_lt (p : Nat → Bool) (i : Nat) : W p i < 18446744073709551616 := by have := wN_lt p i; rw [W_eq]; omega

theorem wN_ext {p : Nat → Bool} {i n : Nat} (hn : n < 18446744073709551616) (h : ∀ j, j < 64 → n.testBit j = p (64 * i + j)) : n = wN p i := by
  apply Nat.eq_of_testBit_eq
  intro j
  rw [wN_bit]
  by_cases hj : j < 64
  · simp [hj, h j hj]
  · simp only [hj, decide_false, Bool.false_and]
    apply Nat.testBit_lt_two_pow
    have : (18446744073709551616 : Nat) = 2 ^ 64 := by decide
    have h2 : 2 ^ 64 ≤ 2 ^ j := Nat.pow_le_pow_right (by decide) (by omega)
    omega

theorem W_congr {p q : Nat → Bool} {i : Nat} (h : ∀ j, j < 64 → p (64 * i + j) = q (64 * i + j)) : W p i = W q i := by
  rw [W_eq, W_eq]
  congr 1
  exact wN_ext (wN_lt p i) (fun j hj => by rw [wN_bit]; simp [hj, h j hj])

theorem W_inj {p q : Nat → Bool} {i : Nat} (h : W p i = W q i) : ∀ j, j < 64 → p (64 * i + j) = q (64 * i + j) := by
  intro j hj
  rw [W_eq, W_eq] at h
  have h' : wN p i = wN q i := by omega
  have := congrArg (fun n => n.testBit j) h'
  simpa [wN_bit, hj] using this

/-- Every number of 64 bits is a word. -/
theorem W_of (a : Int) (i : Nat) (h0 : 0 ≤ a) (h1 : a < 18446744073709551616) : a = W (fun b => a.toNat.testBit (b - 64 * i)) i := by
  rw [W_eq, ← wN_ext (p := fun b => a.toNat.testBit (b - 64 * i)) (n := a.toNat) (by omega)]
  · omega
  · intro j _
    simp

/-- Sets out of sets, and of bytes: names that a walk does not look behind. -/
def orB (p q : Nat → Bool) (x : Nat) : Bool := p x || q x
def andB (p q : Nat → Bool) (x : Nat) : Bool := p x && q x
def xorB (p q : Nat → Bool) (x : Nat) : Bool := p x ^^ q x
def notB (p : Nat → Bool) (x : Nat) : Bool := !p x
def noB (_ : Nat) : Bool := false
def allB (_ : Nat) : Bool := true
def oneB (b : Nat) (x : Nat) : Bool := x == b
def addB (p : Nat → Bool) (b : Nat) (x : Nat) : Bool := p x || x == b
def rngB (lo k : Int) (x : Nat) : Bool := decide (lo ≤ (x : Int) ∧ (x : Int) < k)
def inB (l : List Int) (x : Nat) : Bool := l.any fun b => x == b.toNat

theorem addB_eq (p : Nat → Bool) (b : Nat) : addB p b = orB p (oneB b) := rfl

theorem W_or (p q : Nat → Bool) (i : Nat) : bits .or .u64 (W p i) (W q i) = W (orB p q) i := by
  rw [W_eq, W_eq, W_eq, u64_or_nat _ _ (wN_lt _ _) (wN_lt _ _)]
  congr 1
  apply wN_ext
  · exact Nat.or_lt_two_pow (n := 64) (wN_lt p i) (wN_lt q i)
  · intro j hj; simp [Nat.testBit_or, wN_bit, hj, orB]

theorem W_and (p q : Nat → Bool) (i : Nat) : bits .and .u64 (W p i) (W q i) = W (andB p q) i := by
  rw [W_eq, W_eq, W_eq, u64_and_nat _ _ (wN_lt _ _) (wN_lt _ _)]
  congr 1
  apply wN_ext
  · exact Nat.and_lt_two_pow (n := 64) _ (wN_lt q i)
  · intro j hj; simp [Nat.testBit_and, wN_bit, hj, andB]

theorem W_full (i : Nat) : W allB i = 18446744073709551615 := by
  rw [W_eq, ← wN_ext (p := allB) (n := 18446744073709551615) (by decide)]
  · rfl
  · intro j hj
    have : (18446744073709551615 : Nat) = 2 ^ 64 - 1 := by decide
    rw [this, Nat.testBit_two_pow_sub_one]; simp [hj, allB]

theorem W_zero (i : Nat) : W noB i = 0 := by
  rw [W_eq, ← wN_ext (p := noB) (n := 0) (by decide)]
  · rfl
  · intro j _; simp [noB]

theorem W_xor (p q : Nat → Bool) (i : Nat) : bits .xor .u64 (W p i) (W q i) = W (xorB p q) i := by
  rw [W_eq, W_eq, W_eq, u64_xor_nat _ _ (wN_lt _ _) (wN_lt _ _)]
  congr 1
  apply wN_ext
  · exact Nat.xor_lt_two_pow (n := 64) (wN_lt p i) (wN_lt q i)
  · intro j hj; simp [Nat.testBit_xor, wN_bit, hj, xorB]

theorem W_not (q : Nat → Bool) (i : Nat) : bits .xor .u64 18446744073709551615 (W q i) = W (notB q) i := by
  rw [← W_full i, W_xor]; exact congrArg (W · i) (by funext x; simp [xorB, allB, notB])

/-- The bit of a byte, in its word. -/
theorem pow_W (b : Nat) : IntKind.u64.wrap (2 ^ (b % 64)) = W (oneB b) (b / 64) := by
  have hlt : 2 ^ (b % 64) < 2 ^ 64 := Nat.pow_lt_pow_right (by decide) (Nat.mod_lt _ (by decide))
  have h1 : (2 : Int) ^ (b % 64) = ((2 ^ (b % 64) : Nat) : Int) := by norm_cast
  rw [h1, IntKind.wrap_u64, W_eq, ← wN_ext (p := oneB b) (n := 2 ^ (b % 64)) hlt]
  · have h64 : (2 ^ 64 : Nat) = 18446744073709551616 := by decide
    rw [h64] at hlt
    generalize 2 ^ (b % 64) = m at hlt
    omega
  · intro j hj
    rw [Nat.testBit_two_pow]
    by_cases h : b % 64 = j
    · have : 64 * (b / 64) + j = b := by omega
      simp [h, this, oneB]
    · have : 64 * (b / 64) + j ≠ b := by omega
      simp [h, this, oneB]

/-- A byte's bit in other words is none. -/
theorem one_W (b i : Nat) (h : i ≠ b / 64) : W (oneB b) i = 0 := by
  rw [← W_zero i]
  apply W_congr
  intro j hj
  have : 64 * i + j ≠ b := by omega
  simp [this, oneB, noB]

theorem has_W (p : Nat → Bool) (b : Nat) : (bits .and .u64 (W p (b / 64)) (W (oneB b) (b / 64)) != 0) = p b := by
  rw [W_and]
  cases hp : p b with
  | false =>
    have : W (andB p (oneB b)) (b / 64) = 0 := by
      rw [← W_zero (b / 64)]
      apply W_congr
      intro j hj
      by_cases h : 64 * (b / 64) + j = b
      · simp [h, hp, andB, noB]
      · simp [h, andB, oneB, noB]
    rw [this]; rfl
  | true =>
    have : W (andB p (oneB b)) (b / 64) ≠ 0 := by
      rw [← W_zero (b / 64)]
      intro h
      have := W_inj h (b % 64) (Nat.mod_lt _ (by decide))
      have e : 64 * (b / 64) + b % 64 = b := Nat.div_add_mod _ _
      simp [e, hp, andB, oneB, noB] at this
    simp [this]

/-- The reference's way to ask for a bit. -/
theorem rhas_W (p : Nat → Bool) (b : Nat) : (W p (b / 64) / 2 ^ (b % 64) % 2 == 1) = p b := by
  have hb : (wN p (b / 64)).testBit (b % 64) = p b := by
    rw [wN_bit, Nat.div_add_mod]; simp [Nat.mod_lt]
  rw [W_eq]
  have h1 : (2 : Int) ^ (b % 64) = ((2 ^ (b % 64) : Nat) : Int) := by norm_cast
  rw [h1, ← Int.natCast_ediv, ← hb, Nat.testBit_eq_decide_div_mod_eq]
  rw [Bool.eq_iff_iff]
  simp only [beq_iff_eq, decide_eq_true_eq]
  omega

theorem add_eq_or (x y : Nat) (hx : x < 18446744073709551616) (hy : y < 18446744073709551616) (h : x &&& y = 0) : x + y = x ||| y := by
  have hz : BitVec.ofNat 65 x &&& BitVec.ofNat 65 y = 0#65 := by
    apply BitVec.eq_of_toNat_eq
    rw [BitVec.toNat_and, BitVec.toNat_ofNat, BitVec.toNat_ofNat, Nat.mod_eq_of_lt (by omega), Nat.mod_eq_of_lt (by omega), h]; rfl
  have := congrArg BitVec.toNat (BitVec.add_eq_or_of_and_eq_zero _ _ hz)
  have ho : x ||| y < 2 ^ 64 := Nat.or_lt_two_pow (n := 64) hx hy
  rw [BitVec.toNat_add, BitVec.toNat_or, BitVec.toNat_ofNat, BitVec.toNat_ofNat, Nat.mod_eq_of_lt (a := x) (by omega), Nat.mod_eq_of_lt (a := y) (by omega)] at this
  omega

/-- The reference's way to add a bit that is not there. -/
theorem with_W (p : Nat → Bool) (b : Nat) (h : p b = false) : IntKind.u64.wrap (W p (b / 64) + IntKind.u64.wrap (2 ^ (b % 64))) = W (addB p b) (b / 64) := by
  rw [pow_W, addB_eq, ← W_or, W_eq, W_eq, u64_or_nat _ _ (wN_lt _ _) (wN_lt _ _), IntKind.wrap_u64]
  have hd : wN p (b / 64) &&& wN (oneB b) (b / 64) = 0 := by
    apply Nat.eq_of_testBit_eq
    intro j
    rw [Nat.testBit_and, wN_bit, wN_bit, Nat.zero_testBit]
    by_cases hj : 64 * (b / 64) + j = b
    · simp [hj, h]
    · simp [hj, oneB]
  have hs : wN p (b / 64) + wN (oneB b) (b / 64) = wN p (b / 64) ||| wN (oneB b) (b / 64) := by
    exact add_eq_or _ _ (wN_lt _ _) (wN_lt _ _) hd
  have hl : wN p (b / 64) ||| wN (oneB b) (b / 64) < 2 ^ 64 := Nat.or_lt_two_pow (wN_lt p _) (wN_lt _ _)
  have h64 : (2 ^ 64 : Nat) = 18446744073709551616 := by decide
  omega

theorem set_W (p : Nat → Bool) (b : Nat) : bits .or .u64 (W p (b / 64)) (IntKind.u64.wrap (2 ^ (b % 64))) = W (addB p b) (b / 64) := by
  rw [pow_W, W_or]; rfl

/-- What is added to one word changes no other. -/
theorem oth_W (p : Nat → Bool) (b i : Nat) (h : i ≠ b / 64) : W (addB p b) i = W p i := by
  apply W_congr
  intro j hj
  have : 64 * i + j ≠ b := by omega
  simp [this, addB]

end Go.Proofs.YtghjkbjpdjlddaaDoor

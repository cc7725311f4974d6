/- The landed parser: a class. -/
import Derived.Test.YtghjkbjpdjlddaaDoorTl
import Derived.Test.YtghjkbjpdjlddaaDoorNj
namespace Go.Proofs.YtghjkbjpdjlddaaDoor.Sy
open Go.RowKit
set_option maxRecDepth 100000

/-- What is read is one node, and where that ends; or what is wrong. -/
def GotL (w : World) (b : Nat) (s : ByteArray) (d : Int) (v : Value) (l : List NR) (R : Except Bad (Nd × Nat)) (e : Ending) (w' : World) : Prop :=
  match R with
  | .ok (n, j) => e = .returned (.tuple #[.int .i64 (l.length : Int), .bool true]) ∧ ∃ v' x, PS w' b s (j : Int) 0 0 d v' (l ++ [x]) ∧ GN1 x.1 n ∧ x.1.l = [] ∧ Fr b v v' w w'
  | .error (x, p) => (∃ k : Int, e = .returned (.tuple #[.int .i64 k, .bool false])) ∧ ∃ (j : Nat) (v' : Value) (d' : Int), PR w' b s (j : Int) (x : Int) (p : Int) v' d' ∧ Fr b v v' w w'
def classR (t : List Nat) (i : Nat) : Except Bad (Nd × Nat) := match class_ t i with | .error e => .error e | .ok (p, j) => .ok (ndBytes p, j)

section
variable {w w' : World} {b : Nat} {s : ByteArray} {er pl : Int} {v : Value} {d : Int}
theorem takes_any {i c : Nat} (r : PR w b s i er pl v d) (hi : i ≤ s.size) (hs : s.size ≤ 100000) :
    Calls Tryd.prog 56 #[.pointer (some ⟨b, 0, none⟩), .int .u8 (c : Int)] w fun e w' => e = .returned (.bool (is (bs s) i c)) ∧ PR w' b s ((if is (bs s) i c then i + 1 else i : Nat) : Int) er pl v d ∧ Touch b b w w' := by
  cases h : is (bs s) i c with
  | true => exact takes_yes r hs h
  | false =>
    refine (takes_no r hi h).mono ?_
    rintro e w' ⟨rfl, m, rfl⟩
    exact ⟨rfl, r.drewN m, (Touch.refl b b w).drewN m⟩
/-- What a span tells, its set and its answer taken together. -/
def SpanP (b : Nat) (s : ByteArray) (v : Value) (d : Int) (i : Nat) (z : Bool) (q : Nat → Bool) (w' : World) : Prop :=
  (z = true ∧ ∃ lo hi j, part (bs s) i = .ok ((lo, hi), j) ∧ q = rngS lo hi ∧ j ≤ s.size ∧ i < j ∧ PR w' b s (j : Int) 0 0 v d) ∨ (z = false ∧ ∃ x p j : Nat, part (bs s) i = .error (x, p) ∧ PR w' b s (j : Int) (x : Int) (p : Int) v d)
theorem span_u {i : Nat} (r : PR w b s i 0 0 v d) (hi : i ≤ s.size) (hs : s.size ≤ 100000) :
    Calls Tryd.prog 103 #[.pointer (some ⟨b, 0, none⟩)] w fun e w' => ∃ z q, e = .returned (.tuple #[.agg #[.int .u64 (W (q) 0), .int .u64 (W (q) 1), .int .u64 (W (q) 2), .int .u64 (W (q) 3)], .bool z]) ∧ Touch b b w w' ∧ SpanP b s v d i z q w' := by
  refine (span_any r hi hs).mono ?_
  rintro e w' ⟨T, hg⟩
  unfold GotS at hg
  cases hp : part (bs s) i with
  | ok x =>
    rw [hp] at hg
    obtain ⟨⟨lo, hi⟩, j⟩ := x
    have := part_ok hp
    rw [bs_len] at this
    exact ⟨true, _, hg.1, T, .inl ⟨rfl, lo, hi, j, hp, rfl, this.2, this.1, hg.2⟩⟩
  | error x =>
    rw [hp] at hg
    obtain ⟨x, p⟩ := x
    obtain ⟨h1, j, h2⟩ := hg
    exact ⟨false, _, h1, T, .inr ⟨rfl, x, p, j, hp, h2⟩⟩
theorem sts_two (p q : Nat → Bool) (w : World) : Sts (w.alloc (.cells #[.int .u64 (W p 0), .int .u64 (W p 1), .int .u64 (W p 2), .int .u64 (W p 3), .int .u64 (W q 0), .int .u64 (W q 1), .int .u64 (W q 2), .int .u64 (W q 3)] 28)) (w.alloc (.cells #[.int .u64 (W p 0), .int .u64 (W p 1), .int .u64 (W p 2), .int .u64 (W p 3), .int .u64 (W q 0), .int .u64 (W q 1), .int .u64 (W q 2), .int .u64 (W q 3)] 28)).heap.size (some ⟨w.heap.size, 0, none⟩) [p, q] := by
  refine fun _ => ⟨_, 0, rfl, by simp, fun i hi k hk => ?_⟩
  have hi' : i = 0 ∨ i = 1 := by simp at hi; omega
  have hk' : k = 0 ∨ k = 1 ∨ k = 2 ∨ k = 3 := by omega
  rw [World.cell?_alloc_new]
  rcases hi' with rfl | rfl <;> rcases hk' with rfl | rfl | rfl | rfl <;> rfl
theorem or_two (p q : Nat → Bool) (w : World) :
    Calls Tryd.prog 104 #[.slice (some ⟨w.heap.size, 0, none⟩) 2 2] (w.alloc (.cells #[.int .u64 (W p 0), .int .u64 (W p 1), .int .u64 (W p 2), .int .u64 (W p 3), .int .u64 (W q 0), .int .u64 (W q 1), .int .u64 (W q 2), .int .u64 (W q 3)] 28)) fun e w' => e = .returned (.agg #[.int .u64 (W (uniS p q) 0), .int .u64 (W (uniS p q) 1), .int .u64 (W (uniS p q) 2), .int .u64 (W (uniS p q) 3)]) ∧ Below w.heap.size w w' := by
  have h := or_any _ 2 [p, q] _ (sts_two p q w) (by simp)
  have e : anyB [p, q] = uniS p q := by funext x; simp [anyB, uniS]
  rw [e] at h
  exact h.mono fun e w' h => ⟨h.1, bel1 h.2⟩
theorem set_none (p : Nat → Bool) (w : World) : (binOp .eql 28 (.agg #[.int .u64 (W (p) 0), .int .u64 (W (p) 1), .int .u64 (W (p) 2), .int .u64 (W (p) 3)]) (.agg #[.int .u64 0, .int .u64 0, .int .u64 0, .int .u64 0])).run Tryd.prog w = .ok (.bool (emptyS p)) w := by
  have := set_eql p noB w
  rw [W_zero, W_zero, W_zero, W_zero, eqB_empty] at this
  exact this

/-- Reading a class while it goes on. -/
def ClsR (w : World) (b : Nat) (s : ByteArray) (v : Value) (d : Int) (i0 q5 : Nat) (s6 : Value) (wr : World) : Prop :=
  ∃ z q, s6 = .bool z ∧ Row4 wr q5 q ∧ Touch b b w wr ∧
    ((z = true ∧ ∃ j f, parts (bs s) ((bs s).length + 1) false noS i0 = parts (bs s) (f + 1) true q j ∧ s.size ≤ f + j ∧ j ≤ s.size ∧ PR wr b s (j : Int) 0 0 v d) ∨
     (z = false ∧ ∃ x p j : Nat, parts (bs s) ((bs s).length + 1) false noS i0 = .error (x, p) ∧ PR wr b s (j : Int) (x : Int) (p : Int) v d))
def clsM (b : Nat) (s : ByteArray) (s6 : Value) (wr : World) : Nat := match s6 with | .bool true => s.size + 1 - atOf wr b | _ => 0
theorem cls_first {i0 q5 : Nat} {z : Bool} {q : Nat → Bool} {w1 : World} (h : SpanP b s v d i0 z q w1) (T : Touch b b w w1) (r : Row4 w1 q5 q) : ClsR w b s v d i0 q5 (.bool z) w1 := by
  have hbl := bs_len s
  have hp := parts_next (s := bs s) (bs s).length false noS i0 rfl
  rcases h with ⟨hz, lo, hi, j, h1, h2, h3, h3', h4⟩ | ⟨hz, x, p, j, h1, h4⟩
  · refine ⟨z, q, rfl, r, T, .inl ⟨hz, j, (bs s).length - 1, ?_, by omega, h3, h4⟩⟩
    rw [hp, h1]
    have e : uniS noS (rngS lo hi) = q := by rw [h2]; funext x; simp [uniS, noS]
    simp only [e]
    rw [show (bs s).length - 1 + 1 = (bs s).length from by omega]
  · exact ⟨z, q, rfl, r, T, .inr ⟨hz, x, p, j, by rw [hp, h1], h4⟩⟩
theorem cls_next {i0 q5 j f : Nat} {z : Bool} {q q2 : Nat → Bool} {wr w1 : World} (hp : parts (bs s) ((bs s).length + 1) false noS i0 = parts (bs s) (f + 1) true q j) (hf : s.size ≤ f + j) (hj : is (bs s) j 93 = false) (h : SpanP b s v d j z q2 wr) (T : Touch b b w w1) (R : ∀ (k x p : Int), PR wr b s k x p v d → PR w1 b s k x p v d) (r : Row4 w1 q5 (uniS q q2)) : ClsR w b s v d i0 q5 (.bool z) w1 := by
  have hn := parts_next (s := bs s) f true q j (by rw [hj]; rfl)
  rcases h with ⟨hz, lo, hi, k, h1, h2, h3, h3', h4⟩ | ⟨hz, x, p, k, h1, h4⟩
  · refine ⟨z, _, rfl, r, T, .inl ⟨hz, k, f - 1, ?_, by omega, h3, R _ _ _ h4⟩⟩
    rw [hp, hn, h1, h2]
    simp only
    rw [show f - 1 + 1 = f from by omega]
  · exact ⟨z, _, rfl, r, T, .inr ⟨hz, x, p, k, by rw [hp, hn, h1], R _ _ _ h4⟩⟩
theorem clsM_lt {j : Nat} {z : Bool} {wr w1 : World} (h1 : PR wr b s (j : Int) 0 0 v d) (hj : j ≤ s.size) (h2 : z = true → ∃ k : Nat, j < k ∧ PR w1 b s (k : Int) 0 0 v d) : clsM b s (.bool z) w1 < clsM b s (.bool true) wr := by
  unfold clsM
  cases z with
  | false =>
    simp only
    rw [h1.atOf]
    omega
  | true =>
    obtain ⟨k, hk, r⟩ := h2 rfl
    simp only
    rw [h1.atOf, r.atOf]
    omega
end

end Go.Proofs.YtghjkbjpdjlddaaDoor.Sy

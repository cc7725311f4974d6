/- The walk of BsetLaws: sets are an algebra. -/
import Derived.Test.YtbheccbbkolieaaSl
import Derived.Test.YtbheccbbkolieaaRh
namespace Go.Proofs.Ytbheccbbkolieaa
open Go.RowKit

theorem law_or (p q : Nat → Bool) (b : Nat) (_ : b < 256) : notB (orB p q) b = andB (notB p) (notB q) b := by simp [notB, orB, andB]
theorem law_all (p : Nat → Bool) (b : Nat) (h : b < 256) : orB p (notB p) b = rngB 0 256 b := by simp [notB, orB, rngB]; omega
theorem law_none (p : Nat → Bool) (b : Nat) (_ : b < 256) : andB p (notB p) b = false := by simp [notB, andB]
theorem law_twice (p : Nat → Bool) (b : Nat) (_ : b < 256) : notB (notB p) b = p b := by simp [notB]
theorem law_dist (p q r : Nat → Bool) (b : Nat) (_ : b < 256) : andB p (orB q r) b = orB (andB p q) (andB p r) b := by simp only [andB, orB]; cases p b <;> simp
theorem law_turn (p q r : Nat → Bool) (b : Nat) (_ : b < 256) : anyB [p, q, r] b = anyB [r, p, q] b := by simp only [anyB, List.any_cons, List.any_nil]; cases p b <;> cases q b <;> cases r b <;> rfl

structure LawS (w : World) (p q r : Nat → Bool) (gl : Nat) (v : World) : Prop where
  box : Box4 v w.heap.size (w.heap.size + 1) (w.heap.size + 1 + 1) gl p q r (rngB 0 256)
  bel : Below w.heap.size w v
theorem LawS.below {w : World} {p q r : Nat → Bool} {gl : Nat} {v v' : World} (h : LawS w p q r gl v) (hb : Below v.heap.size v v') : LawS w p q r gl v' := ⟨h.box.below hb, h.bel.trans (hb.mono h.bel.size)⟩

def LwAV (g gl : Nat) (p q : Nat → Bool) (t : Nat) : Option Value :=
  match t with
  | 4 => some (.pointer (some ⟨g, 0, none⟩))
  | 5 => some (.pointer (some ⟨g + 1, 0, none⟩))
  | 10 => some (.pointer (some ⟨gl, 0, none⟩))
  | 15 => some (.agg #[.int .u64 (W (p) 0), .int .u64 (W (p) 1), .int .u64 (W (p) 2), .int .u64 (W (p) 3)])
  | 16 => some (.agg #[.int .u64 (W (q) 0), .int .u64 (W (q) 1), .int .u64 (W (q) 2), .int .u64 (W (q) 3)])
  | 18 => some (.agg #[.int .u64 (W (orB p q) 0), .int .u64 (W (orB p q) 1), .int .u64 (W (orB p q) 2), .int .u64 (W (orB p q) 3)])
  | 19 => some (.agg #[.int .u64 (W (notB (orB p q)) 0), .int .u64 (W (notB (orB p q)) 1), .int .u64 (W (notB (orB p q)) 2), .int .u64 (W (notB (orB p q)) 3)])
  | 20 => some (.agg #[.int .u64 (W (p) 0), .int .u64 (W (p) 1), .int .u64 (W (p) 2), .int .u64 (W (p) 3)])
  | 21 => some (.agg #[.int .u64 (W (notB p) 0), .int .u64 (W (notB p) 1), .int .u64 (W (notB p) 2), .int .u64 (W (notB p) 3)])
  | 22 => some (.agg #[.int .u64 (W (q) 0), .int .u64 (W (q) 1), .int .u64 (W (q) 2), .int .u64 (W (q) 3)])
  | 23 => some (.agg #[.int .u64 (W (notB q) 0), .int .u64 (W (notB q) 1), .int .u64 (W (notB q) 2), .int .u64 (W (notB q) 3)])
  | 25 => some (.agg #[.int .u64 (W (andB (notB p) (notB q)) 0), .int .u64 (W (andB (notB p) (notB q)) 1), .int .u64 (W (andB (notB p) (notB q)) 2), .int .u64 (W (andB (notB p) (notB q)) 3)])
  | 26 => some (.bool false)
  | 27 => some (.bool false)
  | 28 => some (.agg #[.int .u64 (W (p) 0), .int .u64 (W (p) 1), .int .u64 (W (p) 2), .int .u64 (W (p) 3)])
  | 29 => some (.agg #[.int .u64 (W (p) 0), .int .u64 (W (p) 1), .int .u64 (W (p) 2), .int .u64 (W (p) 3)])
  | 30 => some (.agg #[.int .u64 (W (notB p) 0), .int .u64 (W (notB p) 1), .int .u64 (W (notB p) 2), .int .u64 (W (notB p) 3)])
  | 32 => some (.agg #[.int .u64 (W (orB p (notB p)) 0), .int .u64 (W (orB p (notB p)) 1), .int .u64 (W (orB p (notB p)) 2), .int .u64 (W (orB p (notB p)) 3)])
  | 33 => some (.agg #[.int .u64 (W (rngB 0 256) 0), .int .u64 (W (rngB 0 256) 1), .int .u64 (W (rngB 0 256) 2), .int .u64 (W (rngB 0 256) 3)])
  | 34 => some (.bool false)
  | 35 => some (.bool false)
  | 36 => some (.bool false)
  | 37 => some (.agg #[.int .u64 (W (p) 0), .int .u64 (W (p) 1), .int .u64 (W (p) 2), .int .u64 (W (p) 3)])
  | 38 => some (.agg #[.int .u64 (W (p) 0), .int .u64 (W (p) 1), .int .u64 (W (p) 2), .int .u64 (W (p) 3)])
  | 39 => some (.agg #[.int .u64 (W (notB p) 0), .int .u64 (W (notB p) 1), .int .u64 (W (notB p) 2), .int .u64 (W (notB p) 3)])
  | 41 => some (.agg #[.int .u64 (W (andB p (notB p)) 0), .int .u64 (W (andB p (notB p)) 1), .int .u64 (W (andB p (notB p)) 2), .int .u64 (W (andB p (notB p)) 3)])
  | 42 => some (.agg #[.int .u64 0, .int .u64 0, .int .u64 0, .int .u64 0])
  | 43 => some (.bool false)
  | 44 => some (.bool false)
  | 45 => some (.bool false)
  | 46 => some (.agg #[.int .u64 (W (p) 0), .int .u64 (W (p) 1), .int .u64 (W (p) 2), .int .u64 (W (p) 3)])
  | 47 => some (.agg #[.int .u64 (W (notB p) 0), .int .u64 (W (notB p) 1), .int .u64 (W (notB p) 2), .int .u64 (W (notB p) 3)])
  | 48 => some (.agg #[.int .u64 (W (notB (notB p)) 0), .int .u64 (W (notB (notB p)) 1), .int .u64 (W (notB (notB p)) 2), .int .u64 (W (notB (notB p)) 3)])
  | 49 => some (.agg #[.int .u64 (W (p) 0), .int .u64 (W (p) 1), .int .u64 (W (p) 2), .int .u64 (W (p) 3)])
  | 50 => some (.bool false)
  | 51 => some (.bool false)
  | _ => none
set_option linter.unusedVariables false in
def LwAP (g gl : Nat) (p q : Nat → Bool) (t : Nat) : Option (Value → World → Prop) :=
  match t with
  | 17 => some (Sl [p, q])
  | 24 => some (Sl [notB p, notB q])
  | 31 => some (Sl [p, notB p])
  | 40 => some (Sl [p, notB p])
  | _ => none
def LwA (g gl : Nat) (p q : Nat → Bool) (t : Nat) (v : Value) (u : World) : Prop := (∀ z9, LwAV g gl p q t = some z9 → v = z9) ∧ ∀ R, LwAP g gl p q t = some R → R v u

def LwBV (g : Nat) (p q r : Nat → Bool) (t : Nat) : Option Value :=
  match t with
  | 4 => some (.pointer (some ⟨g, 0, none⟩))
  | 5 => some (.pointer (some ⟨g + 1, 0, none⟩))
  | 6 => some (.pointer (some ⟨g + 1 + 1, 0, none⟩))
  | 52 => some (.agg #[.int .u64 (W (p) 0), .int .u64 (W (p) 1), .int .u64 (W (p) 2), .int .u64 (W (p) 3)])
  | 53 => some (.agg #[.int .u64 (W (q) 0), .int .u64 (W (q) 1), .int .u64 (W (q) 2), .int .u64 (W (q) 3)])
  | 54 => some (.agg #[.int .u64 (W (r) 0), .int .u64 (W (r) 1), .int .u64 (W (r) 2), .int .u64 (W (r) 3)])
  | 56 => some (.agg #[.int .u64 (W (orB q r) 0), .int .u64 (W (orB q r) 1), .int .u64 (W (orB q r) 2), .int .u64 (W (orB q r) 3)])
  | 58 => some (.agg #[.int .u64 (W (andB p (orB q r)) 0), .int .u64 (W (andB p (orB q r)) 1), .int .u64 (W (andB p (orB q r)) 2), .int .u64 (W (andB p (orB q r)) 3)])
  | 59 => some (.agg #[.int .u64 (W (p) 0), .int .u64 (W (p) 1), .int .u64 (W (p) 2), .int .u64 (W (p) 3)])
  | 60 => some (.agg #[.int .u64 (W (q) 0), .int .u64 (W (q) 1), .int .u64 (W (q) 2), .int .u64 (W (q) 3)])
  | 62 => some (.agg #[.int .u64 (W (andB p q) 0), .int .u64 (W (andB p q) 1), .int .u64 (W (andB p q) 2), .int .u64 (W (andB p q) 3)])
  | 63 => some (.agg #[.int .u64 (W (p) 0), .int .u64 (W (p) 1), .int .u64 (W (p) 2), .int .u64 (W (p) 3)])
  | 64 => some (.agg #[.int .u64 (W (r) 0), .int .u64 (W (r) 1), .int .u64 (W (r) 2), .int .u64 (W (r) 3)])
  | 66 => some (.agg #[.int .u64 (W (andB p r) 0), .int .u64 (W (andB p r) 1), .int .u64 (W (andB p r) 2), .int .u64 (W (andB p r) 3)])
  | 68 => some (.agg #[.int .u64 (W (orB (andB p q) (andB p r)) 0), .int .u64 (W (orB (andB p q) (andB p r)) 1), .int .u64 (W (orB (andB p q) (andB p r)) 2), .int .u64 (W (orB (andB p q) (andB p r)) 3)])
  | 69 => some (.bool false)
  | 70 => some (.bool false)
  | 71 => some (.agg #[.int .u64 (W (p) 0), .int .u64 (W (p) 1), .int .u64 (W (p) 2), .int .u64 (W (p) 3)])
  | 72 => some (.agg #[.int .u64 (W (q) 0), .int .u64 (W (q) 1), .int .u64 (W (q) 2), .int .u64 (W (q) 3)])
  | 73 => some (.agg #[.int .u64 (W (r) 0), .int .u64 (W (r) 1), .int .u64 (W (r) 2), .int .u64 (W (r) 3)])
  | 75 => some (.agg #[.int .u64 (W (anyB [p, q, r]) 0), .int .u64 (W (anyB [p, q, r]) 1), .int .u64 (W (anyB [p, q, r]) 2), .int .u64 (W (anyB [p, q, r]) 3)])
  | 76 => some (.agg #[.int .u64 (W (r) 0), .int .u64 (W (r) 1), .int .u64 (W (r) 2), .int .u64 (W (r) 3)])
  | 77 => some (.agg #[.int .u64 (W (p) 0), .int .u64 (W (p) 1), .int .u64 (W (p) 2), .int .u64 (W (p) 3)])
  | 78 => some (.agg #[.int .u64 (W (q) 0), .int .u64 (W (q) 1), .int .u64 (W (q) 2), .int .u64 (W (q) 3)])
  | 80 => some (.agg #[.int .u64 (W (anyB [r, p, q]) 0), .int .u64 (W (anyB [r, p, q]) 1), .int .u64 (W (anyB [r, p, q]) 2), .int .u64 (W (anyB [r, p, q]) 3)])
  | 81 => some (.bool false)
  | 82 => some (.bool false)
  | _ => none
set_option linter.unusedVariables false in
def LwBP (g : Nat) (p q r : Nat → Bool) (t : Nat) : Option (Value → World → Prop) :=
  match t with
  | 55 => some (Sl [q, r])
  | 57 => some (Sl [p, orB q r])
  | 61 => some (Sl [p, q])
  | 65 => some (Sl [p, r])
  | 67 => some (Sl [andB p q, andB p r])
  | 74 => some (Sl [p, q, r])
  | 79 => some (Sl [r, p, q])
  | _ => none
def LwB (g : Nat) (p q r : Nat → Bool) (t : Nat) (v : Value) (u : World) : Prop := (∀ z9, LwBV g p q r t = some z9 → v = z9) ∧ ∀ R, LwBP g p q r t = some R → R v u

def LwCV (g : Nat) (p q : Nat → Bool) (x : Int) (t : Nat) : Option Value :=
  match t with
  | 3 => some (.int .u8 x)
  | 4 => some (.pointer (some ⟨g, 0, none⟩))
  | 5 => some (.pointer (some ⟨g + 1, 0, none⟩))
  | 11 => some (.bool (p x.toNat))
  | 12 => some (.bool (q x.toNat))
  | 83 => some (.agg #[.int .u64 (W (p) 0), .int .u64 (W (p) 1), .int .u64 (W (p) 2), .int .u64 (W (p) 3)])
  | 84 => some (.int .u8 x)
  | 85 => some (.bool (p x.toNat))
  | 86 => some (.agg #[.int .u64 (W (q) 0), .int .u64 (W (q) 1), .int .u64 (W (q) 2), .int .u64 (W (q) 3)])
  | 87 => some (.int .u8 x)
  | 88 => some (.bool (q x.toNat))
  | _ => none
set_option linter.unusedVariables false in
def LwCP (g : Nat) (p q : Nat → Bool) (x : Int) (t : Nat) : Option (Value → World → Prop) :=
  match t with
  | _ => none
def LwC (g : Nat) (p q : Nat → Bool) (x : Int) (t : Nat) (v : Value) (u : World) : Prop := (∀ z9, LwCV g p q x t = some z9 → v = z9) ∧ ∀ R, LwCP g p q x t = some R → R v u

def LwDV (g : Nat) (p q : Nat → Bool) (x : Int) (pb qb : Bool) (t : Nat) : Option Value :=
  match t with
  | 3 => some (.int .u8 x)
  | 4 => some (.pointer (some ⟨g, 0, none⟩))
  | 5 => some (.pointer (some ⟨g + 1, 0, none⟩))
  | 8 => some (.bool true)
  | 9 => some (.bool true)
  | 11 => some (.bool pb)
  | 12 => some (.bool qb)
  | 89 => some (.bool true)
  | 90 => some (.bool true)
  | 91 => some (.agg #[.int .u64 (W (p) 0), .int .u64 (W (p) 1), .int .u64 (W (p) 2), .int .u64 (W (p) 3)])
  | 92 => some (.agg #[.int .u64 (W (q) 0), .int .u64 (W (q) 1), .int .u64 (W (q) 2), .int .u64 (W (q) 3)])
  | 94 => some (.agg #[.int .u64 (W (orB p q) 0), .int .u64 (W (orB p q) 1), .int .u64 (W (orB p q) 2), .int .u64 (W (orB p q) 3)])
  | 95 => some (.int .u8 x)
  | 96 => some (.bool (pb || qb))
  | 97 => some (.bool pb)
  | 98 => some (.bool pb)
  | 100 => some (.bool (pb || qb))
  | 101 => some (.bool true)
  | 102 => some (.bool true)
  | 103 => some (.bool true)
  | 104 => some (.agg #[.int .u64 (W (p) 0), .int .u64 (W (p) 1), .int .u64 (W (p) 2), .int .u64 (W (p) 3)])
  | 105 => some (.agg #[.int .u64 (W (q) 0), .int .u64 (W (q) 1), .int .u64 (W (q) 2), .int .u64 (W (q) 3)])
  | 107 => some (.agg #[.int .u64 (W (andB p q) 0), .int .u64 (W (andB p q) 1), .int .u64 (W (andB p q) 2), .int .u64 (W (andB p q) 3)])
  | 108 => some (.int .u8 x)
  | 109 => some (.bool (pb && qb))
  | 110 => some (.bool pb)
  | 111 => some (.bool pb)
  | 113 => some (.bool (pb && qb))
  | 114 => some (.bool true)
  | 115 => some (.bool true)
  | 116 => some (.bool true)
  | 117 => some (.agg #[.int .u64 (W (p) 0), .int .u64 (W (p) 1), .int .u64 (W (p) 2), .int .u64 (W (p) 3)])
  | 118 => some (.agg #[.int .u64 (W (notB p) 0), .int .u64 (W (notB p) 1), .int .u64 (W (notB p) 2), .int .u64 (W (notB p) 3)])
  | 119 => some (.int .u8 x)
  | 120 => some (.bool (!pb))
  | 121 => some (.bool pb)
  | 122 => some (.bool (!pb))
  | 123 => some (.bool true)
  | 124 => some (.bool true)
  | _ => none
set_option linter.unusedVariables false in
def LwDP (g : Nat) (p q : Nat → Bool) (x : Int) (pb qb : Bool) (t : Nat) : Option (Value → World → Prop) :=
  match t with
  | 93 => some (Sl [p, q])
  | 99 => some (fun v _ => pb = false → v = .bool qb)
  | 106 => some (Sl [p, q])
  | 112 => some (fun v _ => pb = true → v = .bool qb)
  | _ => none
def LwD (g : Nat) (p q : Nat → Bool) (x : Int) (pb qb : Bool) (t : Nat) (v : Value) (u : World) : Prop := (∀ z9, LwDV g p q x pb qb t = some z9 → v = z9) ∧ ∀ R, LwDP g p q x pb qb t = some R → R v u

set_option maxRecDepth 100000 in
set_option maxHeartbeats 8000000 in
theorem laws_any (p q r : Nat → Bool) (x : Int) (w : World) (x0 : 0 ≤ x) (x1 : x ≤ 255) :
    Calls Try.prog 6 #[.agg #[.int .u64 (W (p) 0), .int .u64 (W (p) 1), .int .u64 (W (p) 2), .int .u64 (W (p) 3)], .agg #[.int .u64 (W (q) 0), .int .u64 (W (q) 1), .int .u64 (W (q) 2), .int .u64 (W (q) 3)], .agg #[.int .u64 (W (r) 0), .int .u64 (W (r) 1), .int .u64 (W (r) 2), .int .u64 (W (r) 3)], .int .u8 x] w fun e w' => e = .returned (.bool true) ∧ Below w.heap.size w w' := by
  go_enter Try.func6, Try.ntmps6
  go_wp2_with fail
  have R0 := ((Row4.new w p).alloc (.cells (#[.int .u64 (W (q) 0), .int .u64 (W (q) 1), .int .u64 (W (q) 2), .int .u64 (W (q) 3)]) 27)).alloc (.cells (#[.int .u64 (W (r) 0), .int .u64 (W (r) 1), .int .u64 (W (r) 2), .int .u64 (W (r) 3)]) 27)
  have R1 := (Row4.new (w.alloc (.cells (#[.int .u64 (W (p) 0), .int .u64 (W (p) 1), .int .u64 (W (p) 2), .int .u64 (W (p) 3)]) 27)) q).alloc (.cells (#[.int .u64 (W (r) 0), .int .u64 (W (r) 1), .int .u64 (W (r) 2), .int .u64 (W (r) 3)]) 27)
  have R2 := Row4.new ((w.alloc (.cells (#[.int .u64 (W (p) 0), .int .u64 (W (p) 1), .int .u64 (W (p) 2), .int .u64 (W (p) 3)]) 27)).alloc (.cells (#[.int .u64 (W (q) 0), .int .u64 (W (q) 1), .int .u64 (W (q) 2), .int .u64 (W (q) 3)]) 27)) r
  rw [World.size_alloc] at R1
  rw [World.size_alloc, World.size_alloc] at R2
  refine (shown_any _).mono ?_
  rintro e w1 ⟨rfl, hb1⟩
  have Q0 := R0.below hb1 R0.lt
  have Q1 := R1.below hb1 R1.lt
  have Q2 := R2.below hb1 R2.lt
  have D1 := bel1 (bel1 (bel1 hb1))
  clear R0 R1 R2 hb1
  go_wp2_with fail
  refine (range_any 0 255 _ (by omega) (by omega) (by omega) (by omega)).mono ?_
  rintro e w2 ⟨rfl, hb2⟩
  have HS : LawS w p q r w2.heap.size (w2.alloc (.cells (#[.int .u64 (W (rngB 0 256) 0), .int .u64 (W (rngB 0 256) 1), .int .u64 (W (rngB 0 256) 2), .int .u64 (W (rngB 0 256) 3)]) 27)) := ⟨⟨(Q0.below hb2 Q0.lt).alloc _, (Q1.below hb2 Q1.lt).alloc _, (Q2.below hb2 Q2.lt).alloc _, Row4.new w2 _⟩, (D1.trans (hb2.mono D1.size)).alloc (D1.trans (hb2.mono D1.size)).size _⟩
  clear Q0 Q1 Q2 D1 hb2
  go_wp2
  generalize w2.alloc (.cells (#[.int .u64 (W (rngB 0 256) 0), .int .u64 (W (rngB 0 256) 1), .int .u64 (W (rngB 0 256) 2), .int .u64 (W (rngB 0 256) 3)]) 27) = v0 at *
  generalize w2.heap.size = gl at *
  refine wp_region_slots (LawS w p q r gl) (LwA w.heap.size gl p q) (by kernel_rfl) (by kernel_rfl) (by kernel_rfl) ?_ ⟨HS.box.drew, HS.bel.drew⟩ [4, 5, 10] (by kernel_rfl) ?_ ?_ ?_
  · intro t v u u' h hb
    refine ⟨h.1, fun R hR => ?_⟩
    have hh := h.2 R hR
    unfold LwAP at hR
    split at hR
    · cases hR; exact hh.below hb
    · cases hR; exact hh.below hb
    · cases hR; exact hh.below hb
    · cases hR; exact hh.below hb
    · cases hR
  · intro u _
    refine ⟨⟨_, rfl, ?_⟩, ⟨_, rfl, ?_⟩, ⟨_, rfl, ?_⟩, trivial⟩ <;> exact ⟨fun _ h => Option.some.inj h, fun _ h => no_some h⟩
  · refine ⟨?_, ?_, ?_, ?_, ?_, ?_, ?_, ?_, ?_, ?_, ?_, ?_, ?_, ?_, ?_, ?_, ?_, ?_, ?_, ?_, ?_, ?_, ?_, ?_, ?_, ?_, ?_, ?_, ?_, ?_, ?_, ?_, ?_, ?_, ?_, ?_, ?_, trivial⟩
    · intro a u hS hr K hK
      obtain ⟨⟨vl0, e0, g0⟩, -⟩ := hr
      obtain rfl := g0.1 _ rfl
      clear g0
      rw [if_pos (want_none rfl)]
      obtain ⟨⟨r0, r1, r2, r3⟩, ⟨s0, s1, s2, s3⟩, ⟨t0, t1, t2, t3⟩, v0, v1, v2, v3⟩ := hS.box.cells
      unfold Oper.wp
      go_simp
      exact hK _ _ ⟨fun _ h => Option.some.inj h, fun _ h => no_some h⟩ hS (Below.refl _ _)
    · intro a u hS hr K hK
      obtain ⟨⟨vl0, e0, g0⟩, -⟩ := hr
      obtain rfl := g0.1 _ rfl
      clear g0
      rw [if_pos (want_none rfl)]
      obtain ⟨⟨r0, r1, r2, r3⟩, ⟨s0, s1, s2, s3⟩, ⟨t0, t1, t2, t3⟩, v0, v1, v2, v3⟩ := hS.box.cells
      unfold Oper.wp
      go_simp
      exact hK _ _ ⟨fun _ h => Option.some.inj h, fun _ h => no_some h⟩ hS (Below.refl _ _)
    · intro a u hS hr K hK
      obtain ⟨⟨vl0, e0, g0⟩, ⟨vl1, e1, g1⟩, -⟩ := hr
      obtain rfl := g0.1 _ rfl
      clear g0
      obtain rfl := g1.1 _ rfl
      clear g1
      rw [if_pos (want_none rfl)]
      unfold Oper.wp
      go_simp
      exact hK _ _ ⟨fun _ h => no_some h, fun _ h => spec_ok h (Sl.two p q _)⟩ (hS.below ((Below.refl _ _).alloc (Nat.le_refl _) _)) ((Below.refl _ _).alloc (Nat.le_refl _) _)
    · intro a u hS hr K hK
      obtain ⟨⟨vl0, e0, g0⟩, -⟩ := hr
      replace g0 := g0.2 _ rfl
      rw [if_pos (want_none rfl)]
      unfold Oper.wp
      go_simp
      refine (or_sl g0).mono ?_
      rintro e u1 ⟨rfl, hb⟩
      exact hK _ _ ⟨fun _ h => Option.some.inj h, fun _ h => no_some h⟩ (hS.below hb) hb
    · intro a u hS hr K hK
      obtain ⟨⟨vl0, e0, g0⟩, -⟩ := hr
      obtain rfl := g0.1 _ rfl
      clear g0
      rw [if_pos (want_none rfl)]
      unfold Oper.wp
      go_simp
      refine (not_any _ _).mono ?_
      rintro e u1 ⟨rfl, hb⟩
      exact hK _ _ ⟨fun _ h => Option.some.inj h, fun _ h => no_some h⟩ (hS.below hb) hb
    · intro a u hS hr K hK
      obtain ⟨⟨vl0, e0, g0⟩, -⟩ := hr
      obtain rfl := g0.1 _ rfl
      clear g0
      rw [if_pos (want_none rfl)]
      obtain ⟨⟨r0, r1, r2, r3⟩, ⟨s0, s1, s2, s3⟩, ⟨t0, t1, t2, t3⟩, v0, v1, v2, v3⟩ := hS.box.cells
      unfold Oper.wp
      go_simp
      exact hK _ _ ⟨fun _ h => Option.some.inj h, fun _ h => no_some h⟩ hS (Below.refl _ _)
    · intro a u hS hr K hK
      obtain ⟨⟨vl0, e0, g0⟩, -⟩ := hr
      obtain rfl := g0.1 _ rfl
      clear g0
      rw [if_pos (want_none rfl)]
      unfold Oper.wp
      go_simp
      refine (not_any _ _).mono ?_
      rintro e u1 ⟨rfl, hb⟩
      exact hK _ _ ⟨fun _ h => Option.some.inj h, fun _ h => no_some h⟩ (hS.below hb) hb
    · intro a u hS hr K hK
      obtain ⟨⟨vl0, e0, g0⟩, -⟩ := hr
      obtain rfl := g0.1 _ rfl
      clear g0
      rw [if_pos (want_none rfl)]
      obtain ⟨⟨r0, r1, r2, r3⟩, ⟨s0, s1, s2, s3⟩, ⟨t0, t1, t2, t3⟩, v0, v1, v2, v3⟩ := hS.box.cells
      unfold Oper.wp
      go_simp
      exact hK _ _ ⟨fun _ h => Option.some.inj h, fun _ h => no_some h⟩ hS (Below.refl _ _)
    · intro a u hS hr K hK
      obtain ⟨⟨vl0, e0, g0⟩, -⟩ := hr
      obtain rfl := g0.1 _ rfl
      clear g0
      rw [if_pos (want_none rfl)]
      unfold Oper.wp
      go_simp
      refine (not_any _ _).mono ?_
      rintro e u1 ⟨rfl, hb⟩
      exact hK _ _ ⟨fun _ h => Option.some.inj h, fun _ h => no_some h⟩ (hS.below hb) hb
    · intro a u hS hr K hK
      obtain ⟨⟨vl0, e0, g0⟩, ⟨vl1, e1, g1⟩, -⟩ := hr
      obtain rfl := g0.1 _ rfl
      clear g0
      obtain rfl := g1.1 _ rfl
      clear g1
      rw [if_pos (want_none rfl)]
      unfold Oper.wp
      go_simp
      exact hK _ _ ⟨fun _ h => no_some h, fun _ h => spec_ok h (Sl.two (notB p) (notB q) _)⟩ (hS.below ((Below.refl _ _).alloc (Nat.le_refl _) _)) ((Below.refl _ _).alloc (Nat.le_refl _) _)
    · intro a u hS hr K hK
      obtain ⟨⟨vl0, e0, g0⟩, -⟩ := hr
      replace g0 := g0.2 _ rfl
      rw [if_pos (want_none rfl)]
      unfold Oper.wp
      go_simp
      refine (and_sl g0).mono ?_
      rintro e u1 ⟨rfl, hb⟩
      exact hK _ _ ⟨fun _ h => Option.some.inj h, fun _ h => no_some h⟩ (hS.below hb) hb
    · intro a u hS hr K hK
      obtain ⟨⟨vl0, e0, g0⟩, ⟨vl1, e1, g1⟩, -⟩ := hr
      obtain rfl := g0.1 _ rfl
      clear g0
      obtain rfl := g1.1 _ rfl
      clear g1
      rw [if_pos (want_none rfl)]
      have z := neq_no (law_or p q)
      have hg := guard27
      unfold Oper.wp
      go_simp
      exact hK _ _ ⟨fun _ h => Option.some.inj h, fun _ h => no_some h⟩ hS (Below.refl _ _)
    · intro a u hS hr K hK
      obtain ⟨⟨vl0, e0, g0⟩, -⟩ := hr
      obtain rfl := g0.1 _ rfl
      clear g0
      rw [if_pos (want_none rfl)]
      unfold Oper.wp
      go_simp
      exact hK _ _ ⟨fun _ h => Option.some.inj h, fun _ h => no_some h⟩ hS (Below.refl _ _)
    · intro a u hS hr K hK
      obtain ⟨⟨vl0, e0, g0⟩, ⟨vl1, e1, g1⟩, -⟩ := hr
      obtain rfl := g0.1 _ rfl
      clear g0
      obtain rfl := g1.1 _ rfl
      clear g1
      rw [if_pos (want_some rfl rfl rfl e1)]
      obtain ⟨⟨r0, r1, r2, r3⟩, ⟨s0, s1, s2, s3⟩, ⟨t0, t1, t2, t3⟩, v0, v1, v2, v3⟩ := hS.box.cells
      unfold Oper.wp
      go_simp
      exact hK _ _ ⟨fun _ h => Option.some.inj h, fun _ h => no_some h⟩ hS (Below.refl _ _)
    · intro a u hS hr K hK
      obtain ⟨⟨vl0, e0, g0⟩, ⟨vl1, e1, g1⟩, -⟩ := hr
      obtain rfl := g0.1 _ rfl
      clear g0
      obtain rfl := g1.1 _ rfl
      clear g1
      rw [if_pos (want_some rfl rfl rfl e1)]
      obtain ⟨⟨r0, r1, r2, r3⟩, ⟨s0, s1, s2, s3⟩, ⟨t0, t1, t2, t3⟩, v0, v1, v2, v3⟩ := hS.box.cells
      unfold Oper.wp
      go_simp
      exact hK _ _ ⟨fun _ h => Option.some.inj h, fun _ h => no_some h⟩ hS (Below.refl _ _)
    · intro a u hS hr K hK
      obtain ⟨⟨vl0, e0, g0⟩, ⟨vl1, e1, g1⟩, -⟩ := hr
      obtain rfl := g0.1 _ rfl
      clear g0
      obtain rfl := g1.1 _ rfl
      clear g1
      rw [if_pos (want_some rfl rfl rfl e1)]
      unfold Oper.wp
      go_simp
      refine (not_any _ _).mono ?_
      rintro e u1 ⟨rfl, hb⟩
      exact hK _ _ ⟨fun _ h => Option.some.inj h, fun _ h => no_some h⟩ (hS.below hb) hb
    · intro a u hS hr K hK
      obtain ⟨⟨vl0, e0, g0⟩, ⟨vl1, e1, g1⟩, ⟨vl2, e2, g2⟩, -⟩ := hr
      obtain rfl := g0.1 _ rfl
      clear g0
      obtain rfl := g1.1 _ rfl
      clear g1
      obtain rfl := g2.1 _ rfl
      clear g2
      rw [if_pos (want_some rfl rfl rfl e2)]
      unfold Oper.wp
      go_simp
      exact hK _ _ ⟨fun _ h => no_some h, fun _ h => spec_ok h (Sl.two p (notB p) _)⟩ (hS.below ((Below.refl _ _).alloc (Nat.le_refl _) _)) ((Below.refl _ _).alloc (Nat.le_refl _) _)
    · intro a u hS hr K hK
      obtain ⟨⟨vl0, e0, g0⟩, ⟨vl1, e1, g1⟩, -⟩ := hr
      replace g0 := g0.2 _ rfl
      obtain rfl := g1.1 _ rfl
      clear g1
      rw [if_pos (want_some rfl rfl rfl e1)]
      unfold Oper.wp
      go_simp
      refine (or_sl g0).mono ?_
      rintro e u1 ⟨rfl, hb⟩
      exact hK _ _ ⟨fun _ h => Option.some.inj h, fun _ h => no_some h⟩ (hS.below hb) hb
    · intro a u hS hr K hK
      obtain ⟨⟨vl0, e0, g0⟩, ⟨vl1, e1, g1⟩, -⟩ := hr
      obtain rfl := g0.1 _ rfl
      clear g0
      obtain rfl := g1.1 _ rfl
      clear g1
      rw [if_pos (want_some rfl rfl rfl e1)]
      obtain ⟨⟨r0, r1, r2, r3⟩, ⟨s0, s1, s2, s3⟩, ⟨t0, t1, t2, t3⟩, v0, v1, v2, v3⟩ := hS.box.cells
      unfold Oper.wp
      go_simp
      exact hK _ _ ⟨fun _ h => Option.some.inj h, fun _ h => no_some h⟩ hS (Below.refl _ _)
    · intro a u hS hr K hK
      obtain ⟨⟨vl0, e0, g0⟩, ⟨vl1, e1, g1⟩, ⟨vl2, e2, g2⟩, -⟩ := hr
      obtain rfl := g0.1 _ rfl
      clear g0
      obtain rfl := g1.1 _ rfl
      clear g1
      obtain rfl := g2.1 _ rfl
      clear g2
      rw [if_pos (want_some rfl rfl rfl e2)]
      have z := neq_no (law_all p)
      have hg := guard27
      unfold Oper.wp
      go_simp
      exact hK _ _ ⟨fun _ h => Option.some.inj h, fun _ h => no_some h⟩ hS (Below.refl _ _)
    · intro a u hS hr K hK
      obtain ⟨⟨vl0, e0, g0⟩, ⟨vl1, e1, g1⟩, -⟩ := hr
      obtain rfl := g0.1 _ rfl
      clear g0
      obtain rfl := g1.1 _ rfl
      clear g1
      rw [if_pos (want_none rfl)]
      unfold Oper.wp
      go_simp
      exact hK _ _ ⟨fun _ h => Option.some.inj h, fun _ h => no_some h⟩ hS (Below.refl _ _)
    · intro a u hS hr K hK
      obtain ⟨⟨vl0, e0, g0⟩, -⟩ := hr
      obtain rfl := g0.1 _ rfl
      clear g0
      rw [if_pos (want_none rfl)]
      unfold Oper.wp
      go_simp
      exact hK _ _ ⟨fun _ h => Option.some.inj h, fun _ h => no_some h⟩ hS (Below.refl _ _)
    · intro a u hS hr K hK
      obtain ⟨⟨vl0, e0, g0⟩, ⟨vl1, e1, g1⟩, -⟩ := hr
      obtain rfl := g0.1 _ rfl
      clear g0
      obtain rfl := g1.1 _ rfl
      clear g1
      rw [if_pos (want_some rfl rfl rfl e1)]
      obtain ⟨⟨r0, r1, r2, r3⟩, ⟨s0, s1, s2, s3⟩, ⟨t0, t1, t2, t3⟩, v0, v1, v2, v3⟩ := hS.box.cells
      unfold Oper.wp
      go_simp
      exact hK _ _ ⟨fun _ h => Option.some.inj h, fun _ h => no_some h⟩ hS (Below.refl _ _)
    · intro a u hS hr K hK
      obtain ⟨⟨vl0, e0, g0⟩, ⟨vl1, e1, g1⟩, -⟩ := hr
      obtain rfl := g0.1 _ rfl
      clear g0
      obtain rfl := g1.1 _ rfl
      clear g1
      rw [if_pos (want_some rfl rfl rfl e1)]
      obtain ⟨⟨r0, r1, r2, r3⟩, ⟨s0, s1, s2, s3⟩, ⟨t0, t1, t2, t3⟩, v0, v1, v2, v3⟩ := hS.box.cells
      unfold Oper.wp
      go_simp
      exact hK _ _ ⟨fun _ h => Option.some.inj h, fun _ h => no_some h⟩ hS (Below.refl _ _)
    · intro a u hS hr K hK
      obtain ⟨⟨vl0, e0, g0⟩, ⟨vl1, e1, g1⟩, -⟩ := hr
      obtain rfl := g0.1 _ rfl
      clear g0
      obtain rfl := g1.1 _ rfl
      clear g1
      rw [if_pos (want_some rfl rfl rfl e1)]
      unfold Oper.wp
      go_simp
      refine (not_any _ _).mono ?_
      rintro e u1 ⟨rfl, hb⟩
      exact hK _ _ ⟨fun _ h => Option.some.inj h, fun _ h => no_some h⟩ (hS.below hb) hb
    · intro a u hS hr K hK
      obtain ⟨⟨vl0, e0, g0⟩, ⟨vl1, e1, g1⟩, ⟨vl2, e2, g2⟩, -⟩ := hr
      obtain rfl := g0.1 _ rfl
      clear g0
      obtain rfl := g1.1 _ rfl
      clear g1
      obtain rfl := g2.1 _ rfl
      clear g2
      rw [if_pos (want_some rfl rfl rfl e2)]
      unfold Oper.wp
      go_simp
      exact hK _ _ ⟨fun _ h => no_some h, fun _ h => spec_ok h (Sl.two p (notB p) _)⟩ (hS.below ((Below.refl _ _).alloc (Nat.le_refl _) _)) ((Below.refl _ _).alloc (Nat.le_refl _) _)
    · intro a u hS hr K hK
      obtain ⟨⟨vl0, e0, g0⟩, ⟨vl1, e1, g1⟩, -⟩ := hr
      replace g0 := g0.2 _ rfl
      obtain rfl := g1.1 _ rfl
      clear g1
      rw [if_pos (want_some rfl rfl rfl e1)]
      unfold Oper.wp
      go_simp
      refine (and_sl g0).mono ?_
      rintro e u1 ⟨rfl, hb⟩
      exact hK _ _ ⟨fun _ h => Option.some.inj h, fun _ h => no_some h⟩ (hS.below hb) hb
    · intro a u hS hr K hK
      obtain ⟨⟨vl0, e0, g0⟩, -⟩ := hr
      obtain rfl := g0.1 _ rfl
      clear g0
      rw [if_pos (want_some rfl rfl rfl e0)]
      unfold Oper.wp
      go_simp
      exact hK _ _ ⟨fun _ h => Option.some.inj h, fun _ h => no_some h⟩ hS (Below.refl _ _)
    · intro a u hS hr K hK
      obtain ⟨⟨vl0, e0, g0⟩, ⟨vl1, e1, g1⟩, ⟨vl2, e2, g2⟩, -⟩ := hr
      obtain rfl := g0.1 _ rfl
      clear g0
      obtain rfl := g1.1 _ rfl
      clear g1
      obtain rfl := g2.1 _ rfl
      clear g2
      rw [if_pos (want_some rfl rfl rfl e2)]
      have z := neq_zero (law_none p)
      have hg := guard27
      unfold Oper.wp
      go_simp
      exact hK _ _ ⟨fun _ h => Option.some.inj h, fun _ h => no_some h⟩ hS (Below.refl _ _)
    · intro a u hS hr K hK
      obtain ⟨⟨vl0, e0, g0⟩, ⟨vl1, e1, g1⟩, -⟩ := hr
      obtain rfl := g0.1 _ rfl
      clear g0
      obtain rfl := g1.1 _ rfl
      clear g1
      rw [if_pos (want_none rfl)]
      unfold Oper.wp
      go_simp
      exact hK _ _ ⟨fun _ h => Option.some.inj h, fun _ h => no_some h⟩ hS (Below.refl _ _)
    · intro a u hS hr K hK
      obtain ⟨⟨vl0, e0, g0⟩, -⟩ := hr
      obtain rfl := g0.1 _ rfl
      clear g0
      rw [if_pos (want_none rfl)]
      unfold Oper.wp
      go_simp
      exact hK _ _ ⟨fun _ h => Option.some.inj h, fun _ h => no_some h⟩ hS (Below.refl _ _)
    · intro a u hS hr K hK
      obtain ⟨⟨vl0, e0, g0⟩, ⟨vl1, e1, g1⟩, -⟩ := hr
      obtain rfl := g0.1 _ rfl
      clear g0
      obtain rfl := g1.1 _ rfl
      clear g1
      rw [if_pos (want_some rfl rfl rfl e1)]
      obtain ⟨⟨r0, r1, r2, r3⟩, ⟨s0, s1, s2, s3⟩, ⟨t0, t1, t2, t3⟩, v0, v1, v2, v3⟩ := hS.box.cells
      unfold Oper.wp
      go_simp
      exact hK _ _ ⟨fun _ h => Option.some.inj h, fun _ h => no_some h⟩ hS (Below.refl _ _)
    · intro a u hS hr K hK
      obtain ⟨⟨vl0, e0, g0⟩, ⟨vl1, e1, g1⟩, -⟩ := hr
      obtain rfl := g0.1 _ rfl
      clear g0
      obtain rfl := g1.1 _ rfl
      clear g1
      rw [if_pos (want_some rfl rfl rfl e1)]
      unfold Oper.wp
      go_simp
      refine (not_any _ _).mono ?_
      rintro e u1 ⟨rfl, hb⟩
      exact hK _ _ ⟨fun _ h => Option.some.inj h, fun _ h => no_some h⟩ (hS.below hb) hb
    · intro a u hS hr K hK
      obtain ⟨⟨vl0, e0, g0⟩, ⟨vl1, e1, g1⟩, -⟩ := hr
      obtain rfl := g0.1 _ rfl
      clear g0
      obtain rfl := g1.1 _ rfl
      clear g1
      rw [if_pos (want_some rfl rfl rfl e1)]
      unfold Oper.wp
      go_simp
      refine (not_any _ _).mono ?_
      rintro e u1 ⟨rfl, hb⟩
      exact hK _ _ ⟨fun _ h => Option.some.inj h, fun _ h => no_some h⟩ (hS.below hb) hb
    · intro a u hS hr K hK
      obtain ⟨⟨vl0, e0, g0⟩, ⟨vl1, e1, g1⟩, -⟩ := hr
      obtain rfl := g0.1 _ rfl
      clear g0
      obtain rfl := g1.1 _ rfl
      clear g1
      rw [if_pos (want_some rfl rfl rfl e1)]
      obtain ⟨⟨r0, r1, r2, r3⟩, ⟨s0, s1, s2, s3⟩, ⟨t0, t1, t2, t3⟩, v0, v1, v2, v3⟩ := hS.box.cells
      unfold Oper.wp
      go_simp
      exact hK _ _ ⟨fun _ h => Option.some.inj h, fun _ h => no_some h⟩ hS (Below.refl _ _)
    · intro a u hS hr K hK
      obtain ⟨⟨vl0, e0, g0⟩, ⟨vl1, e1, g1⟩, ⟨vl2, e2, g2⟩, -⟩ := hr
      obtain rfl := g0.1 _ rfl
      clear g0
      obtain rfl := g1.1 _ rfl
      clear g1
      obtain rfl := g2.1 _ rfl
      clear g2
      rw [if_pos (want_some rfl rfl rfl e2)]
      have z := neq_no (law_twice p)
      have hg := guard27
      unfold Oper.wp
      go_simp
      exact hK _ _ ⟨fun _ h => Option.some.inj h, fun _ h => no_some h⟩ hS (Below.refl _ _)
    · intro a u hS hr K hK
      obtain ⟨⟨vl0, e0, g0⟩, ⟨vl1, e1, g1⟩, -⟩ := hr
      obtain rfl := g0.1 _ rfl
      clear g0
      obtain rfl := g1.1 _ rfl
      clear g1
      rw [if_pos (want_none rfl)]
      unfold Oper.wp
      go_simp
      exact hK _ _ ⟨fun _ h => Option.some.inj h, fun _ h => no_some h⟩ hS (Below.refl _ _)
  intro a u hS hts hd hkn hf
  obtain ⟨v51, e51, g51⟩ := hf 36 _ 51 rfl rfl
  obtain rfl := g51.1 _ rfl
  have k3 := (hkn 3 (no_dst (by kernel_rfl))).trans (show _ = some (Value.int .u8 x) from rfl)
  have k4 := (hkn 4 (no_dst (by kernel_rfl))).trans (show _ = some (Value.pointer (some ⟨w.heap.size, 0, none⟩)) from rfl)
  have k5 := (hkn 5 (no_dst (by kernel_rfl))).trans (show _ = some (Value.pointer (some ⟨w.heap.size + 1, 0, none⟩)) from rfl)
  have k6 := (hkn 6 (no_dst (by kernel_rfl))).trans (show _ = some (Value.pointer (some ⟨w.heap.size + 1 + 1, 0, none⟩)) from rfl)
  have k9 := (hkn 9 (no_dst (by kernel_rfl))).trans (show _ = some (Value.bool true) from rfl)
  have hts' : a.tmps.size = 125 := hts
  have hd' : a.defers = [] := hd
  clear hf hkn g51 HS hts hd
  go_wp2
  refine wp_cond_false (eval_at e51) (wp_skip ?_)
  go_wp2
  refine wp_region_slots (LawS w p q r gl) (LwB w.heap.size p q r) (by kernel_rfl) (by rw [hts']; kernel_rfl) (by kernel_rfl) ?_ ⟨hS.box.drew, hS.bel.drew⟩ [4, 5, 6] (by kernel_rfl) ?_ ?_ ?_
  · intro t v u u' h hb
    refine ⟨h.1, fun R hR => ?_⟩
    have hh := h.2 R hR
    unfold LwBP at hR
    split at hR
    · cases hR; exact hh.below hb
    · cases hR; exact hh.below hb
    · cases hR; exact hh.below hb
    · cases hR; exact hh.below hb
    · cases hR; exact hh.below hb
    · cases hR; exact hh.below hb
    · cases hR; exact hh.below hb
    · cases hR
  · intro u _
    refine ⟨⟨_, k4, ?_⟩, ⟨_, k5, ?_⟩, ⟨_, k6, ?_⟩, trivial⟩ <;> exact ⟨fun _ h => Option.some.inj h, fun _ h => no_some h⟩
  · refine ⟨?_, ?_, ?_, ?_, ?_, ?_, ?_, ?_, ?_, ?_, ?_, ?_, ?_, ?_, ?_, ?_, ?_, ?_, ?_, ?_, ?_, ?_, ?_, ?_, ?_, ?_, ?_, ?_, ?_, ?_, ?_, trivial⟩
    · intro a u hS hr K hK
      obtain ⟨⟨vl0, e0, g0⟩, -⟩ := hr
      obtain rfl := g0.1 _ rfl
      clear g0
      rw [if_pos (want_none rfl)]
      obtain ⟨⟨r0, r1, r2, r3⟩, ⟨s0, s1, s2, s3⟩, ⟨t0, t1, t2, t3⟩, v0, v1, v2, v3⟩ := hS.box.cells
      unfold Oper.wp
      go_simp
      exact hK _ _ ⟨fun _ h => Option.some.inj h, fun _ h => no_some h⟩ hS (Below.refl _ _)
    · intro a u hS hr K hK
      obtain ⟨⟨vl0, e0, g0⟩, -⟩ := hr
      obtain rfl := g0.1 _ rfl
      clear g0
      rw [if_pos (want_none rfl)]
      obtain ⟨⟨r0, r1, r2, r3⟩, ⟨s0, s1, s2, s3⟩, ⟨t0, t1, t2, t3⟩, v0, v1, v2, v3⟩ := hS.box.cells
      unfold Oper.wp
      go_simp
      exact hK _ _ ⟨fun _ h => Option.some.inj h, fun _ h => no_some h⟩ hS (Below.refl _ _)
    · intro a u hS hr K hK
      obtain ⟨⟨vl0, e0, g0⟩, -⟩ := hr
      obtain rfl := g0.1 _ rfl
      clear g0
      rw [if_pos (want_none rfl)]
      obtain ⟨⟨r0, r1, r2, r3⟩, ⟨s0, s1, s2, s3⟩, ⟨t0, t1, t2, t3⟩, v0, v1, v2, v3⟩ := hS.box.cells
      unfold Oper.wp
      go_simp
      exact hK _ _ ⟨fun _ h => Option.some.inj h, fun _ h => no_some h⟩ hS (Below.refl _ _)
    · intro a u hS hr K hK
      obtain ⟨⟨vl0, e0, g0⟩, ⟨vl1, e1, g1⟩, -⟩ := hr
      obtain rfl := g0.1 _ rfl
      clear g0
      obtain rfl := g1.1 _ rfl
      clear g1
      rw [if_pos (want_none rfl)]
      unfold Oper.wp
      go_simp
      exact hK _ _ ⟨fun _ h => no_some h, fun _ h => spec_ok h (Sl.two q r _)⟩ (hS.below ((Below.refl _ _).alloc (Nat.le_refl _) _)) ((Below.refl _ _).alloc (Nat.le_refl _) _)
    · intro a u hS hr K hK
      obtain ⟨⟨vl0, e0, g0⟩, -⟩ := hr
      replace g0 := g0.2 _ rfl
      rw [if_pos (want_none rfl)]
      unfold Oper.wp
      go_simp
      refine (or_sl g0).mono ?_
      rintro e u1 ⟨rfl, hb⟩
      exact hK _ _ ⟨fun _ h => Option.some.inj h, fun _ h => no_some h⟩ (hS.below hb) hb
    · intro a u hS hr K hK
      obtain ⟨⟨vl0, e0, g0⟩, ⟨vl1, e1, g1⟩, -⟩ := hr
      obtain rfl := g0.1 _ rfl
      clear g0
      obtain rfl := g1.1 _ rfl
      clear g1
      rw [if_pos (want_none rfl)]
      unfold Oper.wp
      go_simp
      exact hK _ _ ⟨fun _ h => no_some h, fun _ h => spec_ok h (Sl.two p (orB q r) _)⟩ (hS.below ((Below.refl _ _).alloc (Nat.le_refl _) _)) ((Below.refl _ _).alloc (Nat.le_refl _) _)
    · intro a u hS hr K hK
      obtain ⟨⟨vl0, e0, g0⟩, -⟩ := hr
      replace g0 := g0.2 _ rfl
      rw [if_pos (want_none rfl)]
      unfold Oper.wp
      go_simp
      refine (and_sl g0).mono ?_
      rintro e u1 ⟨rfl, hb⟩
      exact hK _ _ ⟨fun _ h => Option.some.inj h, fun _ h => no_some h⟩ (hS.below hb) hb
    · intro a u hS hr K hK
      obtain ⟨⟨vl0, e0, g0⟩, -⟩ := hr
      obtain rfl := g0.1 _ rfl
      clear g0
      rw [if_pos (want_none rfl)]
      obtain ⟨⟨r0, r1, r2, r3⟩, ⟨s0, s1, s2, s3⟩, ⟨t0, t1, t2, t3⟩, v0, v1, v2, v3⟩ := hS.box.cells
      unfold Oper.wp
      go_simp
      exact hK _ _ ⟨fun _ h => Option.some.inj h, fun _ h => no_some h⟩ hS (Below.refl _ _)
    · intro a u hS hr K hK
      obtain ⟨⟨vl0, e0, g0⟩, -⟩ := hr
      obtain rfl := g0.1 _ rfl
      clear g0
      rw [if_pos (want_none rfl)]
      obtain ⟨⟨r0, r1, r2, r3⟩, ⟨s0, s1, s2, s3⟩, ⟨t0, t1, t2, t3⟩, v0, v1, v2, v3⟩ := hS.box.cells
      unfold Oper.wp
      go_simp
      exact hK _ _ ⟨fun _ h => Option.some.inj h, fun _ h => no_some h⟩ hS (Below.refl _ _)
    · intro a u hS hr K hK
      obtain ⟨⟨vl0, e0, g0⟩, ⟨vl1, e1, g1⟩, -⟩ := hr
      obtain rfl := g0.1 _ rfl
      clear g0
      obtain rfl := g1.1 _ rfl
      clear g1
      rw [if_pos (want_none rfl)]
      unfold Oper.wp
      go_simp
      exact hK _ _ ⟨fun _ h => no_some h, fun _ h => spec_ok h (Sl.two p q _)⟩ (hS.below ((Below.refl _ _).alloc (Nat.le_refl _) _)) ((Below.refl _ _).alloc (Nat.le_refl _) _)
    · intro a u hS hr K hK
      obtain ⟨⟨vl0, e0, g0⟩, -⟩ := hr
      replace g0 := g0.2 _ rfl
      rw [if_pos (want_none rfl)]
      unfold Oper.wp
      go_simp
      refine (and_sl g0).mono ?_
      rintro e u1 ⟨rfl, hb⟩
      exact hK _ _ ⟨fun _ h => Option.some.inj h, fun _ h => no_some h⟩ (hS.below hb) hb
    · intro a u hS hr K hK
      obtain ⟨⟨vl0, e0, g0⟩, -⟩ := hr
      obtain rfl := g0.1 _ rfl
      clear g0
      rw [if_pos (want_none rfl)]
      obtain ⟨⟨r0, r1, r2, r3⟩, ⟨s0, s1, s2, s3⟩, ⟨t0, t1, t2, t3⟩, v0, v1, v2, v3⟩ := hS.box.cells
      unfold Oper.wp
      go_simp
      exact hK _ _ ⟨fun _ h => Option.some.inj h, fun _ h => no_some h⟩ hS (Below.refl _ _)
    · intro a u hS hr K hK
      obtain ⟨⟨vl0, e0, g0⟩, -⟩ := hr
      obtain rfl := g0.1 _ rfl
      clear g0
      rw [if_pos (want_none rfl)]
      obtain ⟨⟨r0, r1, r2, r3⟩, ⟨s0, s1, s2, s3⟩, ⟨t0, t1, t2, t3⟩, v0, v1, v2, v3⟩ := hS.box.cells
      unfold Oper.wp
      go_simp
      exact hK _ _ ⟨fun _ h => Option.some.inj h, fun _ h => no_some h⟩ hS (Below.refl _ _)
    · intro a u hS hr K hK
      obtain ⟨⟨vl0, e0, g0⟩, ⟨vl1, e1, g1⟩, -⟩ := hr
      obtain rfl := g0.1 _ rfl
      clear g0
      obtain rfl := g1.1 _ rfl
      clear g1
      rw [if_pos (want_none rfl)]
      unfold Oper.wp
      go_simp
      exact hK _ _ ⟨fun _ h => no_some h, fun _ h => spec_ok h (Sl.two p r _)⟩ (hS.below ((Below.refl _ _).alloc (Nat.le_refl _) _)) ((Below.refl _ _).alloc (Nat.le_refl _) _)
    · intro a u hS hr K hK
      obtain ⟨⟨vl0, e0, g0⟩, -⟩ := hr
      replace g0 := g0.2 _ rfl
      rw [if_pos (want_none rfl)]
      unfold Oper.wp
      go_simp
      refine (and_sl g0).mono ?_
      rintro e u1 ⟨rfl, hb⟩
      exact hK _ _ ⟨fun _ h => Option.some.inj h, fun _ h => no_some h⟩ (hS.below hb) hb
    · intro a u hS hr K hK
      obtain ⟨⟨vl0, e0, g0⟩, ⟨vl1, e1, g1⟩, -⟩ := hr
      obtain rfl := g0.1 _ rfl
      clear g0
      obtain rfl := g1.1 _ rfl
      clear g1
      rw [if_pos (want_none rfl)]
      unfold Oper.wp
      go_simp
      exact hK _ _ ⟨fun _ h => no_some h, fun _ h => spec_ok h (Sl.two (andB p q) (andB p r) _)⟩ (hS.below ((Below.refl _ _).alloc (Nat.le_refl _) _)) ((Below.refl _ _).alloc (Nat.le_refl _) _)
    · intro a u hS hr K hK
      obtain ⟨⟨vl0, e0, g0⟩, -⟩ := hr
      replace g0 := g0.2 _ rfl
      rw [if_pos (want_none rfl)]
      unfold Oper.wp
      go_simp
      refine (or_sl g0).mono ?_
      rintro e u1 ⟨rfl, hb⟩
      exact hK _ _ ⟨fun _ h => Option.some.inj h, fun _ h => no_some h⟩ (hS.below hb) hb
    · intro a u hS hr K hK
      obtain ⟨⟨vl0, e0, g0⟩, ⟨vl1, e1, g1⟩, -⟩ := hr
      obtain rfl := g0.1 _ rfl
      clear g0
      obtain rfl := g1.1 _ rfl
      clear g1
      rw [if_pos (want_none rfl)]
      have z := neq_no (law_dist p q r)
      have hg := guard27
      unfold Oper.wp
      go_simp
      exact hK _ _ ⟨fun _ h => Option.some.inj h, fun _ h => no_some h⟩ hS (Below.refl _ _)
    · intro a u hS hr K hK
      obtain ⟨⟨vl0, e0, g0⟩, -⟩ := hr
      obtain rfl := g0.1 _ rfl
      clear g0
      rw [if_pos (want_none rfl)]
      unfold Oper.wp
      go_simp
      exact hK _ _ ⟨fun _ h => Option.some.inj h, fun _ h => no_some h⟩ hS (Below.refl _ _)
    · intro a u hS hr K hK
      obtain ⟨⟨vl0, e0, g0⟩, ⟨vl1, e1, g1⟩, -⟩ := hr
      obtain rfl := g0.1 _ rfl
      clear g0
      obtain rfl := g1.1 _ rfl
      clear g1
      rw [if_pos (want_some rfl rfl rfl e1)]
      obtain ⟨⟨r0, r1, r2, r3⟩, ⟨s0, s1, s2, s3⟩, ⟨t0, t1, t2, t3⟩, v0, v1, v2, v3⟩ := hS.box.cells
      unfold Oper.wp
      go_simp
      exact hK _ _ ⟨fun _ h => Option.some.inj h, fun _ h => no_some h⟩ hS (Below.refl _ _)
    · intro a u hS hr K hK
      obtain ⟨⟨vl0, e0, g0⟩, ⟨vl1, e1, g1⟩, -⟩ := hr
      obtain rfl := g0.1 _ rfl
      clear g0
      obtain rfl := g1.1 _ rfl
      clear g1
      rw [if_pos (want_some rfl rfl rfl e1)]
      obtain ⟨⟨r0, r1, r2, r3⟩, ⟨s0, s1, s2, s3⟩, ⟨t0, t1, t2, t3⟩, v0, v1, v2, v3⟩ := hS.box.cells
      unfold Oper.wp
      go_simp
      exact hK _ _ ⟨fun _ h => Option.some.inj h, fun _ h => no_some h⟩ hS (Below.refl _ _)
    · intro a u hS hr K hK
      obtain ⟨⟨vl0, e0, g0⟩, ⟨vl1, e1, g1⟩, -⟩ := hr
      obtain rfl := g0.1 _ rfl
      clear g0
      obtain rfl := g1.1 _ rfl
      clear g1
      rw [if_pos (want_some rfl rfl rfl e1)]
      obtain ⟨⟨r0, r1, r2, r3⟩, ⟨s0, s1, s2, s3⟩, ⟨t0, t1, t2, t3⟩, v0, v1, v2, v3⟩ := hS.box.cells
      unfold Oper.wp
      go_simp
      exact hK _ _ ⟨fun _ h => Option.some.inj h, fun _ h => no_some h⟩ hS (Below.refl _ _)
    · intro a u hS hr K hK
      obtain ⟨⟨vl0, e0, g0⟩, ⟨vl1, e1, g1⟩, ⟨vl2, e2, g2⟩, ⟨vl3, e3, g3⟩, -⟩ := hr
      obtain rfl := g0.1 _ rfl
      clear g0
      obtain rfl := g1.1 _ rfl
      clear g1
      obtain rfl := g2.1 _ rfl
      clear g2
      obtain rfl := g3.1 _ rfl
      clear g3
      rw [if_pos (want_some rfl rfl rfl e3)]
      unfold Oper.wp
      go_simp
      exact hK _ _ ⟨fun _ h => no_some h, fun _ h => spec_ok h (Sl.three p q r _)⟩ (hS.below ((Below.refl _ _).alloc (Nat.le_refl _) _)) ((Below.refl _ _).alloc (Nat.le_refl _) _)
    · intro a u hS hr K hK
      obtain ⟨⟨vl0, e0, g0⟩, ⟨vl1, e1, g1⟩, -⟩ := hr
      replace g0 := g0.2 _ rfl
      obtain rfl := g1.1 _ rfl
      clear g1
      rw [if_pos (want_some rfl rfl rfl e1)]
      unfold Oper.wp
      go_simp
      refine (or_sln (by simp) g0).mono ?_
      rintro e u1 ⟨rfl, hb⟩
      exact hK _ _ ⟨fun _ h => Option.some.inj h, fun _ h => no_some h⟩ (hS.below hb) hb
    · intro a u hS hr K hK
      obtain ⟨⟨vl0, e0, g0⟩, ⟨vl1, e1, g1⟩, -⟩ := hr
      obtain rfl := g0.1 _ rfl
      clear g0
      obtain rfl := g1.1 _ rfl
      clear g1
      rw [if_pos (want_some rfl rfl rfl e1)]
      obtain ⟨⟨r0, r1, r2, r3⟩, ⟨s0, s1, s2, s3⟩, ⟨t0, t1, t2, t3⟩, v0, v1, v2, v3⟩ := hS.box.cells
      unfold Oper.wp
      go_simp
      exact hK _ _ ⟨fun _ h => Option.some.inj h, fun _ h => no_some h⟩ hS (Below.refl _ _)
    · intro a u hS hr K hK
      obtain ⟨⟨vl0, e0, g0⟩, ⟨vl1, e1, g1⟩, -⟩ := hr
      obtain rfl := g0.1 _ rfl
      clear g0
      obtain rfl := g1.1 _ rfl
      clear g1
      rw [if_pos (want_some rfl rfl rfl e1)]
      obtain ⟨⟨r0, r1, r2, r3⟩, ⟨s0, s1, s2, s3⟩, ⟨t0, t1, t2, t3⟩, v0, v1, v2, v3⟩ := hS.box.cells
      unfold Oper.wp
      go_simp
      exact hK _ _ ⟨fun _ h => Option.some.inj h, fun _ h => no_some h⟩ hS (Below.refl _ _)
    · intro a u hS hr K hK
      obtain ⟨⟨vl0, e0, g0⟩, ⟨vl1, e1, g1⟩, -⟩ := hr
      obtain rfl := g0.1 _ rfl
      clear g0
      obtain rfl := g1.1 _ rfl
      clear g1
      rw [if_pos (want_some rfl rfl rfl e1)]
      obtain ⟨⟨r0, r1, r2, r3⟩, ⟨s0, s1, s2, s3⟩, ⟨t0, t1, t2, t3⟩, v0, v1, v2, v3⟩ := hS.box.cells
      unfold Oper.wp
      go_simp
      exact hK _ _ ⟨fun _ h => Option.some.inj h, fun _ h => no_some h⟩ hS (Below.refl _ _)
    · intro a u hS hr K hK
      obtain ⟨⟨vl0, e0, g0⟩, ⟨vl1, e1, g1⟩, ⟨vl2, e2, g2⟩, ⟨vl3, e3, g3⟩, -⟩ := hr
      obtain rfl := g0.1 _ rfl
      clear g0
      obtain rfl := g1.1 _ rfl
      clear g1
      obtain rfl := g2.1 _ rfl
      clear g2
      obtain rfl := g3.1 _ rfl
      clear g3
      rw [if_pos (want_some rfl rfl rfl e3)]
      unfold Oper.wp
      go_simp
      exact hK _ _ ⟨fun _ h => no_some h, fun _ h => spec_ok h (Sl.three r p q _)⟩ (hS.below ((Below.refl _ _).alloc (Nat.le_refl _) _)) ((Below.refl _ _).alloc (Nat.le_refl _) _)
    · intro a u hS hr K hK
      obtain ⟨⟨vl0, e0, g0⟩, ⟨vl1, e1, g1⟩, -⟩ := hr
      replace g0 := g0.2 _ rfl
      obtain rfl := g1.1 _ rfl
      clear g1
      rw [if_pos (want_some rfl rfl rfl e1)]
      unfold Oper.wp
      go_simp
      refine (or_sln (by simp) g0).mono ?_
      rintro e u1 ⟨rfl, hb⟩
      exact hK _ _ ⟨fun _ h => Option.some.inj h, fun _ h => no_some h⟩ (hS.below hb) hb
    · intro a u hS hr K hK
      obtain ⟨⟨vl0, e0, g0⟩, ⟨vl1, e1, g1⟩, ⟨vl2, e2, g2⟩, -⟩ := hr
      obtain rfl := g0.1 _ rfl
      clear g0
      obtain rfl := g1.1 _ rfl
      clear g1
      obtain rfl := g2.1 _ rfl
      clear g2
      rw [if_pos (want_some rfl rfl rfl e2)]
      have z := neq_no (law_turn p q r)
      have hg := guard27
      unfold Oper.wp
      go_simp
      exact hK _ _ ⟨fun _ h => Option.some.inj h, fun _ h => no_some h⟩ hS (Below.refl _ _)
    · intro a u hS hr K hK
      obtain ⟨⟨vl0, e0, g0⟩, ⟨vl1, e1, g1⟩, -⟩ := hr
      obtain rfl := g0.1 _ rfl
      clear g0
      obtain rfl := g1.1 _ rfl
      clear g1
      rw [if_pos (want_none rfl)]
      unfold Oper.wp
      go_simp
      exact hK _ _ ⟨fun _ h => Option.some.inj h, fun _ h => no_some h⟩ hS (Below.refl _ _)
  intro b y hS2 hts2 hd2 hkn hf
  obtain ⟨v82, e82, g82⟩ := hf 30 _ 82 rfl rfl
  obtain rfl := g82.1 _ rfl
  have j3 := (hkn 3 (no_dst (by kernel_rfl))).trans k3
  have j4 := (hkn 4 (no_dst (by kernel_rfl))).trans k4
  have j5 := (hkn 5 (no_dst (by kernel_rfl))).trans k5
  have j9 := (hkn 9 (no_dst (by kernel_rfl))).trans k9
  have hts3 : b.tmps.size = 125 := hts2.trans hts'
  have hd3 : b.defers = [] := hd2.trans hd'
  clear hf hkn g82 hts2 hd2 k3 k4 k5 k6 k9 hts' hd' hS e51
  go_wp2
  refine wp_cond_false (eval_at e82) (wp_skip ?_)
  go_wp2
  refine wp_region_slots (LawS w p q r gl) (LwC w.heap.size p q x) (by kernel_rfl) (by rw [hts3]; kernel_rfl) (by kernel_rfl) ?_ ⟨hS2.box.drew, hS2.bel.drew⟩ [3, 4, 5] (by kernel_rfl) ?_ ?_ ?_
  · intro t v u u' h hb
    exact ⟨h.1, fun R hR => by unfold LwCP at hR; cases hR⟩
  · intro u _
    refine ⟨⟨_, j3, ?_⟩, ⟨_, j4, ?_⟩, ⟨_, j5, ?_⟩, trivial⟩ <;> exact ⟨fun _ h => Option.some.inj h, fun _ h => no_some h⟩
  · refine ⟨?_, ?_, ?_, ?_, ?_, ?_, ?_, ?_, trivial⟩
    · intro a u hS hr K hK
      obtain ⟨⟨vl0, e0, g0⟩, -⟩ := hr
      obtain rfl := g0.1 _ rfl
      clear g0
      rw [if_pos (want_none rfl)]
      obtain ⟨⟨r0, r1, r2, r3⟩, ⟨s0, s1, s2, s3⟩, ⟨t0, t1, t2, t3⟩, v0, v1, v2, v3⟩ := hS.box.cells
      unfold Oper.wp
      go_simp
      exact hK _ _ ⟨fun _ h => Option.some.inj h, fun _ h => no_some h⟩ hS (Below.refl _ _)
    · intro a u hS hr K hK
      obtain ⟨⟨vl0, e0, g0⟩, -⟩ := hr
      obtain rfl := g0.1 _ rfl
      clear g0
      rw [if_pos (want_none rfl)]
      unfold Oper.wp
      go_simp
      exact hK _ _ ⟨fun _ h => Option.some.inj h, fun _ h => no_some h⟩ hS (Below.refl _ _)
    · intro a u hS hr K hK
      obtain ⟨⟨vl0, e0, g0⟩, ⟨vl1, e1, g1⟩, -⟩ := hr
      obtain rfl := g0.1 _ rfl
      clear g0
      obtain rfl := g1.1 _ rfl
      clear g1
      rw [if_pos (want_none rfl)]
      unfold Oper.wp
      go_simp
      refine (has_any p x _ x0 x1).mono ?_
      rintro e u1 ⟨rfl, hb⟩
      exact hK _ _ ⟨fun _ h => Option.some.inj h, fun _ h => no_some h⟩ (hS.below hb) hb
    · intro a u hS hr K hK
      obtain ⟨⟨vl0, e0, g0⟩, -⟩ := hr
      obtain rfl := g0.1 _ rfl
      clear g0
      rw [if_pos (want_none rfl)]
      obtain ⟨⟨r0, r1, r2, r3⟩, ⟨s0, s1, s2, s3⟩, ⟨t0, t1, t2, t3⟩, v0, v1, v2, v3⟩ := hS.box.cells
      unfold Oper.wp
      go_simp
      exact hK _ _ ⟨fun _ h => Option.some.inj h, fun _ h => no_some h⟩ hS (Below.refl _ _)
    · intro a u hS hr K hK
      obtain ⟨⟨vl0, e0, g0⟩, -⟩ := hr
      obtain rfl := g0.1 _ rfl
      clear g0
      rw [if_pos (want_none rfl)]
      unfold Oper.wp
      go_simp
      exact hK _ _ ⟨fun _ h => Option.some.inj h, fun _ h => no_some h⟩ hS (Below.refl _ _)
    · intro a u hS hr K hK
      obtain ⟨⟨vl0, e0, g0⟩, ⟨vl1, e1, g1⟩, -⟩ := hr
      obtain rfl := g0.1 _ rfl
      clear g0
      obtain rfl := g1.1 _ rfl
      clear g1
      rw [if_pos (want_none rfl)]
      unfold Oper.wp
      go_simp
      refine (has_any q x _ x0 x1).mono ?_
      rintro e u1 ⟨rfl, hb⟩
      exact hK _ _ ⟨fun _ h => Option.some.inj h, fun _ h => no_some h⟩ (hS.below hb) hb
    · intro a u hS hr K hK
      obtain ⟨⟨vl0, e0, g0⟩, -⟩ := hr
      obtain rfl := g0.1 _ rfl
      clear g0
      rw [if_pos (want_none rfl)]
      unfold Oper.wp
      go_simp
      exact hK _ _ ⟨fun _ h => Option.some.inj h, fun _ h => no_some h⟩ hS (Below.refl _ _)
    · intro a u hS hr K hK
      obtain ⟨⟨vl0, e0, g0⟩, -⟩ := hr
      obtain rfl := g0.1 _ rfl
      clear g0
      rw [if_pos (want_none rfl)]
      unfold Oper.wp
      go_simp
      exact hK _ _ ⟨fun _ h => Option.some.inj h, fun _ h => no_some h⟩ hS (Below.refl _ _)
  intro d z hS4 hts4 hd4 hkn hf
  obtain ⟨v11, e11, g11⟩ := hf 6 _ 11 rfl rfl
  obtain ⟨v12, e12, g12⟩ := hf 7 _ 12 rfl rfl
  obtain rfl := g11.1 _ rfl
  obtain rfl := g12.1 _ rfl
  have i3 := (hkn 3 (no_dst (by kernel_rfl))).trans j3
  have i4 := (hkn 4 (no_dst (by kernel_rfl))).trans j4
  have i5 := (hkn 5 (no_dst (by kernel_rfl))).trans j5
  have i9 := (hkn 9 (no_dst (by kernel_rfl))).trans j9
  have hts5 : d.tmps.size = 125 := hts4.trans hts3
  have hd5 : d.defers = [] := hd4.trans hd3
  clear hf hkn g11 g12 hts4 hd4 j3 j4 j5 j9 hts3 hd3 hS2 e82
  generalize hpb : p x.toNat = pb at *
  generalize hqb : q x.toNat = qb at *
  have HP := hidd hpb
  have HQ := hidd hqb
  clear hpb hqb
  simp only [Exit.then]
  apply_assumption
  refine wp_seq ?_
  refine wp_region_slots_text (LawS w p q r gl) (LwD w.heap.size p q x pb qb) (by rw [hts5]; kernel_rfl) (by kernel_rfl) ?_ hS4 [3, 4, 5, 9, 11, 12] (by kernel_rfl) ?_ ?_ ?_
  · intro t v u u' h hb
    refine ⟨h.1, fun R hR => ?_⟩
    have hh := h.2 R hR
    unfold LwDP at hR
    split at hR
    · cases hR; exact hh.below hb
    · cases hR; exact hh
    · cases hR; exact hh.below hb
    · cases hR; exact hh
    · cases hR
  · intro u _
    refine ⟨⟨_, i3, ?_⟩, ⟨_, i4, ?_⟩, ⟨_, i5, ?_⟩, ⟨_, i9, ?_⟩, ⟨_, e11, ?_⟩, ⟨_, e12, ?_⟩, trivial⟩ <;> exact ⟨fun _ h => Option.some.inj h, fun _ h => no_some h⟩
  · refine ⟨?_, ?_, ?_, ?_, ?_, ?_, ?_, ?_, ?_, ?_, ?_, ?_, ?_, ?_, ?_, ?_, ?_, ?_, ?_, ?_, ?_, ?_, ?_, ?_, ?_, ?_, ?_, ?_, ?_, ?_, ?_, ?_, ?_, ?_, ?_, ?_, ?_, trivial⟩
    · intro a u hS hr K hK
      obtain ⟨⟨vl0, e0, g0⟩, -⟩ := hr
      obtain rfl := g0.1 _ rfl
      clear g0
      rw [if_pos (want_none rfl)]
      unfold Oper.wp
      go_simp
      exact hK _ _ ⟨fun _ h => Option.some.inj h, fun _ h => no_some h⟩ hS (Below.refl _ _)
    · intro a u hS hr K hK
      obtain ⟨⟨vl0, e0, g0⟩, -⟩ := hr
      obtain rfl := g0.1 _ rfl
      clear g0
      rw [if_pos (want_none rfl)]
      unfold Oper.wp
      go_simp
      exact hK _ _ ⟨fun _ h => Option.some.inj h, fun _ h => no_some h⟩ hS (Below.refl _ _)
    · intro a u hS hr K hK
      obtain ⟨⟨vl0, e0, g0⟩, ⟨vl1, e1, g1⟩, -⟩ := hr
      obtain rfl := g0.1 _ rfl
      clear g0
      obtain rfl := g1.1 _ rfl
      clear g1
      rw [if_pos (want_some rfl rfl rfl e1)]
      obtain ⟨⟨r0, r1, r2, r3⟩, ⟨s0, s1, s2, s3⟩, ⟨t0, t1, t2, t3⟩, v0, v1, v2, v3⟩ := hS.box.cells
      unfold Oper.wp
      go_simp
      exact hK _ _ ⟨fun _ h => Option.some.inj h, fun _ h => no_some h⟩ hS (Below.refl _ _)
    · intro a u hS hr K hK
      obtain ⟨⟨vl0, e0, g0⟩, ⟨vl1, e1, g1⟩, -⟩ := hr
      obtain rfl := g0.1 _ rfl
      clear g0
      obtain rfl := g1.1 _ rfl
      clear g1
      rw [if_pos (want_some rfl rfl rfl e1)]
      obtain ⟨⟨r0, r1, r2, r3⟩, ⟨s0, s1, s2, s3⟩, ⟨t0, t1, t2, t3⟩, v0, v1, v2, v3⟩ := hS.box.cells
      unfold Oper.wp
      go_simp
      exact hK _ _ ⟨fun _ h => Option.some.inj h, fun _ h => no_some h⟩ hS (Below.refl _ _)
    · intro a u hS hr K hK
      obtain ⟨⟨vl0, e0, g0⟩, ⟨vl1, e1, g1⟩, ⟨vl2, e2, g2⟩, -⟩ := hr
      obtain rfl := g0.1 _ rfl
      clear g0
      obtain rfl := g1.1 _ rfl
      clear g1
      obtain rfl := g2.1 _ rfl
      clear g2
      rw [if_pos (want_some rfl rfl rfl e2)]
      unfold Oper.wp
      go_simp
      exact hK _ _ ⟨fun _ h => no_some h, fun _ h => spec_ok h (Sl.two p q _)⟩ (hS.below ((Below.refl _ _).alloc (Nat.le_refl _) _)) ((Below.refl _ _).alloc (Nat.le_refl _) _)
    · intro a u hS hr K hK
      obtain ⟨⟨vl0, e0, g0⟩, ⟨vl1, e1, g1⟩, -⟩ := hr
      replace g0 := g0.2 _ rfl
      obtain rfl := g1.1 _ rfl
      clear g1
      rw [if_pos (want_some rfl rfl rfl e1)]
      unfold Oper.wp
      go_simp
      refine (or_sl g0).mono ?_
      rintro e u1 ⟨rfl, hb⟩
      exact hK _ _ ⟨fun _ h => Option.some.inj h, fun _ h => no_some h⟩ (hS.below hb) hb
    · intro a u hS hr K hK
      obtain ⟨⟨vl0, e0, g0⟩, ⟨vl1, e1, g1⟩, -⟩ := hr
      obtain rfl := g0.1 _ rfl
      clear g0
      obtain rfl := g1.1 _ rfl
      clear g1
      rw [if_pos (want_some rfl rfl rfl e1)]
      unfold Oper.wp
      go_simp
      exact hK _ _ ⟨fun _ h => Option.some.inj h, fun _ h => no_some h⟩ hS (Below.refl _ _)
    · intro a u hS hr K hK
      obtain ⟨⟨vl0, e0, g0⟩, ⟨vl1, e1, g1⟩, ⟨vl2, e2, g2⟩, -⟩ := hr
      obtain rfl := g0.1 _ rfl
      clear g0
      obtain rfl := g1.1 _ rfl
      clear g1
      obtain rfl := g2.1 _ rfl
      clear g2
      rw [if_pos (want_some rfl rfl rfl e2)]
      unfold Oper.wp
      go_simp
      refine (has_any (orB p q) x _ x0 x1).mono ?_
      rintro e u1 ⟨rfl, hb⟩
      rw [show orB p q x.toNat = (pb || qb) from by rw [← HP.out, ← HQ.out]; rfl]
      exact hK _ _ ⟨fun _ h => Option.some.inj h, fun _ h => no_some h⟩ (hS.below hb) hb
    · intro a u hS hr K hK
      obtain ⟨⟨vl0, e0, g0⟩, ⟨vl1, e1, g1⟩, -⟩ := hr
      obtain rfl := g0.1 _ rfl
      clear g0
      obtain rfl := g1.1 _ rfl
      clear g1
      rw [if_pos (want_some rfl rfl rfl e1)]
      unfold Oper.wp
      go_simp
      exact hK _ _ ⟨fun _ h => Option.some.inj h, fun _ h => no_some h⟩ hS (Below.refl _ _)
    · intro a u hS hr K hK
      obtain ⟨⟨vl0, e0, g0⟩, ⟨vl1, e1, g1⟩, -⟩ := hr
      obtain rfl := g0.1 _ rfl
      clear g0
      obtain rfl := g1.1 _ rfl
      clear g1
      rw [if_pos (want_some rfl rfl rfl e1)]
      unfold Oper.wp
      go_simp
      exact hK _ _ ⟨fun _ h => Option.some.inj h, fun _ h => no_some h⟩ hS (Below.refl _ _)
    · intro a u hS hr K hK
      obtain ⟨⟨vl0, e0, g0⟩, ⟨vl1, e1, g1⟩, -⟩ := hr
      obtain rfl := g0.1 _ rfl
      clear g0
      obtain rfl := g1.1 _ rfl
      clear g1
      cases pb
      · rw [if_pos (want_some rfl rfl rfl e1)]; unfold Oper.wp; go_simp; exact hK _ _ ⟨fun _ h => no_some h, fun _ h => spec_ok h (fun _ => rfl)⟩ hS (Below.refl _ _)
      · rw [if_neg (unwant rfl rfl rfl e1 (by decide))]; exact hK _ _ ⟨fun _ h => no_some h, fun _ h => spec_ok h (fun h => by cases h)⟩ hS (Below.refl _ _)
    · intro a u hS hr K hK
      obtain ⟨⟨vl0, e0, g0⟩, ⟨vl1, e1, g1⟩, ⟨vl2, e2, g2⟩, -⟩ := hr
      obtain rfl := g0.1 _ rfl
      clear g0
      replace g1 := g1.2 _ rfl
      obtain rfl := g2.1 _ rfl
      clear g2
      rw [if_pos (want_some rfl rfl rfl e2)]
      unfold Oper.wp
      cases pb
      · obtain rfl := g1 rfl; go_simp; exact hK _ _ ⟨fun _ h => Option.some.inj h, fun _ h => no_some h⟩ hS (Below.refl _ _)
      · go_simp; exact hK _ _ ⟨fun _ h => Option.some.inj h, fun _ h => no_some h⟩ hS (Below.refl _ _)
    · intro a u hS hr K hK
      obtain ⟨⟨vl0, e0, g0⟩, ⟨vl1, e1, g1⟩, ⟨vl2, e2, g2⟩, -⟩ := hr
      obtain rfl := g0.1 _ rfl
      clear g0
      obtain rfl := g1.1 _ rfl
      clear g1
      obtain rfl := g2.1 _ rfl
      clear g2
      rw [if_pos (want_some rfl rfl rfl e2)]
      unfold Oper.wp
      go_simp
      exact hK _ _ ⟨fun _ h => Option.some.inj h, fun _ h => no_some h⟩ hS (Below.refl _ _)
    · intro a u hS hr K hK
      obtain ⟨⟨vl0, e0, g0⟩, ⟨vl1, e1, g1⟩, -⟩ := hr
      obtain rfl := g0.1 _ rfl
      clear g0
      obtain rfl := g1.1 _ rfl
      clear g1
      rw [if_pos (want_none rfl)]
      unfold Oper.wp
      go_simp
      exact hK _ _ ⟨fun _ h => Option.some.inj h, fun _ h => no_some h⟩ hS (Below.refl _ _)
    · intro a u hS hr K hK
      obtain ⟨⟨vl0, e0, g0⟩, -⟩ := hr
      obtain rfl := g0.1 _ rfl
      clear g0
      rw [if_pos (want_none rfl)]
      unfold Oper.wp
      go_simp
      exact hK _ _ ⟨fun _ h => Option.some.inj h, fun _ h => no_some h⟩ hS (Below.refl _ _)
    · intro a u hS hr K hK
      obtain ⟨⟨vl0, e0, g0⟩, ⟨vl1, e1, g1⟩, -⟩ := hr
      obtain rfl := g0.1 _ rfl
      clear g0
      obtain rfl := g1.1 _ rfl
      clear g1
      rw [if_pos (want_some rfl rfl rfl e1)]
      obtain ⟨⟨r0, r1, r2, r3⟩, ⟨s0, s1, s2, s3⟩, ⟨t0, t1, t2, t3⟩, v0, v1, v2, v3⟩ := hS.box.cells
      unfold Oper.wp
      go_simp
      exact hK _ _ ⟨fun _ h => Option.some.inj h, fun _ h => no_some h⟩ hS (Below.refl _ _)
    · intro a u hS hr K hK
      obtain ⟨⟨vl0, e0, g0⟩, ⟨vl1, e1, g1⟩, -⟩ := hr
      obtain rfl := g0.1 _ rfl
      clear g0
      obtain rfl := g1.1 _ rfl
      clear g1
      rw [if_pos (want_some rfl rfl rfl e1)]
      obtain ⟨⟨r0, r1, r2, r3⟩, ⟨s0, s1, s2, s3⟩, ⟨t0, t1, t2, t3⟩, v0, v1, v2, v3⟩ := hS.box.cells
      unfold Oper.wp
      go_simp
      exact hK _ _ ⟨fun _ h => Option.some.inj h, fun _ h => no_some h⟩ hS (Below.refl _ _)
    · intro a u hS hr K hK
      obtain ⟨⟨vl0, e0, g0⟩, ⟨vl1, e1, g1⟩, ⟨vl2, e2, g2⟩, -⟩ := hr
      obtain rfl := g0.1 _ rfl
      clear g0
      obtain rfl := g1.1 _ rfl
      clear g1
      obtain rfl := g2.1 _ rfl
      clear g2
      rw [if_pos (want_some rfl rfl rfl e2)]
      unfold Oper.wp
      go_simp
      exact hK _ _ ⟨fun _ h => no_some h, fun _ h => spec_ok h (Sl.two p q _)⟩ (hS.below ((Below.refl _ _).alloc (Nat.le_refl _) _)) ((Below.refl _ _).alloc (Nat.le_refl _) _)
    · intro a u hS hr K hK
      obtain ⟨⟨vl0, e0, g0⟩, ⟨vl1, e1, g1⟩, -⟩ := hr
      replace g0 := g0.2 _ rfl
      obtain rfl := g1.1 _ rfl
      clear g1
      rw [if_pos (want_some rfl rfl rfl e1)]
      unfold Oper.wp
      go_simp
      refine (and_sl g0).mono ?_
      rintro e u1 ⟨rfl, hb⟩
      exact hK _ _ ⟨fun _ h => Option.some.inj h, fun _ h => no_some h⟩ (hS.below hb) hb
    · intro a u hS hr K hK
      obtain ⟨⟨vl0, e0, g0⟩, ⟨vl1, e1, g1⟩, -⟩ := hr
      obtain rfl := g0.1 _ rfl
      clear g0
      obtain rfl := g1.1 _ rfl
      clear g1
      rw [if_pos (want_some rfl rfl rfl e1)]
      unfold Oper.wp
      go_simp
      exact hK _ _ ⟨fun _ h => Option.some.inj h, fun _ h => no_some h⟩ hS (Below.refl _ _)
    · intro a u hS hr K hK
      obtain ⟨⟨vl0, e0, g0⟩, ⟨vl1, e1, g1⟩, ⟨vl2, e2, g2⟩, -⟩ := hr
      obtain rfl := g0.1 _ rfl
      clear g0
      obtain rfl := g1.1 _ rfl
      clear g1
      obtain rfl := g2.1 _ rfl
      clear g2
      rw [if_pos (want_some rfl rfl rfl e2)]
      unfold Oper.wp
      go_simp
      refine (has_any (andB p q) x _ x0 x1).mono ?_
      rintro e u1 ⟨rfl, hb⟩
      rw [show andB p q x.toNat = (pb && qb) from by rw [← HP.out, ← HQ.out]; rfl]
      exact hK _ _ ⟨fun _ h => Option.some.inj h, fun _ h => no_some h⟩ (hS.below hb) hb
    · intro a u hS hr K hK
      obtain ⟨⟨vl0, e0, g0⟩, ⟨vl1, e1, g1⟩, -⟩ := hr
      obtain rfl := g0.1 _ rfl
      clear g0
      obtain rfl := g1.1 _ rfl
      clear g1
      rw [if_pos (want_some rfl rfl rfl e1)]
      unfold Oper.wp
      go_simp
      exact hK _ _ ⟨fun _ h => Option.some.inj h, fun _ h => no_some h⟩ hS (Below.refl _ _)
    · intro a u hS hr K hK
      obtain ⟨⟨vl0, e0, g0⟩, ⟨vl1, e1, g1⟩, -⟩ := hr
      obtain rfl := g0.1 _ rfl
      clear g0
      obtain rfl := g1.1 _ rfl
      clear g1
      rw [if_pos (want_some rfl rfl rfl e1)]
      unfold Oper.wp
      go_simp
      exact hK _ _ ⟨fun _ h => Option.some.inj h, fun _ h => no_some h⟩ hS (Below.refl _ _)
    · intro a u hS hr K hK
      obtain ⟨⟨vl0, e0, g0⟩, ⟨vl1, e1, g1⟩, -⟩ := hr
      obtain rfl := g0.1 _ rfl
      clear g0
      obtain rfl := g1.1 _ rfl
      clear g1
      cases pb
      · rw [if_neg (unwant rfl rfl rfl e1 (by decide))]; exact hK _ _ ⟨fun _ h => no_some h, fun _ h => spec_ok h (fun h => by cases h)⟩ hS (Below.refl _ _)
      · rw [if_pos (want_some rfl rfl rfl e1)]; unfold Oper.wp; go_simp; exact hK _ _ ⟨fun _ h => no_some h, fun _ h => spec_ok h (fun _ => rfl)⟩ hS (Below.refl _ _)
    · intro a u hS hr K hK
      obtain ⟨⟨vl0, e0, g0⟩, ⟨vl1, e1, g1⟩, ⟨vl2, e2, g2⟩, -⟩ := hr
      obtain rfl := g0.1 _ rfl
      clear g0
      replace g1 := g1.2 _ rfl
      obtain rfl := g2.1 _ rfl
      clear g2
      rw [if_pos (want_some rfl rfl rfl e2)]
      unfold Oper.wp
      cases pb
      · go_simp; exact hK _ _ ⟨fun _ h => Option.some.inj h, fun _ h => no_some h⟩ hS (Below.refl _ _)
      · obtain rfl := g1 rfl; go_simp; exact hK _ _ ⟨fun _ h => Option.some.inj h, fun _ h => no_some h⟩ hS (Below.refl _ _)
    · intro a u hS hr K hK
      obtain ⟨⟨vl0, e0, g0⟩, ⟨vl1, e1, g1⟩, ⟨vl2, e2, g2⟩, -⟩ := hr
      obtain rfl := g0.1 _ rfl
      clear g0
      obtain rfl := g1.1 _ rfl
      clear g1
      obtain rfl := g2.1 _ rfl
      clear g2
      rw [if_pos (want_some rfl rfl rfl e2)]
      unfold Oper.wp
      go_simp
      exact hK _ _ ⟨fun _ h => Option.some.inj h, fun _ h => no_some h⟩ hS (Below.refl _ _)
    · intro a u hS hr K hK
      obtain ⟨⟨vl0, e0, g0⟩, ⟨vl1, e1, g1⟩, -⟩ := hr
      obtain rfl := g0.1 _ rfl
      clear g0
      obtain rfl := g1.1 _ rfl
      clear g1
      rw [if_pos (want_none rfl)]
      unfold Oper.wp
      go_simp
      exact hK _ _ ⟨fun _ h => Option.some.inj h, fun _ h => no_some h⟩ hS (Below.refl _ _)
    · intro a u hS hr K hK
      obtain ⟨⟨vl0, e0, g0⟩, -⟩ := hr
      obtain rfl := g0.1 _ rfl
      clear g0
      rw [if_pos (want_none rfl)]
      unfold Oper.wp
      go_simp
      exact hK _ _ ⟨fun _ h => Option.some.inj h, fun _ h => no_some h⟩ hS (Below.refl _ _)
    · intro a u hS hr K hK
      obtain ⟨⟨vl0, e0, g0⟩, ⟨vl1, e1, g1⟩, -⟩ := hr
      obtain rfl := g0.1 _ rfl
      clear g0
      obtain rfl := g1.1 _ rfl
      clear g1
      rw [if_pos (want_some rfl rfl rfl e1)]
      obtain ⟨⟨r0, r1, r2, r3⟩, ⟨s0, s1, s2, s3⟩, ⟨t0, t1, t2, t3⟩, v0, v1, v2, v3⟩ := hS.box.cells
      unfold Oper.wp
      go_simp
      exact hK _ _ ⟨fun _ h => Option.some.inj h, fun _ h => no_some h⟩ hS (Below.refl _ _)
    · intro a u hS hr K hK
      obtain ⟨⟨vl0, e0, g0⟩, ⟨vl1, e1, g1⟩, -⟩ := hr
      obtain rfl := g0.1 _ rfl
      clear g0
      obtain rfl := g1.1 _ rfl
      clear g1
      rw [if_pos (want_some rfl rfl rfl e1)]
      unfold Oper.wp
      go_simp
      refine (not_any _ _).mono ?_
      rintro e u1 ⟨rfl, hb⟩
      exact hK _ _ ⟨fun _ h => Option.some.inj h, fun _ h => no_some h⟩ (hS.below hb) hb
    · intro a u hS hr K hK
      obtain ⟨⟨vl0, e0, g0⟩, ⟨vl1, e1, g1⟩, -⟩ := hr
      obtain rfl := g0.1 _ rfl
      clear g0
      obtain rfl := g1.1 _ rfl
      clear g1
      rw [if_pos (want_some rfl rfl rfl e1)]
      unfold Oper.wp
      go_simp
      exact hK _ _ ⟨fun _ h => Option.some.inj h, fun _ h => no_some h⟩ hS (Below.refl _ _)
    · intro a u hS hr K hK
      obtain ⟨⟨vl0, e0, g0⟩, ⟨vl1, e1, g1⟩, ⟨vl2, e2, g2⟩, -⟩ := hr
      obtain rfl := g0.1 _ rfl
      clear g0
      obtain rfl := g1.1 _ rfl
      clear g1
      obtain rfl := g2.1 _ rfl
      clear g2
      rw [if_pos (want_some rfl rfl rfl e2)]
      unfold Oper.wp
      go_simp
      refine (has_any (notB p) x _ x0 x1).mono ?_
      rintro e u1 ⟨rfl, hb⟩
      rw [show notB p x.toNat = (!pb) from by rw [← HP.out]; rfl]
      exact hK _ _ ⟨fun _ h => Option.some.inj h, fun _ h => no_some h⟩ (hS.below hb) hb
    · intro a u hS hr K hK
      obtain ⟨⟨vl0, e0, g0⟩, ⟨vl1, e1, g1⟩, -⟩ := hr
      obtain rfl := g0.1 _ rfl
      clear g0
      obtain rfl := g1.1 _ rfl
      clear g1
      rw [if_pos (want_some rfl rfl rfl e1)]
      unfold Oper.wp
      go_simp
      exact hK _ _ ⟨fun _ h => Option.some.inj h, fun _ h => no_some h⟩ hS (Below.refl _ _)
    · intro a u hS hr K hK
      obtain ⟨⟨vl0, e0, g0⟩, ⟨vl1, e1, g1⟩, -⟩ := hr
      obtain rfl := g0.1 _ rfl
      clear g0
      obtain rfl := g1.1 _ rfl
      clear g1
      rw [if_pos (want_some rfl rfl rfl e1)]
      unfold Oper.wp
      go_simp
      exact hK _ _ ⟨fun _ h => Option.some.inj h, fun _ h => no_some h⟩ hS (Below.refl _ _)
    · intro a u hS hr K hK
      obtain ⟨⟨vl0, e0, g0⟩, ⟨vl1, e1, g1⟩, ⟨vl2, e2, g2⟩, -⟩ := hr
      obtain rfl := g0.1 _ rfl
      clear g0
      obtain rfl := g1.1 _ rfl
      clear g1
      obtain rfl := g2.1 _ rfl
      clear g2
      rw [if_pos (want_some rfl rfl rfl e2)]
      unfold Oper.wp
      go_simp
      exact hK _ _ ⟨fun _ h => Option.some.inj h, fun _ h => no_some h⟩ hS (Below.refl _ _)
    · intro a u hS hr K hK
      obtain ⟨⟨vl0, e0, g0⟩, ⟨vl1, e1, g1⟩, -⟩ := hr
      obtain rfl := g0.1 _ rfl
      clear g0
      obtain rfl := g1.1 _ rfl
      clear g1
      rw [if_pos (want_none rfl)]
      unfold Oper.wp
      go_simp
      exact hK _ _ ⟨fun _ h => Option.some.inj h, fun _ h => no_some h⟩ hS (Below.refl _ _)
    · intro a u hS hr K hK
      obtain ⟨⟨vl0, e0, g0⟩, -⟩ := hr
      obtain rfl := g0.1 _ rfl
      clear g0
      rw [if_pos (want_none rfl)]
      unfold Oper.wp
      go_simp
      exact hK _ _ ⟨fun _ h => Option.some.inj h, fun _ h => no_some h⟩ hS (Below.refl _ _)
  intro e n hS6 hts6 hd6 hkn hf
  obtain ⟨v8, e8, g8⟩ := hf 36 _ 8 rfl rfl
  obtain rfl := g8.1 _ rfl
  exact wp_ret (ret_slot Try.results6 e8 (hd6.trans hd5) ⟨rfl, hS6.bel⟩)

end Go.Proofs.Ytbheccbbkolieaa

/- M3: what were Ta Tb Tc Td Te Tf Tg Th Ti Tj. -/
import Derived.Test.YtcidimjjclanmaaDoorM2
import Derived.Test.YtcidimjjclanmaaDoorVv
import Derived.Test.YtcidimjjclanmaaDoorShelf
import Derived.Lib.IndexAny
import Derived.Lib.IndexLaws
import Derived.Lib.IndexBytes
import Derived.Test.YtcidimjjclanmaaDoorM1
import Derived.Lib.AtoiAll
import Derived.WalkLawsBesides

/- The landed parser in memory: a block of six cells; what only reads it, and what goes on by a byte. -/
namespace Go.Proofs.YtcidimjjclanmaaDoor.Sy
open Go.RowKit

abbrev pC (s : ByteArray) (i er pl : Int) (v : Value) (d : Int) : Array Value := #[.string s, .int .i64 i, .int .i64 er, .int .i64 pl, v, .int .i64 d]
section
variable {w w' : World} {b : Nat} {s : ByteArray} {i er pl : Int} {v : Value} {d : Int}
end

/-- Is there a byte at i, and is it one of these? -/
def seesB (s : List Nat) (i : Nat) (t : List Nat) : Bool := decide (i < s.length) && t.contains (at_ s i)
/-- Where a byte is in a text; -1: nowhere. -/
def idx (t : ByteArray) (c : Nat) : Int := Lib.indexByte t.data.toList c.toUInt8
theorem bs_has (t : ByteArray) (c : UInt8) : (bs t).contains c.toNat = t.data.toList.contains c := by
  unfold bs
  generalize t.data.toList = l
  induction l with
  | nil => rfl
  | cons x r ih =>
    rw [List.map_cons, List.contains_cons, List.contains_cons, ih]
    congr 1
    by_cases h : c = x
    · subst h; simp
    · have h2 : ¬ c.toNat = x.toNat := fun e => h (UInt8.toNat_inj.1 e)
      rw [beq_eq_false_iff_ne.2 h, beq_eq_false_iff_ne.2 h2]
theorem u8_back (x : UInt8) : (x.toNat).toUInt8 = x := by simp
theorem idx_has (t : ByteArray) (x : UInt8) : decide (0 ≤ idx t x.toNat) = (bs t).contains x.toNat := by
  unfold idx
  rw [u8_back, bs_has, Lib.contains_iff_indexByte]

section
variable {w : World} {b : Nat} {s : ByteArray} {er pl : Int} {v : Value} {d : Int}
end

end Go.Proofs.YtcidimjjclanmaaDoor.Sy

/- The landed reader: what it sees, what it takes, a name, digits, an escape, a byte of a class. -/
namespace Go.Proofs.YtcidimjjclanmaaDoor.Sy
open Go.RowKit

set_option maxHeartbeats 400000 in
theorem pdigit_any (c : Nat) (w : World) : Calls Tryd.prog 81 #[.int .u8 (c : Int)] w fun e w' => e = .returned (.bool (digitB c)) ∧ w' = w := by
  by_cases h1 : 48 ≤ c
  · have h1i : (48 : Int) ≤ (c : Int) := by omega
    by_cases h2 : c ≤ 57
    · have HV : Hid (digitB c = true) := by show _ = _; simp [digitB, h1, h2]
      have h2i : (c : Int) ≤ 57 := by omega
      go_enter Tryd.func81, Tryd.ntmps81
      go_wp2
      go_ret
      exact ⟨by rw [HV.out]; rfl, rfl⟩
    · have HV : Hid (digitB c = false) := by show _ = _; simp [digitB]; omega
      have h2i : ¬ (c : Int) ≤ 57 := by omega
      go_enter Tryd.func81, Tryd.ntmps81
      go_wp2
      go_ret
      exact ⟨by rw [HV.out]; rfl, rfl⟩
  · have HV : Hid (digitB c = false) := by show _ = _; simp [digitB]; omega
    have h1i : ¬ (48 : Int) ≤ (c : Int) := by omega
    go_enter Tryd.func81, Tryd.ntmps81
    go_wp2
    go_ret
    exact ⟨by rw [HV.out]; rfl, rfl⟩

section
variable {w : World} {b : Nat} {s : ByteArray} {er pl : Int} {v : Value} {d : Int}


theorem sees_one (t : List Nat) (i c : Nat) : seesB t i [c] = is t i c := by
  unfold seesB is
  congr 1
  by_cases h : at_ t i = c
  · simp [h]
  · rw [beq_eq_false_iff_ne.2 h]
    simp [h]
end

end Go.Proofs.YtcidimjjclanmaaDoor.Sy

/- The landed reader: digits, what stands up to a brace, an escape. -/
namespace Go.Proofs.YtcidimjjclanmaaDoor.Sy
open Go.RowKit
set_option maxRecDepth 100000

/-- Where a parser is. -/
def atOf (w : World) (b : Nat) : Nat := match w.cell? ⟨b, 1, none⟩ with
  | some (.int _ k) => k.toNat
  | _ => 0
section
variable {w w' : World} {b : Nat} {s : ByteArray} {er pl : Int} {v : Value} {d : Int}
theorem digEnd_eq {t : List Nat} {k : Nat} : ∀ (f i : Nat), i ≤ k → (∀ x, i ≤ x → x < k → dig t x = true) → dig t k = false → k - i ≤ f → digEnd t f i = k
  | 0, i, h, _, _, hf => by unfold digEnd; omega
  | f + 1, i, h, h1, h2, hf => by
    unfold digEnd
    rcases Nat.eq_or_lt_of_le h with e | e
    · subst e
      rw [h2]
      rfl
    · rw [h1 i (Nat.le_refl _) e]
      simp only [if_true]
      exact digEnd_eq f (i + 1) e (fun x h3 h4 => h1 x (by omega) h4) h2 (by omega)
theorem ex_bs (s : ByteArray) (i j : Nat) : bs (s.extract i j) = cut (bs s) i j := by
  unfold bs cut
  rw [← List.map_drop, ← List.map_take]
  congr 1
  rw [ByteArray.data_extract, Array.toList_extract]


end

end Go.Proofs.YtcidimjjclanmaaDoor.Sy

/- The landed reader: what stands up to a brace, two digits, an escape, a byte of a class. -/
namespace Go.Proofs.YtcidimjjclanmaaDoor.Sy
open Go.RowKit
set_option maxRecDepth 100000

theorem braceEnd_eq {t : List Nat} {k : Nat} : ∀ (f i : Nat), i ≤ k → k ≤ t.length → (∀ x, i ≤ x → x < k → at_ t x ≠ 125) → (k < t.length → at_ t k = 125) → k - i ≤ f → braceEnd t f i = k
  | 0, i, h, _, _, _, hf => by unfold braceEnd; omega
  | f + 1, i, h, hl, h1, h2, hf => by
    unfold braceEnd
    rcases Nat.eq_or_lt_of_le h with e | e
    · subst e
      split
      · rename_i h3
        rw [if_pos (h2 h3)]
      · rfl
    · rw [if_pos (by omega), if_neg (h1 i (Nat.le_refl _) e)]
      exact braceEnd_eq f (i + 1) e hl (fun x h3 h4 => h1 x (by omega) h4) h2 (by omega)
theorem at_data (s : ByteArray) (x c : Nat) (hc : c < 256) (hx : x < s.size) : s.data.toList[x]? = some c.toUInt8 ↔ at_ (bs s) x = c := by
  have hl : x < s.data.toList.length := hx
  unfold at_ bs
  rw [List.getD_eq_getElem?_getD, List.getElem?_map, List.getElem?_eq_getElem hl]
  simp only [Option.map_some, Option.getD_some, Option.some.injEq]
  constructor
  · intro h
    rw [h]
    simp
    omega
  · intro h
    rw [← h]
    simp
theorem ex_tail (s : ByteArray) (i : Nat) : (s.extract i s.size).data.toList = s.data.toList.drop i := by
  rw [ByteArray.data_extract, Array.toList_extract]
  have : s.size = s.data.toList.length := rfl
  rw [this]
  simp [List.extract, List.take_of_length_le]
theorem idx_cut (s : ByteArray) (i c : Nat) (hc : c < 256) :
    (idx (s.extract i s.size) c = -1 ∧ ∀ x, i ≤ x → x < s.size → at_ (bs s) x ≠ c) ∨
    (∃ o : Nat, idx (s.extract i s.size) c = (o : Int) ∧ i + o < s.size ∧ at_ (bs s) (i + o) = c ∧ ∀ x, i ≤ x → x < i + o → at_ (bs s) x ≠ c) := by
  unfold idx
  rw [ex_tail]
  have hge := Lib.indexByte_ge (s.data.toList.drop i) c.toUInt8
  rcases Int.lt_or_le (Lib.indexByte (s.data.toList.drop i) c.toUInt8) 0 with h | h
  · left
    have h1 : Lib.indexByte (s.data.toList.drop i) c.toUInt8 = -1 := by omega
    refine ⟨h1, fun x hx1 hx2 e => ?_⟩
    have h2 := Lib.indexByte_none h1 (x - i)
    rw [List.getElem?_drop, show i + (x - i) = x from by omega] at h2
    exact h2 ((at_data s x c hc hx2).2 e)
  · right
    obtain ⟨o, ho⟩ := Int.eq_ofNat_of_zero_le h
    obtain ⟨h1, h2⟩ := Lib.indexByte_some ho
    rw [List.getElem?_drop] at h1
    have hlt : i + o < s.size := by
      rcases Nat.lt_or_ge (i + o) s.data.toList.length with hl | hl
      · exact hl
      · rw [List.getElem?_eq_none hl] at h1; cases h1
    refine ⟨o, ho, hlt, (at_data s _ c hc hlt).1 h1, fun x hx1 hx2 e => ?_⟩
    have h3 := h2 (x - i) (by omega)
    rw [List.getElem?_drop, show i + (x - i) = x from by omega] at h3
    exact h3 ((at_data s x c hc (by omega)).2 e)

section
variable {w w' : World} {b : Nat} {s : ByteArray} {er pl : Int} {v : Value} {d : Int}

/-- A digit of sixteen; -1: it is none. -/
def hexC (c : Nat) : Int := match hexV c with | some x => (x : Int) | none => -1
theorem idx_hex : ∀ c, c < 256 → idx { data := #[48, 49, 50, 51, 52, 53, 54, 55, 56, 57, 97, 98, 99, 100, 101, 102] } c = hexC c := by decide +kernel
theorem hexV_le {c x : Nat} (h : hexV c = some x) : x ≤ 15 := by
  unfold hexV digitB at h
  split at h
  · rename_i h1
    simp at h1
    cases h
    omega
  · split at h
    · cases h; omega
    · cases h
/-- Two digits, behind an escape that began at f. -/
def hexR (t : List Nat) (f i : Nat) : Except Bad (Nat × Nat) :=
  if t.length ≤ i + 1 then .error (40, t.length) else match hexV (at_ t i), hexV (at_ t (i + 1)) with
    | some x, some y => .ok (16 * x + y, i + 2)
    | _, _ => .error (43, f)
end

end Go.Proofs.YtcidimjjclanmaaDoor.Sy

/- The landed reader: an escape, a byte of a class. -/
namespace Go.Proofs.YtcidimjjclanmaaDoor.Sy
open Go.RowKit
set_option maxRecDepth 100000

section
variable {t : List Nat} {i : Nat}
theorem one_end (h : at_ t i = 92) (h1 : t.length ≤ i + 1) : one t i = .error (40, t.length) := by
  unfold one; rw [if_neg (fun e => e h), if_pos h1]
theorem one_of (h : at_ t i = 92) (h1 : i + 1 < t.length) : one t i =
    if at_ t (i + 1) = 110 then .ok (10, i + 2) else if at_ t (i + 1) = 116 then .ok (9, i + 2) else if at_ t (i + 1) = 114 then .ok (13, i + 2)
    else if at_ t (i + 1) = 120 then hexR t i (i + 2) else if specialB (at_ t (i + 1)) || at_ t (i + 1) == 45 then .ok (at_ t (i + 1), i + 2) else .error (43, i) := by
  unfold one hexR; rw [if_neg (fun e => e h), if_neg (by omega)]
  rfl
theorem marks_has (x : Nat) (c : UInt8) (h : c.toNat = x) : decide (0 ≤ idx { data := #[124, 42, 43, 63, 123, 125, 40, 41, 91, 93, 46, 92, 47, 36, 94, 34, 45] } x) = (specialB x || x == 45) := by
  rw [← h, idx_has]
  show ([124, 42, 43, 63, 123, 125, 40, 41, 91, 93, 46, 92, 47, 36, 94, 34, 45] : List Nat).contains c.toNat = _
  unfold specialB
  rw [show ([124, 42, 43, 63, 123, 125, 40, 41, 91, 93, 46, 92, 47, 36, 94, 34, 45] : List Nat) = [124, 42, 43, 63, 123, 125, 40, 41, 91, 93, 46, 92, 47, 36, 94, 34] ++ [45] from rfl]
  generalize [124, 42, 43, 63, 123, 125, 40, 41, 91, 93, 46, 92, 47, 36, 94, 34] = l
  induction l with
  | nil => simp only [List.nil_append, List.contains_cons, List.contains_nil, Bool.or_false, Bool.false_or]
  | cons y r ih => rw [List.cons_append, List.contains_cons, List.contains_cons, ih, Bool.or_assoc]
end

section
variable {w w' : World} {b : Nat} {s : ByteArray} {er pl : Int} {v : Value} {d : Int}
end

end Go.Proofs.YtcidimjjclanmaaDoor.Sy

/- The landed parser: a byte of a class, and two with what is between them. -/
namespace Go.Proofs.YtcidimjjclanmaaDoor.Sy
open Go.RowKit
set_option maxRecDepth 100000

section
variable {t : List Nat}
theorem member_lt (h : ∀ c ∈ t, c < 256) {i c j : Nat} (ho : member t i = .ok (c, j)) : c < 256 := by
  unfold member at ho
  split at ho
  · cases ho
  · split at ho
    · cases ho
    · exact one_lt h ho
end

section
variable {w w' : World} {b : Nat} {s : ByteArray} {er pl : Int} {v : Value} {d : Int}
end

end Go.Proofs.YtcidimjjclanmaaDoor.Sy

/- The landed parser: a byte of a class, or two and what is between them. -/
namespace Go.Proofs.YtcidimjjclanmaaDoor
open Go.RowKit
section
variable {w w' : World}
theorem Touch.fresh {g h : Nat} (a : Touch g h w w') {x : Addr} (hx : w.heap.size ≤ x.block) (u : Value) : Touch g h w (w'.setCell x u) :=
  ⟨a.os, a.tape, a.output, by simpa [World.setCell] using a.size, fun k hk h1 h2 => (Below.heap_setCell _ _ _ _ (by omega)).trans (a.block k hk h1 h2)⟩
theorem Touch.alloc {g h : Nat} (a : Touch g h w w') (o : Obj) : Touch g h w (w'.alloc o) := a.below ((Below.refl _ _).alloc (Nat.le_refl _) o)
theorem Row4.touch {g h k : Nat} {p : Nat → Bool} (r : Row4 w k p) (a : Touch g h w w') (h1 : k ≠ g) (h2 : k ≠ h) : Row4 w' k p := (a.block k r.lt h1 h2).trans r
end
end Go.Proofs.YtcidimjjclanmaaDoor
namespace Go.Proofs.YtcidimjjclanmaaDoor.Sy
open Go.RowKit
set_option maxRecDepth 100000

section
variable {w w' : World} {b : Nat} {s : ByteArray} {er pl : Int} {v : Value} {d : Int}


theorem ret_span {fn : Func} {R : Ending → World → Prop} {a : Act} {w : World} {t g u : Nat} {q : Nat → Bool} {z : Bool} (hr : fn.results = #[.cell t 41, .tmp u]) (ht : a.tmps.getD t undef = .pointer (some ⟨g, 0, none⟩)) (hu : a.tmps.getD u undef = .bool z)
    (h : Row4 w g q) (hd : a.defers = []) (hR : R (.returned (.tuple #[.agg #[.int .u64 (W (q) 0), .int .u64 (W (q) 1), .int .u64 (W (q) 2), .int .u64 (W (q) 3)], .bool z])) w) : bodyPost Tryd.prog fn R .ret a w := by
  obtain ⟨c0, c1, c2, c3⟩ := h.cells
  refine bodyPost_ret (v := .tuple #[.agg #[.int .u64 (W (q) 0), .int .u64 (W (q) 1), .int .u64 (W (q) 2), .int .u64 (W (q) 3)], .bool z]) ?_ hd hR
  have ht' : a.tmps[t]?.getD undef = .pointer (some ⟨g, 0, none⟩) := by rw [← ht]; simp
  have hu' : a.tmps[u]?.getD undef = .bool z := by rw [← hu]; simp
  simp [results, hr, go_sem, ht', hu', c0, c1, c2, c3]
theorem rng_one (c i : Nat) : W (inB [(c : Int)]) i = W (rngS c c) i := by
  congr 1
  funext x
  rw [Bool.eq_iff_iff]
  simp [inB, rngS]
  omega
theorem rng_two (lo hi i : Nat) : W (rngB (lo : Int) ((hi : Int) + 1)) i = W (rngS lo hi) i := by
  congr 1
  funext x
  rw [Bool.eq_iff_iff]
  simp [rngB, rngS]
  omega

end

end Go.Proofs.YtcidimjjclanmaaDoor.Sy

/- The landed parser: numbers of bounds. -/
namespace Go.Proofs.YtcidimjjclanmaaDoor.Sy
open Go.RowKit
set_option maxRecDepth 100000

theorem pu_not : ∀ (l : List UInt8) (acc : Nat), (∀ c ∈ l, digitB c.toNat = true) → Lib.parseUint10 acc l = .range ∨ ∃ u, Lib.parseUint10 acc l = .ok u
  | [], acc, _ => .inr ⟨acc, rfl⟩
  | c :: r, acc, h => by
    have h1 := h c (by simp)
    unfold digitB at h1
    simp at h1
    rw [Lib.parseUint10, if_pos h1]
    split
    · exact .inl rfl
    · split
      · exact .inl rfl
      · exact pu_not r _ (fun x hx => h x (by simp [hx]))
theorem pu_ok : ∀ (l : List UInt8) (acc : Nat), (∀ c ∈ l, digitB c.toNat = true) → (acc + 1) * 10 ^ l.length ≤ 1000000000000 → Lib.parseUint10 acc l = .ok (l.foldl (fun v c => v * 10 + (c.toNat - 48)) acc) ∧ l.foldl (fun v c => v * 10 + (c.toNat - 48)) acc < 1000000000000
  | [], acc, _, hl => by
    simp [Lib.parseUint10] at hl ⊢
    omega
  | c :: r, acc, h, hl => by
    have h1 := h c (by simp)
    unfold digitB at h1
    simp at h1
    have h2 : (acc * 10 + (c.toNat - 48) + 1) * 10 ^ r.length ≤ 1000000000000 := by
      rw [List.length_cons, Nat.pow_succ] at hl
      refine Nat.le_trans (Nat.mul_le_mul_right _ (show acc * 10 + (c.toNat - 48) + 1 ≤ (acc + 1) * 10 from by omega)) ?_
      rw [Nat.mul_assoc, Nat.mul_comm 10]
      exact hl
    have h3 : acc * 10 + (c.toNat - 48) + 1 ≤ 1000000000000 := Nat.le_trans (Nat.le_mul_of_pos_right _ (Nat.pow_pos (by decide))) h2
    rw [Lib.parseUint10, if_pos h1, if_neg (by omega), if_neg (by omega), List.foldl_cons]
    exact pu_ok r _ (fun x hx => h x (by simp [hx])) h2
theorem atoi_digits {t : ByteArray} (h : ∀ c ∈ bs t, digitB c = true) (h1 : 1 ≤ t.size) :
    ((∃ v, Lib.atoiAll t.data.toList = .ok v) ∨ Lib.atoiAll t.data.toList = .range) ∧ (t.size ≤ 6 → Lib.atoiAll t.data.toList = .ok ((value (bs t) : Nat) : Int)) := by
  have hl : t.size = t.data.toList.length := rfl
  have hv : value (bs t) = t.data.toList.foldl (fun v c => v * 10 + (c.toNat - 48)) 0 := by unfold value bs; rw [List.foldl_map]
  have hd : ∀ c ∈ t.data.toList, digitB c.toNat = true := fun c hc => h c.toNat (by unfold bs; exact List.mem_map.2 ⟨c, hc, rfl⟩)
  rw [hl] at h1 ⊢
  rw [hv]
  generalize t.data.toList = l at *
  cases l with
  | nil => simp at h1
  | cons c r =>
    have hc := hd c (by simp)
    unfold digitB at hc
    simp at hc
    have e : (if c.toNat = 43 ∨ c.toNat = 45 then r else c :: r) = c :: r := if_neg (by omega)
    have hp : Lib.parseMag (c :: r) = Lib.parseUint10 0 (c :: r) := by unfold Lib.parseMag; rw [if_neg (by simp)]
    have hn : ¬ c.toNat = 45 := by omega
    constructor
    · unfold Lib.atoiAll
      simp only [e, hp]
      rcases pu_not (c :: r) 0 hd with hq | ⟨u, hq⟩
      · rw [hq]
        exact .inr rfl
      · rw [hq]
        simp only [hn, not_false_eq_true, true_and, false_and, if_false]
        split
        · exact .inr rfl
        · exact .inl ⟨_, rfl⟩
    · intro h6
      obtain ⟨h7, h8⟩ := pu_ok (c :: r) 0 hd (by
        have : 10 ^ (c :: r).length ≤ 10 ^ 6 := Nat.pow_le_pow_right (by decide) h6
        have h9 : (10 : Nat) ^ 6 = 1000000 := by decide
        omega)
      unfold Lib.atoiAll
      simp only [e, hp]
      rw [h7]
      simp only [hn, not_false_eq_true, true_and, false_and, if_false]
      rw [if_neg (by omega)]

/-- A number of bounds by its digits, if it is one. -/
def numV (l : List Nat) : Option Nat := if 6 < l.length ∨ (l.getD 0 0 = 48 ∧ 1 < l.length) then none else some (value l)
/-- The same as the landed code tells it. -/
def numI (l : List Nat) : Int := match numV l with | some n => (n : Int) | none => 4097
theorem cut_len {s : List Nat} {i j : Nat} (hj : j ≤ s.length) : (cut s i j).length = j - i := by
  unfold cut
  rw [List.length_take, List.length_drop]
  omega
theorem number_cut {s : List Nat} {i j : Nat} (hij : i < j) (hj : j ≤ s.length) : number s i j = numV (cut s i j) := by
  unfold number numV
  rw [cut_len hj]
  have : (cut s i j).getD 0 0 = at_ s i := by
    unfold cut at_
    rw [List.getD_eq_getElem?_getD, List.getElem?_take, if_pos (by omega), List.getElem?_drop, Nat.add_zero, List.getD_eq_getElem?_getD]
  rw [this]



/-- May something be repeated from lo to hi times? -/
def bndB (lo hi : Int) : Bool := decide (0 ≤ lo) && decide (lo ≤ 4096) && (hi == -1 || (decide (1 ≤ hi) && decide (lo ≤ hi) && decide (hi ≤ 4096)))
set_option maxHeartbeats 1000000 in
theorem arebnd_any (lo hi : Int) (w : World) : Calls Tryd.prog 71 #[.int .i64 lo, .int .i64 hi] w fun e w' => e = .returned (.bool (bndB lo hi)) ∧ w' = w := by
  by_cases h1 : lo < 0
  · skip
    have HV : Hid (bndB lo hi = false) := by show _ = _; unfold bndB; simp; omega
    go_enter Tryd.func71, Tryd.ntmps71
    go_wp2
    go_ret
    exact ⟨by rw [HV.out]; rfl, rfl⟩
  · by_cases h2 : 4096 < lo
    · have h2i : decide ((4096 : Int) < lo) = true := decide_eq_true h2
      have HV : Hid (bndB lo hi = false) := by show _ = _; unfold bndB; simp; omega
      go_enter Tryd.func71, Tryd.ntmps71
      go_wp2
      go_ret
      exact ⟨by rw [HV.out]; rfl, rfl⟩
    · have h2i : decide ((4096 : Int) < lo) = false := decide_eq_false h2
      by_cases h3 : hi = -1
      · subst h3
        have HV : Hid (bndB lo (-1) = true) := by show _ = _; unfold bndB; simp; omega
        go_enter Tryd.func71, Tryd.ntmps71
        go_wp2
        go_ret
        exact ⟨by rw [HV.out]; rfl, rfl⟩
      · have h3i : (hi == -1) = false := beq_eq_false_iff_ne.2 h3
        by_cases h4 : 1 ≤ hi
        · by_cases h5 : lo ≤ hi
          · by_cases h6 : hi ≤ 4096
            · have h6i : decide (hi ≤ 4096) = true := decide_eq_true h6
              have HV : Hid (bndB lo hi = true) := by show _ = _; unfold bndB; simp; omega
              go_enter Tryd.func71, Tryd.ntmps71
              go_wp2
              go_ret
              exact ⟨by rw [HV.out]; rfl, rfl⟩
            · have h6i : decide (hi ≤ 4096) = false := decide_eq_false h6
              have HV : Hid (bndB lo hi = false) := by show _ = _; unfold bndB; simp; omega
              go_enter Tryd.func71, Tryd.ntmps71
              go_wp2
              go_ret
              exact ⟨by rw [HV.out]; rfl, rfl⟩
          · skip
            have HV : Hid (bndB lo hi = false) := by show _ = _; unfold bndB; simp; omega
            go_enter Tryd.func71, Tryd.ntmps71
            go_wp2
            go_ret
            exact ⟨by rw [HV.out]; rfl, rfl⟩
        · skip
          have HV : Hid (bndB lo hi = false) := by show _ = _; unfold bndB; simp; omega
          go_enter Tryd.func71, Tryd.ntmps71
          go_wp2
          go_ret
          exact ⟨by rw [HV.out]; rfl, rfl⟩

end Go.Proofs.YtcidimjjclanmaaDoor.Sy

/- The landed parser: bounds, and how often something is repeated. -/
namespace Go.Proofs.YtcidimjjclanmaaDoor.Sy
open Go.RowKit
set_option maxRecDepth 100000

section
variable {t : List Nat}
theorem digEnd_all : ∀ (f i x : Nat), i ≤ x → x < digEnd t f i → dig t x = true
  | 0, i, x, h1, h2 => by unfold digEnd at h2; omega
  | f + 1, i, x, h1, h2 => by
    unfold digEnd at h2
    split at h2
    · rename_i h3
      rcases Nat.eq_or_lt_of_le h1 with e | e
      · subst e; exact h3
      · exact digEnd_all f (i + 1) x e h2
    · omega
theorem digEnd_pos {f i : Nat} (h : dig t i = true) (hf : 1 ≤ f) : i < digEnd t f i := by
  obtain ⟨g, rfl⟩ : ∃ g, f = g + 1 := ⟨f - 1, by omega⟩
  unfold digEnd
  rw [if_pos h]
  exact digEnd_ge g (i + 1)
theorem digEnd_same {f i : Nat} (h : dig t i = false) : digEnd t f i = i := by
  cases f with
  | zero => rfl
  | succ f => unfold digEnd; rw [h]; rfl
theorem cut_dig {f i j : Nat} (h : digEnd t f i = j) : ∀ c ∈ cut t i j, digitB c = true := by
  intro c hc
  unfold cut at hc
  obtain ⟨k, hk, rfl⟩ := List.getElem_of_mem hc
  rw [List.length_take, List.length_drop] at hk
  have hd := digEnd_all (t := t) f i (i + k) (by omega) (by omega)
  unfold dig at_ at hd
  rw [List.getElem_take, List.getElem_drop]
  rw [List.getD_eq_getElem?_getD, List.getElem?_eq_getElem (by omega)] at hd
  simp at hd
  exact hd.2
/-- What stands behind the first number: P, and the greatest number as its digits m tell it (none: there are none). -/
structure HiP (t : List Nat) (i P : Nat) (l m : List Nat) : Prop where
  lo : loPart t i = numV l
  pl : (hiPart t (loPart t i) (loEnd t i)).2 = P
  hi : (hiPart t (loPart t i) (loEnd t i)).1 = if m = [] then none else some (numV m)
theorem HiP.soon {i P : Nat} {l m : List Nat} (h : HiP t i P l m) (hP : t.length ≤ P) : bounds t i = .error (40, t.length) := by
  unfold bounds; rw [h.pl, if_pos hP]
theorem HiP.no {i P : Nat} {l m : List Nat} (h : HiP t i P l m) (hP : P < t.length) (hn : at_ t P ≠ 125) : bounds t i = .error (41, P) := by
  unfold bounds; rw [h.pl, if_neg (by omega), if_pos hn]
theorem HiP.ok {i P : Nat} {l m : List Nat} (h : HiP t i P l m) (hP : P < t.length) (hn : at_ t P = 125) :
    bounds t i = if bndB (numI l) (if m = [] then -1 else numI m) = true then .ok ((numI l, if m = [] then -1 else numI m), P + 1) else .error (45, i) := by
  unfold bounds
  rw [h.pl, if_neg (by omega), if_neg (fun e => e hn), h.hi, h.lo]
  unfold numI bndB
  cases numV l with
  | none => simp [okBounds]
  | some a =>
    by_cases hm : m = []
    · simp only [hm, if_true]
      by_cases ha : a ≤ 4096
      · rw [show okBounds (some a) none = some ((a : Int), -1) from by simp [okBounds, ha]]
        simp
        omega
      · rw [show okBounds (some a) none = none from by simp [okBounds, ha]]
        simp
        omega
    · simp only [hm, if_false]
      cases numV m with
      | none => simp [okBounds]
      | some c =>
        by_cases ha : a ≤ 4096 ∧ c ≤ 4096 ∧ 1 ≤ c ∧ a ≤ c
        · rw [show okBounds (some a) (some (some c)) = some ((a : Int), (c : Int)) from by simp [okBounds, ha]]
          simp
          omega
        · rw [show okBounds (some a) (some (some c)) = none from by simp [okBounds, ha]]
          simp
          omega
end
end Go.Proofs.YtcidimjjclanmaaDoor.Sy

/- The landed parser: bounds, and how often something is repeated. -/
namespace Go.Proofs.YtcidimjjclanmaaDoor
end Go.Proofs.YtcidimjjclanmaaDoor
namespace Go.Proofs.YtcidimjjclanmaaDoor.Sy
open Go.RowKit
set_option maxRecDepth 100000

section
variable {w w' : World} {b : Nat} {s : ByteArray} {er pl : Int} {v : Value} {d : Int}
theorem str_empty {M : ByteArray} (h : M.size = 0) : bs M = [] := List.eq_nil_of_length_eq_zero (by rw [bs_len]; exact h)
theorem toList_data (M : ByteArray) : M.toList = M.data.toList := ByteArray.toList_eq M
end
end Go.Proofs.YtcidimjjclanmaaDoor.Sy

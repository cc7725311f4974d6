/- The reference's alike: each set has both bytes, or neither. -/
import Derived.Test.YtlfbjnmehdifeaaXa
import Derived.Test.YtlfbjnmehdifeaaRh
namespace Go.Proofs.Ytlfbjnmehdifeaa
open Go.RowKit

/-- Four cells hold a set. -/
def C4 (v : World) (g o : Nat) (p : Nat → Bool) : Prop := v.cell? ⟨g, o, none⟩ = some (.int .u64 (W p 0)) ∧ v.cell? ⟨g, o + 1, none⟩ = some (.int .u64 (W p 1)) ∧ v.cell? ⟨g, o + 2, none⟩ = some (.int .u64 (W p 2)) ∧ v.cell? ⟨g, o + 3, none⟩ = some (.int .u64 (W p 3))
theorem C4.cells {v : World} {g o : Nat} {p : Nat → Bool} (h : C4 v g o p) : v.cell? ⟨g, o, none⟩ = some (.int .u64 (W p 0)) ∧ v.cell? ⟨g, o + 1, none⟩ = some (.int .u64 (W p 1)) ∧ v.cell? ⟨g, o + 2, none⟩ = some (.int .u64 (W p 2)) ∧ v.cell? ⟨g, o + 3, none⟩ = some (.int .u64 (W p 3)) := h
structure AlS (w : World) (B g o : Nat) (p : Nat → Bool) (v : World) : Prop where
  box : C4 v g o p
  lt : g < B
  bel : Below B w v
  le : B ≤ w.heap.size
theorem AlS.below {w : World} {B g o : Nat} {p : Nat → Bool} {v v' : World} (h : AlS w B g o p v) (hb : Below v.heap.size v v') : AlS w B g o p v' := by
  have hl : B ≤ v.heap.size := Nat.le_trans h.le h.bel.size
  have hc : ∀ k, v'.cell? ⟨g, k, none⟩ = v.cell? ⟨g, k, none⟩ := fun k => hb.cell (Nat.lt_of_lt_of_le h.lt hl)
  exact ⟨⟨(hc _).trans h.box.1, (hc _).trans h.box.2.1, (hc _).trans h.box.2.2.1, (hc _).trans h.box.2.2.2⟩, h.lt, h.bel.trans (hb.mono hl), h.le⟩

theorem AlS.drew {w : World} {B g o : Nat} {p : Nat → Bool} {v : World} (h : AlS w B g o p v) : AlS w B g o p v.drew := ⟨h.box, h.lt, h.bel.drew, h.le⟩
theorem AlS.cells {w : World} {B g o : Nat} {p : Nat → Bool} {v : World} (h : AlS w B g o p v) : C4 v g o p := h.box

/-- All of the sets have both, or neither. -/
def likeB (ps : List (Nat → Bool)) (a b : Nat) : Bool := ps.all fun p => p a == p b
theorem like_snoc (ps : List (Nat → Bool)) (k : Nat) (hk : k < ps.length) (a b : Nat) : likeB (ps.take (k + 1)) a b = (likeB (ps.take k) a b && ((ps.getD k noB) a == (ps.getD k noB) b)) := by
  have e : ps.take (k + 1) = ps.take k ++ [ps.getD k noB] := by
    rw [List.take_add_one, List.getD_eq_getElem?_getD, List.getElem?_eq_getElem hk]; rfl
  rw [e]
  unfold likeB
  rw [List.all_append]
  simp
theorem like_no (ps : List (Nat → Bool)) (k : Nat) (hk : k < ps.length) (a b : Nat) (h : ((ps.getD k noB) a == (ps.getD k noB) b) = false) : likeB ps a b = false := by
  unfold likeB
  rw [List.all_eq_false]
  refine ⟨ps.getD k noB, ?_, fun e => Bool.false_ne_true (h.symm.trans e)⟩
  rw [List.getD_eq_getElem?_getD, List.getElem?_eq_getElem hk]
  exact List.getElem_mem hk

set_option maxRecDepth 100000 in
set_option maxHeartbeats 1000000 in
theorem ralike_any (A : Option Addr) (c : Nat) (ps : List (Nat → Bool)) (x y : Int) (w : World) (hS : Sts w w.heap.size A ps) (hl : ps.length ≤ 1000000) (h0 : 0 ≤ x) (h1 : x ≤ 255) (k0 : 0 ≤ y) (k1 : y ≤ 255) :
    Calls Try.prog 28 #[.slice A ps.length c, .int .u8 x, .int .u8 y] w fun e w' => e = .returned (.bool (likeB ps x.toNat y.toNat)) ∧ Below w.heap.size w w' := by
  go_enter Try.func28, Try.ntmps28
  go_wp2
  go_loopw [7] (fun i wr => ∃ k : Nat, k ≤ ps.length ∧ i = .int .i64 k ∧ likeB (ps.take k) x.toNat y.toNat = true ∧ Below w.heap.size w wr) (fun i _ => ps.length - (intOf i).toNat)
  case atStart => exact ⟨0, Nat.zero_le _, rfl, rfl, Below.refl _ _⟩
  case round =>
    obtain ⟨k, hk0, rfl, hc, D0⟩ := hrel
    by_cases hlt : k < ps.length
    · obtain ⟨g, off, rfl, hg, a00, a10, a20, a30⟩ := (hS.below D0).at_ hlt
      have HN := like_no ps k hlt x.toNat y.toNat
      have HY := like_snoc ps k hlt x.toNat y.toNat
      have B0 : AlS w w.heap.size g (off + k * 4) (ps.getD k noB) wr := ⟨⟨a00, a10, a20, a30⟩, hg, D0, Nat.le_refl _⟩
      generalize ps.getD k noB = p at *
      replace HN := hidd HN
      replace HY := hidd HY
      replace hc := hidd hc
      go_wp2
      go_region_held (fun v => v.cell? ⟨g, off + k * 4, none⟩ = some (.int .u64 (W p 0)) ∧ v.cell? ⟨g, off + k * 4 + 1, none⟩ = some (.int .u64 (W p 1)) ∧ v.cell? ⟨g, off + k * 4 + 2, none⟩ = some (.int .u64 (W p 2)) ∧ v.cell? ⟨g, off + k * 4 + 3, none⟩ = some (.int .u64 (W p 3)))
        (go_keep)
        (first
          | (have Z := B1; clear Z; go_at_call 20; (with_reducible refine (rhas_any p y _ k0 k1).mono ?_); rintro e w2 ⟨rfl, hb2⟩; have B2 := B1.below hb2; have D2 := D1.trans (hb2.mono D1.size); obtain ⟨a02, a12, a22, a32⟩ := (B2.cells))
          | (have Z := B0; clear Z; go_at_call 20; (with_reducible refine (rhas_any p x _ h0 h1).mono ?_); rintro e w1 ⟨rfl, hb1⟩; have B1 := B0.drew.below hb1; have D1 := D0.drew.trans (hb1.mono D0.size); obtain ⟨a01, a11, a21, a31⟩ := (B1.cells)))
      all_goals
        clear a00 a10 a20 a30 a01 a11 a21 a31 a02 a12 a22 a32 B0 B1 B2
        generalize p x.toNat = px at *
        generalize p y.toNat = py at *
        cases px <;> cases py
      all_goals go_wp2
      all_goals first
        | (refine ⟨⟨k + 1, by omega, rfl, ?_, D2⟩, by simp [intOf]; omega⟩; rw [HY.out, hc.out]; rfl)
        | (go_ret; exact ⟨by rw [HN.out rfl]; rfl, D2⟩)
    · have hk : k = ps.length := by omega
      rw [hk, List.take_of_length_le (Nat.le_refl _)] at hc
      go_wp2
      go_ret
      exact ⟨by rw [hc]; rfl, D0⟩

end Go.Proofs.Ytlfbjnmehdifeaa

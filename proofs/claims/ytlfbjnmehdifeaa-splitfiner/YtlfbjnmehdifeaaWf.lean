/- And of the reference; slices of sets that a call made. -/
import Derived.Test.YtlfbjnmehdifeaaWe
namespace Go.Proofs.Ytlfbjnmehdifeaa
open Go.RowKit

theorem set_info : (Try.prog.info? 33).map (fun i => (i.zero, i.size, i.bytes)) = some (some (.agg #[.int .u64 0, .int .u64 0, .int .u64 0, .int .u64 0]), 4, 32) := by kernel_rfl

def sw (p : Nat → Bool) : List Value := [.int .u64 (W p 0), .int .u64 (W p 1), .int .u64 (W p 2), .int .u64 (W p 3)]
def sws (ps : List (Nat → Bool)) : List Value := ps.flatMap sw
theorem sws_snoc (ps : List (Nat → Bool)) (p : Nat → Bool) : sws ps ++ sw p = sws (ps ++ [p]) := by simp [sws]
theorem sws_len (ps : List (Nat → Bool)) : (sws ps).length = ps.length * 4 := by
  induction ps with
  | nil => rfl
  | cons p r ih => simp only [sws, List.flatMap_cons, List.length_append] at ih ⊢; rw [ih]; simp [sw]; omega
theorem sws_at (ps : List (Nat → Bool)) (i k : Nat) (hi : i < ps.length) (hk : k < 4) : (sws ps)[i * 4 + k]? = some (.int .u64 (W (ps.getD i noB) k)) := by
  induction ps generalizing i with
  | nil => simp at hi
  | cons p r ih =>
    have e : sws (p :: r) = sw p ++ sws r := by simp [sws]
    rw [e]
    have hl : (sw p).length = 4 := rfl
    cases i with
    | zero =>
      rw [List.getElem?_append_left (by omega)]
      have : k = 0 ∨ k = 1 ∨ k = 2 ∨ k = 3 := by omega
      rcases this with rfl | rfl | rfl | rfl <;> rfl
    | succ i =>
      rw [List.getElem?_append_right (by omega), hl, show (i + 1) * 4 + k - 4 = i * 4 + k from by omega]
      exact ih i (by simpa using hi)

theorem add_at (g j : Nat) : (⟨g, 0, none⟩ : Addr).add j = ⟨g, j, none⟩ := by
  unfold Addr.add
  split
  · subst_vars; rfl
  · simp

theorem cells_new (w : World) (cs : Array Value) (t : TypeId) (l : List Value) (h : cs.toList = l) : ∀ j u, l[j]? = some u → (w.alloc (.cells cs t)).cell? ((⟨w.heap.size, 0, none⟩ : Addr).add j) = some u := by
  intro j u hj
  rw [add_at, World.cell?_alloc_new]
  subst h
  simpa using hj

theorem Sts.of_own {w : World} {b : Nat} {v : Value} {ps : List (Nat → Bool)} (h : w.ownsRow b 33 4 v ps.length (sws ps)) : ∃ A c, v = .slice A ps.length c ∧ Sts w w.heap.size A ps := by
  rcases h.2 with ⟨hv, hn⟩ | ⟨g, cap, cur, hv, hg, hh, h1, h2, h3, h4⟩
  · refine ⟨none, 0, by rw [hv, hn], fun hx => ?_⟩
    exact absurd (List.eq_nil_of_length_eq_zero hn) hx
  · refine ⟨_, cap, hv, fun _ => ⟨g, 0, rfl, ?_, fun i hi k hk => ?_⟩⟩
    · rcases Nat.lt_or_ge g w.heap.size with hl | hl
      · exact hl
      · rw [Array.getElem?_eq_none hl] at hh; cases hh
    · subst hv
      have := h.cellAt (i * 4 + k) (by omega)
      rw [sws_at ps i k hi hk] at this
      rw [Nat.zero_add]
      exact this

theorem everyB_eq (ps : List (Nat → Bool)) : notB (anyB (ps.map notB)) = everyB ps := by
  funext x
  unfold notB anyB everyB
  induction ps with
  | nil => rfl
  | cons p r ih => simp only [List.map_cons, List.any_cons, List.all_cons, Bool.not_or, ih]; simp

set_option maxRecDepth 100000 in
set_option maxHeartbeats 2000000 in
theorem rand_any (A : Option Addr) (c : Nat) (ps : List (Nat → Bool)) (w : World) (hx : Sts w w.heap.size A ps) (hl : ps.length ≤ 1000000) :
    Calls Try.prog 22 #[.slice A ps.length c] w fun e w' => e = .returned (.agg #[.int .u64 (W (everyB ps) 0), .int .u64 (W (everyB ps) 1), .int .u64 (W (everyB ps) 2), .int .u64 (W (everyB ps) 3)]) ∧ Below w.heap.size w w' := by
  obtain ⟨i0, hi0, hz0, hz1, hz2⟩ := info_parts set_info
  go_enter Try.func22, Try.ntmps22
  go_wp2
  go_loopw [3, 4] (fun l i wr => ∃ k : Nat, k ≤ ps.length ∧ i = .int .i64 k ∧ wr.ownsRow (w.heap.size + 1) 33 4 l k (sws ((ps.take k).map notB)) ∧ Row4 wr w.heap.size noB ∧ Below w.heap.size w wr) (fun _ i _ => ps.length - (intOf i).toNat)
  case atStart => exact ⟨0, Nat.zero_le _, rfl, World.ownsRow_nil _ _ _ _, Row4.zero w, (Below.refl _ _).alloc (Nat.le_refl _) _⟩
  case round =>
    obtain ⟨k, hk0, rfl, hown, R, hb⟩ := hrel
    by_cases hlt : k < ps.length
    · have hs : (ps.take (k + 1)).map notB = (ps.take k).map notB ++ [notB (ps.getD k noB)] := by
        rw [List.take_succ_eq_append_getElem hlt, List.getD_eq_getElem?_getD, List.getElem?_eq_getElem hlt, List.map_append]; rfl
      have HS := hidd hs
      clear hs
      obtain ⟨g, off, rfl, hg, x0, x1, x2, x3⟩ := (hx.below hb).at_ hlt
      clear hx
      generalize ps.getD k noB = q at *
      go_wp2_with fail
      refine (rnot_any q _).mono ?_
      rintro e w1 ⟨rfl, hb1⟩
      have Q := R.below hb1 R.lt
      have hown1 := own_below hown hb1 (Nat.le_refl _)
      have hbb := hb.trans (hb1.mono hb.size)
      have hz := Q.lt
      clear x0 x1 x2 x3 R hown hb1
      go_wp2_with (at_builtin; refine wpList_append_own _ rfl (.tmp 11) (.tmp 17) 22 rfl (w.heap.size + 1) 33 i0 (.agg #[.int .u64 0, .int .u64 0, .int .u64 0, .int .u64 0]) 4 32 Try.underlying22 hi0 hz0 hz1 hz2 rfl (by omega) _ _ _ rfl (hown1.alloc _) ⟨w1.heap.size, 0, none⟩ 1 1 (sw (notB q)) rfl rfl (cells_new _ _ _ _ rfl) (by simp [Value.oneCell', sw]) (by simp only [maxLen]; omega) (by omega) (by simp; omega) ?_; intro v2 w2 hown2 hg2 _)
      change (w1.alloc _).grownBy w2 u3.ownBlock at hg2
      have hlt2 := hown1.lt
      refine ⟨⟨k + 1, by omega, rfl, ?_, (Q.alloc _).grown hg2 (fun e => ?_), (hbb.alloc (by omega) _).grown hg2 (by simp; omega) (fun j e => ?_)⟩, by simp [intOf]; omega⟩
      · rw [HS.out, ← sws_snoc]; exact hown2
      · have := (hlt2 _ e.symm).1; omega
      · have := (hlt2 _ e).1; omega
    · have hk : k = ps.length := by omega
      have hown' : wr.ownsRow (w.heap.size + 1) 33 4 u3 (ps.map notB).length (sws (ps.map notB)) := by
        rw [hk, List.take_of_length_le (Nat.le_refl _)] at hown
        rw [List.length_map]; exact hown
      obtain ⟨A', c', hu3, hS⟩ := Sts.of_own hown'
      have HE := hidd (everyB_eq ps)
      clear hown hown'
      have hl' : (ps.map notB).length ≤ 1000000 := by rw [List.length_map]; exact hl
      generalize ps.map notB = qs at *
      subst hu3
      clear hk
      go_wp2_with fail
      refine (ror_any A' c' qs _ hS hl').mono ?_
      rintro e w1 ⟨rfl, hb1⟩
      have Q := R.below hb1 R.lt
      have hbb := hb.trans (hb1.mono hb.size)
      clear hb1 hb R
      go_wp2_with fail
      refine (rnot_any (anyB qs) _).mono ?_
      rintro e w2 ⟨rfl, hb2⟩
      have R := Q.below hb2 Q.lt
      have hb := hbb.trans (hb2.mono hbb.size)
      clear hb2 hbb Q
      obtain ⟨r0, r1, r2, r3⟩ := R.cells
      have rf := R.thawed
      go_wp2
      rw [HE.out]
      exact ret_set Try.results22 rfl (R.fill _) rfl ⟨rfl, (((hb.setCell (by simp) _).setCell (by simp) _).setCell (by simp) _).setCell (by simp) _⟩

end Go.Proofs.Ytlfbjnmehdifeaa

/- A row of bytes: where it ends. -/
import Derived.Test.YtcgondjekpcpgaaDoorPGl
import Derived.Test.YtcgondjekpcpgaaDoorPRs
namespace Go.Proofs.YtcgondjekpcpgaaDoor.Sy.Lg.En
open Go.RowKit Go.Proofs.YtcgondjekpcpgaaDoor.Sy.Ap Go.Proofs.YtcgondjekpcpgaaDoor.Sy.Ap.Wk
set_option maxRecDepth 100000
set_option linter.unusedVariables false

theorem chain_bytes {R : Nat → Rel} {t : List Nat} {x : List Nat} (h : ∀ k, k < x.length → ∀ i j, R k i j ↔ i < t.length ∧ t.getD i 0 = x.getD k 0 ∧ j = i + 1) :
    ∀ (m a : Nat), a + m ≤ x.length → ∀ i j, chainR R (List.range' a m) i j ↔ j = i + m ∧ ∀ q, q < m → i + q < t.length ∧ t.getD (i + q) 0 = x.getD (a + q) 0
  | 0, a, _, i, j => by
    constructor
    · rintro rfl
      exact ⟨rfl, fun q hq => by omega⟩
    · rintro ⟨rfl, _⟩
      rfl
  | m + 1, a, ha, i, j => by
    rw [List.range'_succ]
    show (∃ z, R a i z ∧ chainR R (List.range' (a + 1) m) z j) ↔ _
    constructor
    · rintro ⟨z, h1, h2⟩
      obtain ⟨q1, q2, rfl⟩ := (h a (by omega) i z).1 h1
      obtain ⟨rfl, q3⟩ := (chain_bytes h m (a + 1) (by omega) _ _).1 h2
      refine ⟨by omega, fun q hq => ?_⟩
      cases q with
      | zero => exact ⟨q1, q2⟩
      | succ q =>
        have := q3 q (by omega)
        rw [show i + 1 + q = i + (q + 1) from by omega, show a + 1 + q = a + (q + 1) from by omega] at this
        exact this
    · rintro ⟨rfl, q⟩
      have q0 := q 0 (by omega)
      refine ⟨i + 1, (h a (by omega) _ _).2 ⟨q0.1, q0.2, rfl⟩, (chain_bytes h m (a + 1) (by omega) _ _).2 ⟨by omega, fun k hk => ?_⟩⟩
      have := q (k + 1) (by omega)
      rw [show i + 1 + k = i + (k + 1) from by omega, show a + 1 + k = a + (k + 1) from by omega]
      exact this
def wordN (x : List Nat) : List Nd := litN x ++ [ndCat (List.range x.length)]
theorem wordN_len (x : List Nat) : (wordN x).length = x.length + 1 := by simp [wordN, litN]
theorem word_mt {x : List Nat} (hl : Low (wordN x)) (t : List Nat) (i j : Nat) : Mt (wordN x) t ((wordN x).length - 1) i j ↔ j = i + x.length ∧ ∀ q, q < x.length → i + q < t.length ∧ t.getD (i + q) 0 = x.getD q 0 := by
  have hr : (wordN x)[(wordN x).length - 1]? = some (ndCat (List.range x.length)) := by simp [wordN, litN]
  rw [Mt_eq hl t _ hr]
  show chainR (Mt (wordN x) t) (List.range x.length) i j ↔ _
  have hb : ∀ k, k < x.length → ∀ i j, Mt (wordN x) t k i j ↔ i < t.length ∧ t.getD i 0 = x.getD k 0 ∧ j = i + 1 := fun k hk i j => by
    refine mt_byte hl ?_ i j
    unfold wordN litN
    rw [List.getElem?_append_left (by simp; exact hk), List.getElem?_map, List.getElem?_eq_getElem hk, List.getD_eq_getElem?_getD, List.getElem?_eq_getElem hk]
    rfl
  have := chain_bytes hb x.length 0 (by omega) i j
  rw [← List.range_eq_range'] at this
  rw [this]
  simp only [Nat.zero_add]
theorem word_iff {x : List Nat} (hl : Low (wordN x)) (t : List Nat) {i : Nat} (hi : i ≤ t.length) (j : Nat) : j ∈ endL (wordN x) t i ↔ j = i + x.length ∧ i + x.length ≤ t.length ∧ (t.drop i).take x.length = x := by
  rw [mem_endL hl hi, word_mt hl]
  constructor
  · rintro ⟨rfl, h⟩
    have hle : i + x.length ≤ t.length := by
      cases hx : x.length with
      | zero => omega
      | succ n => have := (h n (by omega)).1; omega
    refine ⟨rfl, hle, ?_⟩
    apply List.ext_getElem
    · rw [List.length_take, List.length_drop]; omega
    · intro q h1 h2
      have := (h q h2).2
      rw [List.getD_eq_getElem?_getD, List.getElem?_eq_getElem (by omega), List.getD_eq_getElem?_getD, List.getElem?_eq_getElem h2] at this
      rw [List.getElem_take, List.getElem_drop]
      exact this
  · rintro ⟨rfl, h1, h2⟩
    refine ⟨rfl, fun q hq => ⟨by omega, ?_⟩⟩
    have e : x.getD q 0 = ((t.drop i).take x.length).getD q 0 := by rw [h2]
    rw [e, List.getD_eq_getElem?_getD, List.getD_eq_getElem?_getD, List.getElem?_take_of_lt hq, List.getElem?_drop]
theorem word_yes {x : List Nat} (hl : Low (wordN x)) (t : List Nat) {i : Nat} (h1 : i + x.length ≤ t.length) (h2 : (t.drop i).take x.length = x) : endL (wordN x) t i = [i + x.length] := by
  refine rise_ext (endL_rise _ _ _) (List.pairwise_singleton _ _) fun j => ?_
  rw [word_iff hl t (by omega), List.mem_singleton]
  exact ⟨fun h => h.1, fun h => ⟨h, h1, h2⟩⟩
theorem word_no {x : List Nat} (hl : Low (wordN x)) (t : List Nat) {i : Nat} (hi : i ≤ t.length) (h : ¬ (i + x.length ≤ t.length ∧ (t.drop i).take x.length = x)) : endL (wordN x) t i = [] := by
  refine rise_ext (endL_rise _ _ _) List.Pairwise.nil fun j => ?_
  rw [word_iff hl t hi]
  constructor
  · rintro ⟨_, q⟩; exact absurd q h
  · intro q; cases q
end Go.Proofs.YtcgondjekpcpgaaDoor.Sy.Lg.En

namespace Go.Proofs.YtcgondjekpcpgaaDoor.Sy.Lg.En
open Go.RowKit Go.Proofs.YtcgondjekpcpgaaDoor.Sy.Ap Go.Proofs.YtcgondjekpcpgaaDoor.Sy.Ap.Wk
set_option maxRecDepth 100000
set_option linter.unusedVariables false

theorem img_in {R : Rel} {N : Nat} {X : Nat → Prop} (hX : ∀ j, X j → j ≤ N) (hR : ∀ i j, R i j → i ≤ N → j ≤ N) (t j : Nat) (h : img (upR R t) X j) : j ≤ N := by
  obtain ⟨i, hi, s, _, q⟩ := h
  exact powR_le hR s i j q (hX i hi)
open Classical in
/-- Some time up to N nothing new is found. -/
theorem up_stop {R : Rel} {N : Nat} {X : Nat → Prop} (hX : ∀ j, X j → j ≤ N) (hR : ∀ i j, R i j → i ≤ N → j ≤ N) : ∀ (s : Nat), (∃ s', s' < s ∧ ∀ j, img R (img (upR R s') X) j → img (upR R s') X j) ∨ s ≤ cnt (fun j => decide (img (upR R s) X j)) N
  | 0 => .inr (Nat.zero_le _)
  | s + 1 => by
    rcases up_stop hX hR s with ⟨s', h1, h2⟩ | h
    · exact .inl ⟨s', by omega, h2⟩
    · by_cases hst : ∀ j, img R (img (upR R s) X) j → img (upR R s) X j
      · exact .inl ⟨s, by omega, hst⟩
      · right
        obtain ⟨x, hx⟩ := Classical.not_forall.1 hst
        rw [Classical.not_imp] at hx
        have hx2 : img (upR R (s + 1)) X x := (img_up R X s x).2 (.inr hx.1)
        have := cnt_more (p := fun j => decide (img (upR R s) X j)) (q := fun j => decide (img (upR R (s + 1)) X j)) (N := N) (fun i h => by
          rw [decide_eq_true_iff] at h ⊢
          exact img_up_more h) (img_in hX hR _ x hx2) (by simpa using hx.2) (by simpa using hx2)
        omega
open Classical in
theorem up_all {R : Rel} {N : Nat} {X : Nat → Prop} (hX : ∀ j, X j → j ≤ N) (hR : ∀ i j, R i j → i ≤ N → j ≤ N) (t j : Nat) (h : img (upR R t) X j) : img (upR R (N + 1)) X j := by
  have hsame : ∃ s', s' ≤ N + 1 ∧ ∀ j, img R (img (upR R s') X) j → img (upR R s') X j := by
    rcases up_stop hX hR (N + 1) with ⟨s', h1, h2⟩ | hc
    · exact ⟨s', by omega, h2⟩
    · refine ⟨N + 1, Nat.le_refl _, fun j q => ?_⟩
      have hf := cnt_full hc j (img_in hX hR (N + 2) j ((img_up R X (N + 1) j).2 (.inr q)))
      rw [decide_eq_true_iff] at hf
      exact hf
  obtain ⟨s', h1, h2⟩ := hsame
  have key := img_up_same h2
  rcases Nat.le_total t s' with q | q
  · have : img (upR R s') X j := by
      obtain ⟨i, hi, s, hs, r⟩ := h
      exact ⟨i, hi, s, by omega, r⟩
    have := (key (N + 1 - s') j).2 this
    rw [show s' + (N + 1 - s') = N + 1 from by omega] at this
    exact this
  · rw [show t = s' + (t - s') from by omega, key] at h
    have := (key (N + 1 - s') j).2 h
    rw [show s' + (N + 1 - s') = N + 1 from by omega] at this
    exact this
/-! ### The tree -/
section
variable {gx : List Gd} {ns : List Nd}
end
end Go.Proofs.YtcgondjekpcpgaaDoor.Sy.Lg.En

namespace Go.Proofs.YtcgondjekpcpgaaDoor.Sy.Lg.En
open Go.RowKit Go.Proofs.YtcgondjekpcpgaaDoor.Sy.Ap Go.Proofs.YtcgondjekpcpgaaDoor.Sy.Ap.Wk
set_option maxRecDepth 100000
set_option linter.unusedVariables false

theorem PrS.below {w : World} {gx gy : List Gd} {i : Nat} {ov : Value} {l : List NR} {wr u : World} (h : PrS w gx gy i ov l wr) (hb : Below wr.heap.size wr u) : PrS w gx gy i ov l u :=
  ⟨own_below h.own hb (Nat.le_refl _), h.map, fun x hx => by
    rcases h.kid x hx with q | q
    · exact .inl (q.below (hb.mono h.bel.size))
    · exact .inr (own_below q hb (Nat.le_refl _)), h.bel.trans (hb.mono h.bel.size)⟩
def repC (lo hi : Int) (q : Nat) : List Value := [.int .u8 5, .int .u64 0, .int .u64 0, .int .u64 0, .int .u64 0, .slice (some ⟨q, 0, none⟩) 1 1, .int .i64 lo, .int .i64 hi, .string { data := #[] }]
/-- Memory while both are joined: the node in its box, its kids' row. -/
structure WpS (w : World) (k : Int) (lo hi : Int) (qb qk : Nat) (u : World) : Prop where
  box : RowA u qb 43 (repC lo hi qk).toArray
  kid : u.ownsRow w.heap.size 3 1 (.slice (some ⟨qk, 0, none⟩) 1 1) 1 (ints [k])
  bel : Below w.heap.size w u
theorem WpS.below {w : World} {k lo hi : Int} {qb qk : Nat} {u u' : World} (h : WpS w k lo hi qb qk u) (hb : Below u.heap.size u u') : WpS w k lo hi qb qk u' :=
  ⟨h.box.below hb h.box.lt, own_below h.kid hb (Nat.le_refl _), h.bel.trans (hb.mono h.bel.size)⟩
section
end
end Go.Proofs.YtcgondjekpcpgaaDoor.Sy.Lg.En

namespace Go.Proofs.YtcgondjekpcpgaaDoor.Sy.Lg.En
open Go.RowKit Go.Proofs.YtcgondjekpcpgaaDoor.Sy.Ap Go.Proofs.YtcgondjekpcpgaaDoor.Sy.Ap.Wk
set_option maxRecDepth 100000
set_option linter.unusedVariables false

/-- Is a text one of a tree? -/
noncomputable def iL (ns : List Nd) (s : ByteArray) : Bool := isL (endL ns (bs s) 0) s.size
def IsC (args : Array Value) (b : Bool) (u : World) : Prop := Calls Tryd.prog 19 args u fun e w' => Below u.heap.size u w' ∧ e = .returned (.bool b)
theorem is_tree {A : Option Addr} {c n : Nat} {gs : List Gd} {ns : List Nd} {s : ByteArray} {w : World} (hx : Nds w w.heap.size A gs) (hg : GN gs ns) (ht : TreeN ns) (hp : PlainN ns) (hs : s.size ≤ 63) (hn : gs.length = n) (hD : DB w) : IsC #[.slice A n c, .string s] (iL ns s) w := by
  have h := ends_tree (c := c) (s := s) (i := 0) hx hg ht hp hs (Nat.zero_le _) hD
  rw [hn] at h
  exact is_any A n c s (by omega) _ (endL_few ns s 0 hs) w h
end Go.Proofs.YtcgondjekpcpgaaDoor.Sy.Lg.En

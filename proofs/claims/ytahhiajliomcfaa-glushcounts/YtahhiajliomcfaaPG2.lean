/- The landed builder of places in memory; places follow others. -/
import Derived.Test.YtahhiajliomcfaaPG1
import Derived.Test.YtahhiajliomcfaaPBg
import Derived.Deep.AppendLies
namespace Go.Proofs.Ytahhiajliomcfaa.Sy.Gl
open Go.RowKit Go.Proofs.Ytahhiajliomcfaa.Sy.Ap Go.Proofs.Ytahhiajliomcfaa.Sy.Ap.Wk Go.Proofs.Ytahhiajliomcfaa.Sy.Lg Go.Proofs.Ytahhiajliomcfaa.Sy.Pl
set_option maxRecDepth 100000
set_option linter.unusedVariables false

/-- A place, and where its row of places that follow lies. -/
abbrev Pv := Pn × Option Addr × Nat
def posL (p : Pn) (A : Option Addr) (c : Nat) : List Value := [.int .u64 (W p.s 0), .int .u64 (W p.s 1), .int .u64 (W p.s 2), .int .u64 (W p.s 3), .int .i64 p.lo, .int .i64 p.hi, .int .i64 ((p.rule : Nat) : Int), .bool p.last, .slice A p.next.length c]
theorem posL_len (p : Pn) (A : Option Addr) (c : Nat) : (posL p A c).length = 9 := rfl
def posC (l : List Pv) : List Value := l.flatMap fun x => posL x.1 x.2.1 x.2.2
theorem posC_snoc (l : List Pv) (x : Pv) : posC l ++ posL x.1 x.2.1 x.2.2 = posC (l ++ [x]) := by simp [posC]
theorem posC_len (l : List Pv) : (posC l).length = l.length * 9 := by
  induction l with
  | nil => rfl
  | cons x r ih =>
    have : posC (x :: r) = posL x.1 x.2.1 x.2.2 ++ posC r := rfl
    rw [this, List.length_append, ih, posL_len, List.length_cons]
    omega
theorem posC_at : ∀ (l : List Pv) (i j : Nat) (x : Pv), l[i]? = some x → j < 9 → (posC l)[i * 9 + j]? = (posL x.1 x.2.1 x.2.2)[j]?
  | [], i, j, x, h, _ => by simp at h
  | y :: r, 0, j, x, h, hj => by
    have h : y = x := by simpa using h
    subst h
    have e : posC (y :: r) = posL y.1 y.2.1 y.2.2 ++ posC r := rfl
    rw [e, Nat.zero_mul, Nat.zero_add, List.getElem?_append_left (by rw [posL_len]; exact hj)]
  | y :: r, i + 1, j, x, h, hj => by
    have h : r[i]? = some x := by simpa using h
    have e : posC (y :: r) = posL y.1 y.2.1 y.2.2 ++ posC r := rfl
    rw [e, List.getElem?_append_right (by rw [posL_len]; omega), posL_len, show (i + 1) * 9 + j - 9 = i * 9 + j by omega]
    exact posC_at r i j x h hj
/-- A part, and where its rows lie. -/
abbrev Tv := Pt × (Option Addr × Nat) × Option Addr × Nat
def ptL (x : Tv) : List Value := [.slice x.2.1.1 x.1.first.length x.2.1.2, .slice x.2.2.1 x.1.last.length x.2.2.2, .bool x.1.nul]
def ptsC (l : List Tv) : List Value := l.flatMap ptL
theorem ptsC_snoc (l : List Tv) (x : Tv) : ptsC l ++ ptL x = ptsC (l ++ [x]) := by simp [ptsC]
theorem ptsC_len (l : List Tv) : (ptsC l).length = l.length * 3 := by
  induction l with
  | nil => rfl
  | cons x r ih =>
    have : ptsC (x :: r) = ptL x ++ ptsC r := rfl
    rw [this, List.length_append, ih, List.length_cons]
    show 3 + _ = _
    omega
theorem ptsC_at : ∀ (l : List Tv) (i j : Nat) (x : Tv), l[i]? = some x → j < 3 → (ptsC l)[i * 3 + j]? = (ptL x)[j]?
  | [], i, j, x, h, _ => by simp at h
  | y :: r, 0, j, x, h, hj => by
    have h : y = x := by simpa using h
    subst h
    have e : ptsC (y :: r) = ptL y ++ ptsC r := rfl
    rw [e, Nat.zero_mul, Nat.zero_add, List.getElem?_append_left (by show j < 3; exact hj)]
  | y :: r, i + 1, j, x, h, hj => by
    have h : r[i]? = some x := by simpa using h
    have e : ptsC (y :: r) = ptL y ++ ptsC r := rfl
    rw [e, List.getElem?_append_right (by show 3 ≤ _; omega), show (i + 1) * 3 + j - (ptL y).length = i * 3 + j by show _ - 3 = _; omega]
    exact ptsC_at r i j x h hj
/-- A row of numbers that nobody writes. -/
abbrev IR (w : World) (B : Nat) (A : Option Addr) (c : Nat) (l : List Nat) : Prop := w.ownsRow B 3 1 (.slice A l.length c) l.length (i64s l)
/-- The part's rows read as they should. -/
def PtOk (w : World) (B : Nat) (x : Tv) : Prop := IR w B x.2.1.1 x.2.1.2 x.1.first ∧ IR w B x.2.2.1 x.2.2.2 x.1.last
theorem i64s_ints (l : List Nat) : i64s l = ints (l.map fun k : Nat => (k : Int)) := by
  unfold i64s ints
  rw [List.map_map]
  rfl
theorem IR.its {w : World} {B : Nat} {A : Option Addr} {c : Nat} {l : List Nat} (h : IR w B A c l) : Its w w.heap.size A (l.map fun k : Nat => (k : Int)) := by
  unfold IR at h
  rw [i64s_ints] at h
  intro hne
  have hpos : 0 < l.length := by
    rcases Nat.eq_zero_or_pos l.length with q | q
    · rw [List.eq_nil_of_length_eq_zero q] at hne
      exact absurd rfl hne
    · exact q
  obtain ⟨g, c', hv, _, hg⟩ := own_pos h hpos
  injection hv with hA _ _
  refine ⟨g, 0, hA, hg, fun i hi => ?_⟩
  have := h.cells (g := g) (by rw [hA]; rfl) i (.int .i64 ((l.map fun k : Nat => (k : Int)).getD i 0)) (by
    unfold ints
    rw [List.getElem?_map, List.getElem?_eq_getElem hi, List.getD_eq_getElem?_getD, List.getElem?_eq_getElem hi]
    rfl)
  rw [addr_add] at this
  rw [Nat.zero_add]
  exact this
theorem IR.at_ {w : World} {B : Nat} {A : Option Addr} {c : Nat} {l : List Nat} (h : IR w B A c l) {i : Nat} (hi : i < l.length) : ∃ g, A = some ⟨g, 0, none⟩ ∧ g < w.heap.size ∧ B ≤ g ∧ w.cell? ⟨g, i, none⟩ = some (.int .i64 ((l[i] : Nat) : Int)) := by
  obtain ⟨g, c', hv, hB, hg⟩ := own_pos h (by omega)
  injection hv with hA _ _
  refine ⟨g, hA, hg, hB, ?_⟩
  have := h.cells (g := g) (by rw [hA]; rfl) i (.int .i64 ((l[i] : Nat) : Int)) (by
    unfold i64s
    rw [List.getElem?_map, List.getElem?_eq_getElem hi]
    rfl)
  rw [addr_add] at this
  exact this
theorem IR.max {w : World} {B : Nat} {A : Option Addr} {c : Nat} {l : List Nat} (h : IR w B A c l) : l.length ≤ 9223372036854775807 := by
  rcases h.2 with ⟨_, h2⟩ | ⟨g, cap, cur, _, _, _, h2, h3, _⟩
  · omega
  · unfold maxLen at h3
    omega
/-- What follows what, as cells. -/
def folV (f : Fol) (i : Nat) : Value := .bool (f (i / 512) (i % 512))
/-- The builder in block bb. -/
structure BS (B : Nat) (w : World) (bb fb many : Nat) (pv : Value) (l : List Pv) (f : Fol) : Prop where
  row : RowA w bb 55 #[pv, .slice (some ⟨fb, 0, none⟩) many many]
  fol : RowF w fb 84 (many * 512) (folV f)
  places : w.ownsRow B 44 9 pv l.length (posC l)
  nexts : ∀ x ∈ l, IR w B x.2.1 x.2.2 x.1.next
  hb : B ≤ bb
  hf : B ≤ fb
  few : many ≤ 512
  nxt : ∀ x ∈ l, x.1.next = [] → x.2.1 = none
/-- What its methods may write. -/
def Wb (bb fb : Nat) (pv : Value) (k : Nat) : Prop := k = bb ∨ k = fb ∨ pv.ownBlock = some k
section
variable {B : Nat} {w w' u : World} {bb fb many : Nat} {pv z : Value} {l : List Pv} {f : Fol}
theorem BS.ne (h : BS B w bb fb many pv l f) : bb ≠ fb := fun q => by
  have h1 := h.row
  have h2 := h.fol
  unfold RowA at h1
  unfold RowF at h2
  rw [q, h2] at h1
  injection h1 with h1
  injection h1 with _ h3
  exact absurd h3 (by decide)
theorem own_neF {base : Nat} {e e' : TypeId} {sz n b m : Nat} {v : Value} {xs : List Value} {h : Nat → Value} (ho : w.ownsRow base e sz v n xs) (hb : RowF w b e' m h) (hne : e ≠ e') : v.ownBlock ≠ some b := own_ne ho hb hne
theorem BS.below (h : BS B w bb fb many pv l f) (hb : Below w.heap.size w w') : BS B w' bb fb many pv l f :=
  ⟨h.row.below hb h.row.lt, h.fol.below hb h.fol.lt, own_below h.places hb (Nat.le_refl _), fun x hx => own_below (h.nexts x hx) hb (Nat.le_refl _), h.hb, h.hf, h.few, h.nxt⟩
theorem BS.size (h : BS B w bb fb many pv l f) : B ≤ w.heap.size := Nat.le_trans h.hb (Nat.le_of_lt h.row.lt)
theorem BS.wb (h : BS B w bb fb many pv l f) : ∀ k, Wb bb fb pv k → B ≤ k := by
  rintro k (rfl | rfl | q)
  · exact h.hb
  · exact h.hf
  · exact (h.places.lt k q).1
theorem BS.cells (h : BS B w bb fb many pv l f) : w.cell? ⟨bb, 0, none⟩ = some pv ∧ w.cell? ⟨bb, 1, none⟩ = some (.slice (some ⟨fb, 0, none⟩) many many) := ⟨h.row.at_ rfl, h.row.at_ rfl⟩
/-- One follows one. -/
theorem BS.setf (h : BS B w bb fb many pv l f) {a b : Nat} (hb : b < 512) : BS B (w.setCell ⟨fb, a * 512 + b, none⟩ (.bool true)) bb fb many pv l (setF f a b) := by
  have hp := own_sb (k := a * 512 + b) h.places (own_neF h.places h.fol (by decide)) (.bool true)
  refine ⟨h.row.far (a := ⟨fb, a * 512 + b, none⟩) (fun q => h.ne q) _, (h.fol.put (a * 512 + b) (.bool true)).congr (fun i hi => ?_), hp, fun x hx => own_sb (h.nexts x hx) (own_neF (h.nexts x hx) h.fol (by decide)) _, h.hb, h.hf, h.few, h.nxt⟩
  unfold folV setF
  by_cases e : i = a * 512 + b
  · rw [if_pos e]
    have h1 : i / 512 = a := by omega
    have h2 : i % 512 = b := by omega
    rw [h1, h2]
    simp
  · rw [if_neg e]
    have h1 : ¬ (i / 512 = a ∧ i % 512 = b) := by omega
    by_cases h3 : i / 512 = a
    · have h4 : ¬ i % 512 = b := fun q => h1 ⟨h3, q⟩
      simp [h4]
    · simp [h3]
/-- A row of numbers grows that is none of its own. -/
theorem BS.grown {row : Option Nat} {base n : Nat} {e : TypeId} {sz : Nat} {v : Value} {xs : List Value} (h : BS B w bb fb many pv l f) (ho : w.ownsRow base e sz v n xs) (he : e ≠ 44 ∧ e ≠ 84 ∧ e ≠ 55) (hn : ∀ x ∈ l, ∀ k, v.ownBlock = some k → (Value.slice x.2.1 x.1.next.length x.2.2).ownBlock ≠ some k) (hg : w.grownBy u v.ownBlock) : BS B u bb fb many pv l f :=
  ⟨(hg.block bb h.row.lt (fun q => own_neR ho h.row he.2.2 q.symm)).trans h.row, h.fol.grown hg (fun q => own_neF ho h.fol he.2.1 q.symm), own_kept h.places hg (fun k hk => own_apart ho h.places he.1 k hk), fun x hx => own_kept (h.nexts x hx) hg (fun k hk => hn x hx k hk), h.hb, h.hf, h.few, h.nxt⟩
theorem keepsW_trans {P : Nat → Prop} {u v w : World} (h : Keeps P u v) (h2 : Keeps P v w) : Keeps P u w := h.trans h2 (fun _ _ q => q)
theorem ir_keeps {A : Option Addr} {c : Nat} {xs : List Nat} {B' : Nat} (h : BS B w bb fb many pv l f) (hi : IR w B' A c xs) (hk : Keeps (Wb bb fb pv) w w') : IR w' B' A c xs := own_keeps hi hk (fun k hk2 => by
  rintro (rfl | rfl | q)
  · exact own_neR hi h.row (by decide) hk2
  · exact own_neF hi h.fol (by decide) hk2
  · exact own_apart hi h.places (by decide) k hk2 q)
theorem ptok_keeps {x : Tv} {B' : Nat} (h : BS B w bb fb many pv l f) (hi : PtOk w B' x) (hk : Keeps (Wb bb fb pv) w w') : PtOk w' B' x := ⟨ir_keeps h hi.1 hk, ir_keeps h hi.2 hk⟩
theorem ptok_below {x : Tv} {B' : Nat} (hi : PtOk w B' x) (hb : Below w.heap.size w w') : PtOk w' B' x := ⟨own_below hi.1 hb (Nat.le_refl _), own_below hi.2 hb (Nat.le_refl _)⟩
theorem lies_wb {u1 : World} {v v1 : Value} {k : Nat} (h : Lies u v v1) (hk : k < u.heap.size) (hn : ¬ Wb bb fb v k) : ¬ Wb bb fb v1 k := by
  rintro (q | q | q)
  · exact hn (.inl q)
  · exact hn (.inr (.inl q))
  · rcases h with h | ⟨k', h, h2⟩
    · exact hn (.inr (.inr (h ▸ q)))
    · rw [h] at q
      cases q
      omega
end
/-- Some follow others. -/
theorem link_any {B : Nat} {u : World} {bb fb many : Nat} {pv : Value} {l : List Pv} {f : Fol} (hS : BS B u bb fb many pv l f) {B1 : Nat} {A1 A2 : Option Addr} {c1 c2 : Nat} {l1 l2 : List Nat} (h1 : IR u B1 A1 c1 l1) (h2 : IR u B1 A2 c2 l2) (b1 : ∀ x ∈ l1, x < many) (b2 : ∀ x ∈ l2, x < many) :
    Calls Try.prog 72 #[.pointer (some ⟨bb, 0, none⟩), .slice A1 l1.length c1, .slice A2 l2.length c2] u fun e u' => e = .returned (.tuple #[]) ∧ BS B u' bb fb many pv l (linkF f l1 l2) ∧ Keeps (Wb bb fb pv) u u' := by
  have H1 := hidd h1
  have H2 := hidd h2
  have HS := hidd hS
  have HB1 := hidd b1
  have HB2 := hidd b2
  obtain ⟨n1, hn1⟩ : ∃ n1, l1.length = n1 := ⟨_, rfl⟩
  obtain ⟨n2, hn2⟩ : ∃ n2, l2.length = n2 := ⟨_, rfl⟩
  have HN1 := hidd hn1
  have HN2 := hidd hn2
  have hx1 := h1.max
  have hx2 := h2.max
  rw [hn1] at hx1
  rw [hn2] at hx2
  rw [hn1, hn2]
  have hmf := hS.few
  clear h1 h2 hS b1 b2 hn1 hn2
  go_enter Try.func72, Try.ntmps72
  go_wp2
  go_loopw [12] (fun s12 wr => ∃ i : Nat, i ≤ n1 ∧ s12 = .int .i64 (i : Int) ∧ BS B wr bb fb many pv l (linkF f (l1.take i) l2) ∧ Keeps (Wb bb fb pv) u wr) (fun s12 _ => n1 - (intOf s12).toNat)
  case atStart => exact ⟨0, Nat.zero_le _, rfl, by rw [List.take_zero, link_nil]; exact HS.out, Keeps.of_below (Below.refl _ _)⟩
  case round =>
    obtain ⟨i, hi0, rfl, hS1, hK1⟩ := hrel
    by_cases hlt : i < n1
    · have hlt2 : i < l1.length := by rw [HN1.out]; exact hlt
      obtain ⟨g1, rfl, -, -, x1⟩ := (ir_keeps HS.out H1.out hK1).at_ hlt2
      have HA : Hid (l1[i] < many ∧ l1.take (i + 1) = l1.take i ++ [l1[i]]) := ⟨HB1.out _ (List.getElem_mem hlt2), by rw [List.take_succ_eq_append_getElem hlt2]⟩
      have HS1 := hidd hS1
      have HK1 := hidd hK1
      generalize l1[i] = a at *
      have hii : (i : Int) < (n1 : Int) := by omega
      clear hlt2 hS1 hK1
      go_wp2
      go_loopw [18] (fun s18 wr' => ∃ j : Nat, j ≤ n2 ∧ s18 = .int .i64 (j : Int) ∧ BS B wr' bb fb many pv l (linkF (linkF f (l1.take i) l2) [a] (l2.take j)) ∧ Keeps (Wb bb fb pv) u wr') (fun s18 _ => n2 - (intOf s18).toNat)
      case atStart => exact ⟨0, Nat.zero_le _, rfl, by rw [List.take_zero, link_to]; exact HS1.out, HK1.out⟩
      case round =>
        obtain ⟨j, hj0, rfl, hS2, hK2⟩ := hrel
        clear x1 HS1 HK1
        by_cases hlt2 : j < n2
        · have hlt3 : j < l2.length := by rw [HN2.out]; exact hlt2
          obtain ⟨g2, rfl, -, -, x2⟩ := (ir_keeps HS.out H2.out hK2).at_ hlt3
          have HA2 : Hid (l2[j] < many ∧ l2.take (j + 1) = l2.take j ++ [l2[j]]) := ⟨HB2.out _ (List.getElem_mem hlt3), by rw [List.take_succ_eq_append_getElem hlt3]⟩
          generalize l2[j] = b at *
          have hb5 : b < 512 := by have := HA2.out.1; omega
          have ha := HA.out.1
          have hS3 := hS2.setf (a := a) hb5
          have hK3 := keeps_set hK2 ⟨fb, a * 512 + b, none⟩ (.bool true) (.inl (.inr (.inl rfl)))
          obtain ⟨-, d1⟩ := hS2.cells
          have ht := hS2.fol.thawed (a * 512 + b)
          have x3 := hS2.fol.at_ (a * 512 + b) (by omega)
          unfold folV at x3
          generalize linkF (linkF f (l1.take i) l2) [a] (l2.take j) ((a * 512 + b) / 512) ((a * 512 + b) % 512) = oz at x3
          have hji : (j : Int) < (n2 : Int) := by omega
          have hai : (a : Int) < (many : Int) := by omega
          have hbi : (b : Int) < 512 := by omega
          rw [← link_in] at hS3
          rw [← HA2.out.2] at hS3
          have HS3 := hidd hS3
          have HK3 := hidd hK3
          clear hlt3 hS2 hK2 hS3 hK3
          go_wp2
          exact ⟨⟨j + 1, by omega, rfl, HS3.out, HK3.out⟩, by simp [intOf]; omega⟩
        · have hje : n2 = j := by omega
          subst hje
          rw [List.take_of_length_le (l := l2) (by rw [HN2.out]; exact Nat.le_refl _), link_out, ← HA.out.2] at hS2
          have HS2 := hidd hS2
          have HK2 := hidd hK2
          clear hS2 hK2
          go_wp2
          exact ⟨⟨i + 1, by omega, rfl, HS2.out, HK2.out⟩, by simp [intOf]; omega⟩
    · have hie : n1 = i := by omega
      subst hie
      rw [List.take_of_length_le (l := l1) (by rw [HN1.out]; exact Nat.le_refl _)] at hS1
      have HS1 := hidd hS1
      have HK1 := hidd hK1
      clear hS1 hK1
      go_wp2
      go_end0
      exact ⟨rfl, HS1.out, HK1.out⟩
end Go.Proofs.Ytahhiajliomcfaa.Sy.Gl

/- The document's examples of layer 6. -/
import Derived.Test.YtcidimjjclanmaaDoorG1
import Derived.Test.YtcidimjjclanmaaDoorHg
namespace Go.Proofs.YtcidimjjclanmaaDoor.Sy.Ap
open Go.RowKit
set_option maxRecDepth 100000
set_option linter.unusedVariables false

theorem Forest.lenL {ns : List Nd} {a b : Nat} {ks : List Nat} (h : Forest ns a b ks) : ks.length ≤ b - a := by
  induction h with
  | nil a => simp
  | @snoc a b c ks n h1 hn h2 ih1 ih2 =>
    have := h1.le
    have := h2.le
    rw [List.length_append, List.length_singleton]
    omega
theorem tree_kids {ns : List Nd} (h : TreeN ns) : ∀ n ∈ ns, n.l.length ≤ 1024 := fun n hn => by
  obtain ⟨i, hi, rfl⟩ := List.getElem_of_mem hn
  obtain ⟨n', e, h1, h2⟩ := h.frs.kids i (Nat.zero_le _) hi
  rw [List.getElem?_eq_getElem hi] at h1
  cases h1
  have := Forest.lenL h2
  have := h.few
  omega
theorem gn_kids {gs : List Gd} {ns : List Nd} (hg : GN gs ns) (ht : TreeN ns) : ∀ g ∈ gs, g.l.length ≤ 1024 := fun g hgm => by
  obtain ⟨i, hi, rfl⟩ := List.getElem_of_mem hgm
  have h1 := hg.2 i hi
  have hi2 : i < ns.length := by rw [← hg.1]; exact hi
  have e1 : gs.getD i gd0 = gs[i] := by rw [List.getD_eq_getElem?_getD, List.getElem?_eq_getElem hi]; rfl
  have e2 : ns.getD i nd0 = ns[i] := by rw [List.getD_eq_getElem?_getD, List.getElem?_eq_getElem hi2]; rfl
  rw [e1, e2] at h1
  rw [h1.l, List.length_map]
  exact tree_kids ht _ (List.getElem_mem hi2)
theorem gn_sm {gs : List Gd} {ns : List Nd} (hg : GN gs ns) (ht : TreeN ns) : Small gs := gn_small hg ht.shp (fun g hgm => by have := gn_kids hg ht g hgm; omega)
theorem gn_few {gs : List Gd} {ns : List Nd} (hg : GN gs ns) (ht : TreeN ns) : gs.length ≤ 1024 := by rw [hg.1]; exact ht.few
theorem tree_parse {s : List Nat} (hb : ∀ c ∈ s, c < 256) {ns : List Nd} (h : parse s = .ok ns) : TreeN ns := by
  obtain ⟨h1, h2, h3, h4, -⟩ := parse_tree hb h
  exact ⟨h1, h2, h3, h4⟩
theorem gd_nil : GD [] [] := ⟨rfl, fun i hi => absurd hi (Nat.not_lt_zero _), fun d hd => absurd hd List.not_mem_nil⟩
theorem GD.cons {ds : List DG} {D : List Df} (h : GD ds D) {nm : ByteArray} {gs : List Gd} {m : List Nat} {t : List Nd} (hm : bs nm = m) (hg : GN gs t) (ht : TreeN t) : GD ((nm, gs) :: ds) ((m, t) :: D) := by
  refine ⟨by simp [h.len], fun i hi => ?_, fun x hx => ?_⟩
  · cases i with
    | zero => exact ⟨hm, hg⟩
    | succ i =>
      have := h.at_ i (by simpa using hi)
      simpa using this
  · rcases List.mem_cons.1 hx with q | q
    · subst q; exact ht
    · exact h.trs x q
/-- Defs in a new row. -/
abbrev DR := DG × Option Addr × Nat
def dfsC (l : List DR) : List Value := l.flatMap fun x => dfL x.1 x.2.1 x.2.2
theorem dfsC_at : ∀ (l : List DR) (i j : Nat) (x : DR), l[i]? = some x → j < 2 → (dfsC l)[i * 2 + j]? = (dfL x.1 x.2.1 x.2.2)[j]?
  | [], _, _, _, h, _ => by simp at h
  | y :: r, 0, j, x, h, hj => by
    simp at h
    subst h
    unfold dfsC
    rw [List.flatMap_cons, Nat.zero_mul, Nat.zero_add, List.getElem?_append_left (by show j < 2; exact hj)]
  | y :: r, i + 1, j, x, h, hj => by
    have := dfsC_at r i j x (by simpa using h) hj
    unfold dfsC at this ⊢
    rw [List.flatMap_cons, List.getElem?_append_right (by show 2 ≤ _; omega)]
    show _[(i + 1) * 2 + j - 2]? = _
    rw [show (i + 1) * 2 + j - 2 = i * 2 + j from by omega]
    exact this
theorem dok_of {ds : List DG} {D : List Df} (h : GD ds D) (hl : ds.length ≤ 1000) (hn : ∀ d ∈ ds, d.1.size ≤ maxLen) : DOk ds := by
  refine ⟨hl, hn, fun d hd => ?_, fun d hd => ?_⟩
  · obtain ⟨t, h1, h2⟩ := h.mem hd
    have := gn_few h2 (h.trs _ h1)
    omega
  · obtain ⟨t, h1, h2⟩ := h.mem hd
    exact gn_sm h2 (h.trs _ h1)

/-! ### The examples -/
abbrev xA1 : ByteArray := { data := #[123, 100, 125, 43] }
abbrev xA2 : ByteArray := { data := #[91, 48, 45, 57, 93] }
abbrev xA3 : ByteArray := { data := #[91, 48, 45, 57, 93, 43] }
abbrev xA4 : ByteArray := { data := #[123, 100, 125] }
abbrev xA5 : ByteArray := { data := #[123, 100, 125, 97] }
def digS : Nat → Bool := negS false (uniS noS (rngS 48 57))
abbrev xN1 : List Nd := [ndRef [100], ndRep 0 1 (-1)]
abbrev xN2 : List Nd := [ndBytes digS]
abbrev xN3 : List Nd := [ndBytes digS, ndRep 0 1 (-1)]
abbrev xN4 : List Nd := [ndRef [100]]
abbrev xN5 : List Nd := [ndRef [100], ndBytes (oneS 97), ndCat [0, 1]]
theorem x_p1 : parse (bs xA1) = .ok xN1 := rfl
theorem x_p2 : parse (bs xA2) = .ok xN2 := rfl
theorem x_p3 : parse (bs xA3) = .ok xN3 := rfl
theorem x_p4 : parse (bs xA4) = .ok xN4 := rfl
theorem x_p5 : parse (bs xA5) = .ok xN5 := rfl
/-- The bytes of a short pattern, looked at one by one. -/
def smpB (s : ByteArray) : Bool :=
  (List.range s.size).all fun i =>
    (specialB (at_ (bs s) i) == false || at_ (bs s) i == 40 || at_ (bs s) i == 41 || at_ (bs s) i == 124 || at_ (bs s) i == 42 || at_ (bs s) i == 43 || at_ (bs s) i == 63 || at_ (bs s) i == 123 || at_ (bs s) i == 125 || at_ (bs s) i == 91 || at_ (bs s) i == 93) &&
    (!(at_ (bs s) i == 123) || dig (bs s) (i + 1) || (i == 0 && decide (i + 2 < s.size) && letterB (at_ (bs s) (i + 1)) && at_ (bs s) (i + 2) == 125)) &&
    (!(at_ (bs s) i == 91) || (decide (i + 4 < s.size) && specialB (at_ (bs s) (i + 1)) == false && !(at_ (bs s) (i + 1) == 45) && at_ (bs s) (i + 2) == 45 && specialB (at_ (bs s) (i + 3)) == false && !(at_ (bs s) (i + 3) == 45) && decide (at_ (bs s) (i + 1) ≤ at_ (bs s) (i + 3)) && at_ (bs s) (i + 4) == 93)) &&
    (!dig (bs s) i || dig (bs s) (i + 1) == false)
theorem smp_of {s : ByteArray} (h : smpB s = true) (hz : s.size ≤ 1024) : Rf.Smp s := by
  unfold smpB at h
  rw [List.all_eq_true] at h
  have h' : ∀ i, i < s.size → _ := fun i hi => h i (List.mem_range.2 hi)
  simp only [Bool.and_eq_true, Bool.or_eq_true, beq_iff_eq, Bool.not_eq_true', decide_eq_true_eq, beq_eq_false_iff_ne, ne_eq] at h'
  refine ⟨fun i hi => ?_, fun i hi q => ?_, fun i hi q => ?_, fun i q => ?_, hz⟩
  · have := (h' i hi).1.1.1
    simp only [or_assoc] at this
    exact this
  · rcases (h' i hi).1.1.2 with (r | r) | r
    · exact absurd q r
    · exact .inl r
    · exact .inr ⟨r.1.1.1, ⟨r.1.1.2, r.1.2, r.2⟩⟩
  · rcases (h' i hi).1.2 with r | r
    · exact absurd q r
    · exact ⟨r.1.1.1.1.1.1.1, r.1.1.1.1.1.1.2, r.1.1.1.1.1.2, r.1.1.1.1.2, r.1.1.1.2, r.1.1.2, r.1.2, r.2⟩
  · have hi : i < s.size := by have := (Rf.dig_at q).1; rw [bs_len] at this; exact this
    rcases (h' i hi).2 with r | r
    · rw [q] at r; cases r
    · exact r
theorem x_e1 : expN xN1 [([100], xN2)] = .ok xN3 := by
  unfold expN
  have f1 : findD [([100], xN2)] [100] = some xN2 := rfl
  rw [exF_some (n := ndRef [100]) rfl f1, exF_put (n := ndBytes digS) (by decide) (by decide), exF_nil]
  simp only
  rw [exF_put (n := ndRep 0 1 (-1)) (by decide) (by decide), exF_nil]
  rfl
theorem x_e2 : expN xN4 [([100], xN5)] = .error 61 := by
  unfold expN
  have f1 : findD [([100], xN5)] [100] = some xN5 := rfl
  have f2 : findD (remD [([100], xN5)] (ndRef [100]).name) [100] = none := rfl
  rw [exF_some (n := ndRef [100]) rfl f1, exF_none (n := ndRef [100]) rfl f2]
  rfl
theorem bs_b (s : ByteArray) : ∀ c ∈ bs s, c < 256 := bs_lt s
abbrev dA : ByteArray := { data := #[100] }
theorem right_one {nm : ByteArray} {gs : List Gd} (h1 : nameB (bs nm) = true) (h2 : RightG gs) : RightDs [(nm, gs)] := ⟨fun d hd => by rw [List.mem_singleton] at hd; subst hd; exact ⟨h1, h2⟩, List.pairwise_singleton _ _⟩
end Go.Proofs.YtcidimjjclanmaaDoor.Sy.Ap

/- The document's examples of layer 6. -/
import Derived.Test.YtaagkfiaccmepaaPAn
import Derived.Test.YtaagkfiaccmepaaPHg
namespace Go.Proofs.Ytaagkfiaccmepaa.Sy.Ap
open Go.RowKit
set_option maxRecDepth 100000
set_option linter.unusedVariables false

theorem Forest.lenL {ns : List Nd} {a b : Nat} {ks : List Nat} (h : Forest ns a b ks) : ks.length ≤ b - a := by
  induction h with
  | nil a => simp
  | @snoc a b c ks n h1 hn h2 ih1 ih2 =>
    have := h1.le
    have := h2.le
    rw [List.length_append, List.length_singleton]
    omega
theorem tree_kids {ns : List Nd} (h : TreeN ns) : ∀ n ∈ ns, n.l.length ≤ 1024 := fun n hn => by
  obtain ⟨i, hi, rfl⟩ := List.getElem_of_mem hn
  obtain ⟨n', e, h1, h2⟩ := h.frs.kids i (Nat.zero_le _) hi
  rw [List.getElem?_eq_getElem hi] at h1
  cases h1
  have := Forest.lenL h2
  have := h.few
  omega
theorem gn_kids {gs : List Gd} {ns : List Nd} (hg : GN gs ns) (ht : TreeN ns) : ∀ g ∈ gs, g.l.length ≤ 1024 := fun g hgm => by
  obtain ⟨i, hi, rfl⟩ := List.getElem_of_mem hgm
  have h1 := hg.2 i hi
  have hi2 : i < ns.length := by rw [← hg.1]; exact hi
  have e1 : gs.getD i gd0 = gs[i] := by rw [List.getD_eq_getElem?_getD, List.getElem?_eq_getElem hi]; rfl
  have e2 : ns.getD i nd0 = ns[i] := by rw [List.getD_eq_getElem?_getD, List.getElem?_eq_getElem hi2]; rfl
  rw [e1, e2] at h1
  rw [h1.l, List.length_map]
  exact tree_kids ht _ (List.getElem_mem hi2)
theorem gn_sm {gs : List Gd} {ns : List Nd} (hg : GN gs ns) (ht : TreeN ns) : Small gs := gn_small hg ht.shp (fun g hgm => by have := gn_kids hg ht g hgm; omega)
theorem gn_few {gs : List Gd} {ns : List Nd} (hg : GN gs ns) (ht : TreeN ns) : gs.length ≤ 1024 := by rw [hg.1]; exact ht.few
theorem tree_parse {s : List Nat} (hb : ∀ c ∈ s, c < 256) {ns : List Nd} (h : parse s = .ok ns) : TreeN ns := by
  obtain ⟨h1, h2, h3, h4, -⟩ := parse_tree hb h
  exact ⟨h1, h2, h3, h4⟩
theorem GD.cons {ds : List DG} {D : List Df} (h : GD ds D) {nm : ByteArray} {gs : List Gd} {m : List Nat} {t : List Nd} (hm : bs nm = m) (hg : GN gs t) (ht : TreeN t) : GD ((nm, gs) :: ds) ((m, t) :: D) := by
  refine ⟨by simp [h.len], fun i hi => ?_, fun x hx => ?_⟩
  · cases i with
    | zero => exact ⟨hm, hg⟩
    | succ i =>
      have := h.at_ i (by simpa using hi)
      simpa using this
  · rcases List.mem_cons.1 hx with q | q
    · subst q; exact ht
    · exact h.trs x q
/-! ### The examples -/
/-- The bytes of a short pattern, looked at one by one. -/
def smpB (s : ByteArray) : Bool :=
  (List.range s.size).all fun i =>
    (specialB (at_ (bs s) i) == false || at_ (bs s) i == 40 || at_ (bs s) i == 41 || at_ (bs s) i == 124 || at_ (bs s) i == 42 || at_ (bs s) i == 43 || at_ (bs s) i == 63 || at_ (bs s) i == 123 || at_ (bs s) i == 125 || at_ (bs s) i == 91 || at_ (bs s) i == 93) &&
    (!(at_ (bs s) i == 123) || dig (bs s) (i + 1) || (i == 0 && decide (i + 2 < s.size) && letterB (at_ (bs s) (i + 1)) && at_ (bs s) (i + 2) == 125)) &&
    (!(at_ (bs s) i == 91) || (decide (i + 4 < s.size) && specialB (at_ (bs s) (i + 1)) == false && !(at_ (bs s) (i + 1) == 45) && at_ (bs s) (i + 2) == 45 && specialB (at_ (bs s) (i + 3)) == false && !(at_ (bs s) (i + 3) == 45) && decide (at_ (bs s) (i + 1) ≤ at_ (bs s) (i + 3)) && at_ (bs s) (i + 4) == 93) || (decide (i + 3 < s.size) && specialB (at_ (bs s) (i + 1)) == false && !(at_ (bs s) (i + 1) == 45) && specialB (at_ (bs s) (i + 2)) == false && !(at_ (bs s) (i + 2) == 45) && at_ (bs s) (i + 3) == 93)) &&
    (!dig (bs s) i || dig (bs s) (i + 1) == false)
theorem smp_of {s : ByteArray} (h : smpB s = true) (hz : s.size ≤ 1024) : Rf.Smp s := by
  unfold smpB at h
  rw [List.all_eq_true] at h
  have h' : ∀ i, i < s.size → _ := fun i hi => h i (List.mem_range.2 hi)
  simp only [Bool.and_eq_true, Bool.or_eq_true, beq_iff_eq, Bool.not_eq_true', decide_eq_true_eq, beq_eq_false_iff_ne, ne_eq] at h'
  refine ⟨fun i hi => ?_, fun i hi q => ?_, fun i hi q => ?_, fun i q => ?_, hz⟩
  · have := (h' i hi).1.1.1
    simp only [or_assoc] at this
    exact this
  · rcases (h' i hi).1.1.2 with (r | r) | r
    · exact absurd q r
    · exact .inl r
    · exact .inr ⟨r.1.1.1, ⟨r.1.1.2, r.1.2, r.2⟩⟩
  · rcases (h' i hi).1.2 with (r | r) | r
    · exact absurd q r
    · exact .inl ⟨r.1.1.1.1.1.1.1, r.1.1.1.1.1.1.2, r.1.1.1.1.1.2, r.1.1.1.1.2, r.1.1.1.2, r.1.1.2, r.1.2, r.2⟩
    · exact .inr ⟨r.1.1.1.1.1, r.1.1.1.1.2, r.1.1.1.2, r.1.1.2, r.1.2, r.2⟩
  · have hi : i < s.size := by have := (Rf.dig_at q).1; rw [bs_len] at this; exact this
    rcases (h' i hi).2 with r | r
    · rw [q] at r; cases r
    · exact r
theorem bs_b (s : ByteArray) : ∀ c ∈ bs s, c < 256 := bs_lt s
end Go.Proofs.Ytaagkfiaccmepaa.Sy.Ap

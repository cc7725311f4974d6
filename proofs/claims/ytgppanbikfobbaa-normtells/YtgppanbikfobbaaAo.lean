/- The document's examples of layer 6. -/
import Derived.Test.YtgppanbikfobbaaAn
import Derived.Test.YtgppanbikfobbaaHg
namespace Go.Proofs.Ytgppanbikfobbaa.Sy.Ap
open Go.RowKit
set_option maxRecDepth 100000
set_option linter.unusedVariables false

theorem Forest.lenL {ns : List Nd} {a b : Nat} {ks : List Nat} (h : Forest ns a b ks) : ks.length ≤ b - a := by
  induction h with
  | nil a => simp
  | @snoc a b c ks n h1 hn h2 ih1 ih2 =>
    have := h1.le
    have := h2.le
    rw [List.length_append, List.length_singleton]
    omega
theorem tree_kids {ns : List Nd} (h : TreeN ns) : ∀ n ∈ ns, n.l.length ≤ 1024 := fun n hn => by
  obtain ⟨i, hi, rfl⟩ := List.getElem_of_mem hn
  obtain ⟨n', e, h1, h2⟩ := h.frs.kids i (Nat.zero_le _) hi
  rw [List.getElem?_eq_getElem hi] at h1
  cases h1
  have := Forest.lenL h2
  have := h.few
  omega
theorem gn_kids {gs : List Gd} {ns : List Nd} (hg : GN gs ns) (ht : TreeN ns) : ∀ g ∈ gs, g.l.length ≤ 1024 := fun g hgm => by
  obtain ⟨i, hi, rfl⟩ := List.getElem_of_mem hgm
  have h1 := hg.2 i hi
  have hi2 : i < ns.length := by rw [← hg.1]; exact hi
  have e1 : gs.getD i gd0 = gs[i] := by rw [List.getD_eq_getElem?_getD, List.getElem?_eq_getElem hi]; rfl
  have e2 : ns.getD i nd0 = ns[i] := by rw [List.getD_eq_getElem?_getD, List.getElem?_eq_getElem hi2]; rfl
  rw [e1, e2] at h1
  rw [h1.l, List.length_map]
  exact tree_kids ht _ (List.getElem_mem hi2)
theorem gn_sm {gs : List Gd} {ns : List Nd} (hg : GN gs ns) (ht : TreeN ns) : Small gs := gn_small hg ht.shp (fun g hgm => by have := gn_kids hg ht g hgm; omega)
theorem gn_few {gs : List Gd} {ns : List Nd} (hg : GN gs ns) (ht : TreeN ns) : gs.length ≤ 1024 := by rw [hg.1]; exact ht.few
theorem tree_parse {s : List Nat} (hb : ∀ c ∈ s, c < 256) {ns : List Nd} (h : parse s = .ok ns) : TreeN ns := by
  obtain ⟨h1, h2, h3, h4, -⟩ := parse_tree hb h
  exact ⟨h1, h2, h3, h4⟩
theorem gd_nil : GD [] [] := ⟨rfl, fun i hi => absurd hi (Nat.not_lt_zero _), fun d hd => absurd hd List.not_mem_nil⟩
theorem GD.cons {ds : List DG} {D : List Df} (h : GD ds D) {nm : ByteArray} {gs : List Gd} {m : List Nat} {t : List Nd} (hm : bs nm = m) (hg : GN gs t) (ht : TreeN t) : GD ((nm, gs) :: ds) ((m, t) :: D) := by
  refine ⟨by simp [h.len], fun i hi => ?_, fun x hx => ?_⟩
  · cases i with
    | zero => exact ⟨hm, hg⟩
    | succ i =>
      have := h.at_ i (by simpa using hi)
      simpa using this
  · rcases List.mem_cons.1 hx with q | q
    · subst q; exact ht
    · exact h.trs x q
/-- Defs in a new row. -/
abbrev DR := DG × Option Addr × Nat
def dfsC (l : List DR) : List Value := l.flatMap fun x => dfL x.1 x.2.1 x.2.2
theorem dfsC_at : ∀ (l : List DR) (i j : Nat) (x : DR), l[i]? = some x → j < 2 → (dfsC l)[i * 2 + j]? = (dfL x.1 x.2.1 x.2.2)[j]?
  | [], _, _, _, h, _ => by simp at h
  | y :: r, 0, j, x, h, hj => by
    simp at h
    subst h
    unfold dfsC
    rw [List.flatMap_cons, Nat.zero_mul, Nat.zero_add, List.getElem?_append_left (by show j < 2; exact hj)]
  | y :: r, i + 1, j, x, h, hj => by
    have := dfsC_at r i j x (by simpa using h) hj
    unfold dfsC at this ⊢
    rw [List.flatMap_cons, List.getElem?_append_right (by show 2 ≤ _; omega)]
    show _[(i + 1) * 2 + j - 2]? = _
    rw [show (i + 1) * 2 + j - 2 = i * 2 + j from by omega]
    exact this
theorem dfs_row {w : World} {g B : Nat} {l : List DR} (hr : RowA w g 35 (dfsC l).toArray) (hgB : g < B) (hI : ∀ x ∈ l, Nds w B x.2.1 x.1.2 ∧ x.1.2.length ≤ x.2.2) : Dfs w B (some ⟨g, 0, none⟩) (l.map (·.1)) := by
  refine fun _ => ⟨g, 0, rfl, hgB, fun i hi => ?_⟩
  rw [List.length_map] at hi
  have hx : l[i]? = some l[i] := List.getElem?_eq_getElem hi
  have e : (l.map (·.1)).getD i dg0 = l[i].1 := by rw [List.getD_eq_getElem?_getD, List.getElem?_map, hx]; rfl
  rw [e]
  refine ⟨l[i].2.1, l[i].2.2, (hI _ (List.getElem_mem hi)).1, fun j v hv => ?_, (hI _ (List.getElem_mem hi)).2⟩
  have hj : j < 2 := by
    rcases Nat.lt_or_ge j 2 with h | h
    · exact h
    · rw [List.getElem?_eq_none (by show 2 ≤ j; exact h)] at hv; cases hv
  rw [Nat.zero_add]
  exact hr.at_ (by rw [List.getElem?_toArray, dfsC_at l i j _ hx hj]; exact hv)
theorem dok_of {ds : List DG} {D : List Df} (h : GD ds D) (hl : ds.length ≤ 1000) (hn : ∀ d ∈ ds, d.1.size ≤ maxLen) : DOk ds := by
  refine ⟨hl, hn, fun d hd => ?_, fun d hd => ?_⟩
  · obtain ⟨t, h1, h2⟩ := h.mem hd
    have := gn_few h2 (h.trs _ h1)
    omega
  · obtain ⟨t, h1, h2⟩ := h.mem hd
    exact gn_sm h2 (h.trs _ h1)

/-! ### The examples -/
abbrev xA1 : ByteArray := { data := #[123, 100, 125, 43] }
abbrev xA2 : ByteArray := { data := #[91, 48, 45, 57, 93] }
abbrev xA3 : ByteArray := { data := #[91, 48, 45, 57, 93, 43] }
abbrev xA4 : ByteArray := { data := #[123, 100, 125] }
abbrev xA5 : ByteArray := { data := #[123, 100, 125, 97] }
def digS : Nat → Bool := negS false (uniS noS (rngS 48 57))
abbrev xN1 : List Nd := [ndRef [100], ndRep 0 1 (-1)]
abbrev xN2 : List Nd := [ndBytes digS]
abbrev xN3 : List Nd := [ndBytes digS, ndRep 0 1 (-1)]
abbrev xN4 : List Nd := [ndRef [100]]
abbrev xN5 : List Nd := [ndRef [100], ndBytes (oneS 97), ndCat [0, 1]]
theorem x_p1 : parse (bs xA1) = .ok xN1 := rfl
theorem x_p2 : parse (bs xA2) = .ok xN2 := rfl
theorem x_p3 : parse (bs xA3) = .ok xN3 := rfl
theorem x_p4 : parse (bs xA4) = .ok xN4 := rfl
theorem x_p5 : parse (bs xA5) = .ok xN5 := rfl
/-- The bytes of a short pattern, looked at one by one. -/
def smpB (s : ByteArray) : Bool :=
  (List.range s.size).all fun i =>
    (specialB (at_ (bs s) i) == false || at_ (bs s) i == 40 || at_ (bs s) i == 41 || at_ (bs s) i == 124 || at_ (bs s) i == 42 || at_ (bs s) i == 43 || at_ (bs s) i == 63 || at_ (bs s) i == 123 || at_ (bs s) i == 125 || at_ (bs s) i == 91 || at_ (bs s) i == 93) &&
    (!(at_ (bs s) i == 123) || dig (bs s) (i + 1) || (i == 0 && decide (i + 2 < s.size) && letterB (at_ (bs s) (i + 1)) && at_ (bs s) (i + 2) == 125)) &&
    (!(at_ (bs s) i == 91) || (decide (i + 4 < s.size) && specialB (at_ (bs s) (i + 1)) == false && !(at_ (bs s) (i + 1) == 45) && at_ (bs s) (i + 2) == 45 && specialB (at_ (bs s) (i + 3)) == false && !(at_ (bs s) (i + 3) == 45) && decide (at_ (bs s) (i + 1) ≤ at_ (bs s) (i + 3)) && at_ (bs s) (i + 4) == 93)) &&
    (!dig (bs s) i || dig (bs s) (i + 1) == false)
theorem smp_of {s : ByteArray} (h : smpB s = true) (hz : s.size ≤ 1024) : Rf.Smp s := by
  unfold smpB at h
  rw [List.all_eq_true] at h
  have h' : ∀ i, i < s.size → _ := fun i hi => h i (List.mem_range.2 hi)
  simp only [Bool.and_eq_true, Bool.or_eq_true, beq_iff_eq, Bool.not_eq_true', decide_eq_true_eq, beq_eq_false_iff_ne, ne_eq] at h'
  refine ⟨fun i hi => ?_, fun i hi q => ?_, fun i hi q => ?_, fun i q => ?_, hz⟩
  · have := (h' i hi).1.1.1
    simp only [or_assoc] at this
    exact this
  · rcases (h' i hi).1.1.2 with (r | r) | r
    · exact absurd q r
    · exact .inl r
    · exact .inr ⟨r.1.1.1, ⟨r.1.1.2, r.1.2, r.2⟩⟩
  · rcases (h' i hi).1.2 with r | r
    · exact absurd q r
    · exact ⟨r.1.1.1.1.1.1.1, r.1.1.1.1.1.1.2, r.1.1.1.1.1.2, r.1.1.1.1.2, r.1.1.1.2, r.1.1.2, r.1.2, r.2⟩
  · have hi : i < s.size := by have := (Rf.dig_at q).1; rw [bs_len] at this; exact this
    rcases (h' i hi).2 with r | r
    · rw [q] at r; cases r
    · exact r
theorem x_e1 : expN xN1 [([100], xN2)] = .ok xN3 := by
  unfold expN
  have f1 : findD [([100], xN2)] [100] = some xN2 := rfl
  rw [exF_some (n := ndRef [100]) rfl f1, exF_put (n := ndBytes digS) (by decide) (by decide), exF_nil]
  simp only
  rw [exF_put (n := ndRep 0 1 (-1)) (by decide) (by decide), exF_nil]
  rfl
theorem x_e2 : expN xN4 [([100], xN5)] = .error 61 := by
  unfold expN
  have f1 : findD [([100], xN5)] [100] = some xN5 := rfl
  have f2 : findD (remD [([100], xN5)] (ndRef [100]).name) [100] = none := rfl
  rw [exF_some (n := ndRef [100]) rfl f1, exF_none (n := ndRef [100]) rfl f2]
  rfl
theorem bs_b (s : ByteArray) : ∀ c ∈ bs s, c < 256 := bs_lt s
abbrev dA : ByteArray := { data := #[100] }
theorem right_one {nm : ByteArray} {gs : List Gd} (h1 : nameB (bs nm) = true) (h2 : RightG gs) : RightDs [(nm, gs)] := ⟨fun d hd => by rw [List.mem_singleton] at hd; subst hd; exact ⟨h1, h2⟩, List.pairwise_singleton _ _⟩
/-- One Def in a new row. -/
theorem one_def {w : World} {A : Option Addr} {c : Nat} {nm : ByteArray} {gs : List Gd} (hN : Nds w w.heap.size A gs) (hc : gs.length ≤ c) : Dfs (w.alloc (.cells #[.string nm, .slice A gs.length c] 35)) (w.alloc (.cells #[.string nm, .slice A gs.length c] 35)).heap.size (some ⟨w.heap.size, 0, none⟩) [(nm, gs)] := by
  have hb : Below w.heap.size w (w.alloc (.cells #[.string nm, .slice A gs.length c] 35)) := (Below.refl _ _).alloc (Nat.le_refl _) _
  exact dfs_row (l := [((nm, gs), A, c)]) (RowA.new w 35 #[.string nm, .slice A gs.length c]) (by simp) (fun x hx => by
    rw [List.mem_singleton] at hx
    subst hx
    exact ⟨(hN.below hb).more hb.size, hc⟩)
set_option maxHeartbeats 2000000 in
theorem shown_any (w : World) : Calls Try.prog 10 #[] w fun e w' => e = .returned (.bool true) ∧ Below w.heap.size w w' := by
  have t1 := tree_parse (bs_b xA1) x_p1
  have t2 := tree_parse (bs_b xA2) x_p2
  have t3 := tree_parse (bs_b xA3) x_p3
  have t4 := tree_parse (bs_b xA4) x_p4
  have t5 := tree_parse (bs_b xA5) x_p5
  have H1 : Hid (∀ u, _) := fun u => Rf.refparse_cap xA1 (smp_of (by decide) (by decide)) xN1 x_p1 u
  have H2 : Hid (∀ u, _) := fun u => Rf.refparse_cap xA2 (smp_of (by decide) (by decide)) xN2 x_p2 u
  have H3 : Hid (∀ u, _) := fun u => Rf.refparse_cap xA3 (smp_of (by decide) (by decide)) xN3 x_p3 u
  have H4 : Hid (∀ u, _) := fun u => Rf.refparse_cap xA4 (smp_of (by decide) (by decide)) xN4 x_p4 u
  have H5 : Hid (∀ u, _) := fun u => Rf.refparse_cap xA5 (smp_of (by decide) (by decide)) xN5 x_p5 u
  have HT := hidd (⟨t1, t2, t3, t4, t5⟩ : TreeN xN1 ∧ TreeN xN2 ∧ TreeN xN3 ∧ TreeN xN4 ∧ TreeN xN5)
  clear t1 t2 t3 t4 t5
  go_enter Try.func10, Try.ntmps10
  go_wp2_with fail
  refine (H1.out _).mono ?_
  rintro e w1 ⟨A1, c1, g1, rfl, N1, G1, b1, k1⟩
  go_wp2_with fail
  refine (H2.out _).mono ?_
  rintro e w2 ⟨A2, c2, g2, rfl, N2, G2, b2, k2⟩
  go_wp2_with fail
  refine (H3.out _).mono ?_
  rintro e w3 ⟨A3, c3, g3, rfl, N3, G3, b3, k3⟩
  go_wp2_with fail
  refine (H4.out _).mono ?_
  rintro e w4 ⟨A4, c4, g4, rfl, N4, G4, b4, k4⟩
  go_wp2_with fail
  refine (H5.out _).mono ?_
  rintro e w5 ⟨A5, c5, g5, rfl, N5, G5, b5, k5⟩
  have b35 := b4.trans (b5.mono b4.size)
  have b25 := b3.trans (b35.mono b3.size)
  have b15 := b2.trans (b25.mono b2.size)
  have N1' := (N1.below b15).more b15.size
  have N2' := (N2.below b25).more b25.size
  have N3' := (N3.below b35).more b35.size
  have N4' := (N4.below b5).more b5.size
  have HB5 := hidd (b1.trans (b15.mono b1.size))
  have hD := one_def (nm := dA) N2' k2
  have hb6 : Below w5.heap.size w5 (w5.alloc (.cells #[.string dA, .slice A2 g2.length c2] 35)) := (Below.refl _ _).alloc (Nat.le_refl _) _
  have G1d := gd_nil.cons (nm := dA) (m := [100]) rfl G2 HT.out.2.1
  have hx1 := xpand_ok A1 c1 g1 xN1 (some ⟨w5.heap.size, 0, none⟩) 1 [(dA, g2)] [([100], xN2)] _ ((N1'.below hb6).more hb6.size) k1 (gn_sm G1 HT.out.1) hD (dok_of G1d (by simp) (fun d hd => by rw [List.mem_singleton] at hd; subst hd; show 1 ≤ maxLen; unfold maxLen; omega)) G1 HT.out.1 (right_one rfl (tree_rg G2 HT.out.2.1)) G1d
  rw [x_e1] at hx1
  clear hD
  go_wp2_with fail
  refine hx1.mono ?_
  rintro e w7 ⟨b7, A7, c7, g7, rfl, N7, G7, k7⟩
  have b57 := hb6.trans (b7.mono hb6.size)
  have N3'' := (N3'.below b57).more b57.size
  have N4'' := (N4'.below b57).more b57.size
  have N5'' := (N5.below b57).more b57.size
  have HB7 := hidd (HB5.out.trans (b57.mono HB5.out.size))
  clear hx1 hb6 b57 b7 N1' N2' N3' N4' N1 N2 N3 N4 N5 b1 b2 b3 b4 b5 b15 b25 b35 G1d
  have hD := one_def (nm := dA) N5'' k5
  have hb8 : Below w7.heap.size w7 (w7.alloc (.cells #[.string dA, .slice A5 g5.length c5] 35)) := (Below.refl _ _).alloc (Nat.le_refl _) _
  have G5d := gd_nil.cons (nm := dA) (m := [100]) rfl G5 HT.out.2.2.2.2
  have hx2 := xpand_ok A4 c4 g4 xN4 (some ⟨w7.heap.size, 0, none⟩) 1 [(dA, g5)] [([100], xN5)] _ ((N4''.below hb8).more hb8.size) k4 (gn_sm G4 HT.out.2.2.2.1) hD (dok_of G5d (by simp) (fun d hd => by rw [List.mem_singleton] at hd; subst hd; show 1 ≤ maxLen; unfold maxLen; omega)) G4 HT.out.2.2.2.1 (right_one rfl (tree_rg G5 HT.out.2.2.2.2)) G5d
  rw [x_e2] at hx2
  clear hD
  go_wp2_with fail
  refine hx2.mono ?_
  rintro e w9 ⟨b9, h9⟩
  have h9' : e = .returned (.tuple #[.slice none 0 0, .int .i64 61]) := h9
  subst h9'
  have b79 := hb8.trans (b9.mono hb8.size)
  have HB9 := hidd (HB7.out.trans (b79.mono HB7.out.size))
  have hs := same_any A7 A3 c7 c3 g7 g3 w9 ((N7.below b79).more b79.size) ((N3''.below b79).more b79.size) (G7.leq G3) (by have := gn_few G7 HT.out.2.2.1; omega) (fun g hg => by have := gn_kids G7 HT.out.2.2.1 g hg; omega)
  clear hx2 hb8 b9 h9 b79 N7 N3'' N4'' N5'' G5d
  go_wp2_with fail
  refine hs.mono ?_
  rintro e w10 ⟨rfl, b10⟩
  have HB10 := hidd (HB9.out.trans (b10.mono HB9.out.size))
  clear hs b10
  go_wp2
  go_ret
  exact ⟨rfl, HB10.out⟩
end Go.Proofs.Ytgppanbikfobbaa.Sy.Ap

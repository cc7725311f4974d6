/- The laws' head: the document's examples. -/
import Derived.Test.YtcgondjekpcpgaaDoorPGa
import Derived.Test.YtcgondjekpcpgaaDoorPCa
import Derived.Test.YtcgondjekpcpgaaDoorPBf
namespace Go.Proofs.YtcgondjekpcpgaaDoor.Sy.Lg.En
open Go.RowKit Go.Proofs.YtcgondjekpcpgaaDoor.Sy.Ap Go.Proofs.YtcgondjekpcpgaaDoor.Sy.Ap.Wk
set_option maxRecDepth 100000
set_option linter.unusedVariables false

/-! ### What the examples mean -/
abbrev eA1 : ByteArray := { data := #[97, 123, 49, 44, 50, 125] }
abbrev eA2 : ByteArray := { data := #[40, 97, 98, 41, 42] }
abbrev eT1 : ByteArray := { data := #[97, 97, 97] }
abbrev eT2 : ByteArray := { data := #[97, 98, 97, 98, 97] }
abbrev eN1 : List Nd := [ndBytes (oneS 97), ndRep 0 1 2]
abbrev eN2 : List Nd := [ndBytes (oneS 97), ndBytes (oneS 98), ndCat [0, 1], ndRep 2 0 (-1)]
theorem e_p1 : parse (bs eA1) = .ok eN1 := rfl
theorem e_p2 : parse (bs eA2) = .ok eN2 := rfl
theorem mt_byte {ns : List Nd} (hl : Low ns) {t : List Nat} {k c : Nat} (hn : ns[k]? = some (ndBytes (oneS c))) (i j : Nat) : Mt ns t k i j ↔ i < t.length ∧ t.getD i 0 = c ∧ j = i + 1 := by
  rw [Mt_eq hl t k hn]
  unfold node1
  rw [if_pos (show (ndBytes (oneS c)).op = 2 from rfl)]
  show i < t.length ∧ (t.getD i 0 == c) = true ∧ j = i + 1 ↔ _
  rw [beq_iff_eq]
theorem e_ends : endL eN1 (bs eT1) 0 = [1, 2] := by
  have hl := (tree_parse (bs_b eA1) e_p1).low
  have h0 := fun i j => mt_byte hl (t := bs eT1) (k := 0) (c := 97) rfl i j
  have h1 : ∀ j, Mt eN1 (bs eT1) 1 0 j ↔ j = 1 ∨ j = 2 := fun j => by
    rw [Mt_eq hl _ 1 (n := ndRep 0 1 2) rfl]
    show repR (Mt eN1 (bs eT1) 0) 1 2 0 j ↔ _
    constructor
    · rintro ⟨t, q1, q2, q3⟩
      have ht : t = 1 ∨ t = 2 := by omega
      rcases ht with rfl | rfl
      · obtain ⟨m, rfl, h⟩ := q3
        exact .inl ((h0 _ _).1 h).2.2
      · obtain ⟨m, ⟨m2, rfl, h⟩, h2⟩ := q3
        have e1 := ((h0 _ _).1 h).2.2
        have e2 := ((h0 _ _).1 h2).2.2
        omega
    · rintro (rfl | rfl)
      · exact ⟨1, by omega, by omega, 0, rfl, (h0 0 1).2 ⟨by decide, rfl, rfl⟩⟩
      · exact ⟨2, by omega, by omega, 1, ⟨0, rfl, (h0 0 1).2 ⟨by decide, rfl, rfl⟩⟩, (h0 1 2).2 ⟨by decide, rfl, rfl⟩⟩
  unfold endL
  have e : (List.range ((bs eT1).length + 1)) = [0, 1, 2, 3] := rfl
  rw [e]
  show List.filter (fun j => @decide (Mt eN1 (bs eT1) 1 0 j) (Classical.propDecidable _)) [0, 1, 2, 3] = _
  simp [h1]
theorem e_long : (endL eN2 (bs eT2) 0).getLast? = some 4 := by
  have hl := (tree_parse (bs_b eA2) e_p2).low
  have ha := fun i j => mt_byte hl (t := bs eT2) (k := 0) (c := 97) rfl i j
  have hb := fun i j => mt_byte hl (t := bs eT2) (k := 1) (c := 98) rfl i j
  have hab : ∀ i j, Mt eN2 (bs eT2) 2 i j → (i = 0 ∧ j = 2) ∨ (i = 2 ∧ j = 4) := fun i j => by
    rw [Mt_eq hl _ 2 (n := ndCat [0, 1]) rfl]
    rintro ⟨m, h1, m2, h2, rfl⟩
    obtain ⟨q1, q2, rfl⟩ := (ha _ _).1 h1
    obtain ⟨q3, q4, rfl⟩ := (hb _ _).1 h2
    have q1 : i < 5 := q1
    have hi : i = 0 ∨ i = 1 ∨ i = 2 ∨ i = 3 ∨ i = 4 := by omega
    rcases hi with rfl | rfl | rfl | rfl | rfl
    · exact .inl ⟨rfl, rfl⟩
    · exact absurd q2 (by decide)
    · exact .inr ⟨rfl, rfl⟩
    · exact absurd q2 (by decide)
    · exact absurd q3 (by decide)
  have hc : ∀ i j, ((i = 0 ∧ j = 2) ∨ (i = 2 ∧ j = 4)) → Mt eN2 (bs eT2) 2 i j := fun i j h => by
    rw [Mt_eq hl _ 2 (n := ndCat [0, 1]) rfl]
    rcases h with ⟨rfl, rfl⟩ | ⟨rfl, rfl⟩
    · exact ⟨1, (ha 0 1).2 ⟨by decide, rfl, rfl⟩, 2, (hb 1 2).2 ⟨by decide, rfl, rfl⟩, rfl⟩
    · exact ⟨3, (ha 2 3).2 ⟨by decide, rfl, rfl⟩, 4, (hb 3 4).2 ⟨by decide, rfl, rfl⟩, rfl⟩
  have hp : ∀ t j, powR (Mt eN2 (bs eT2) 2) t 0 j → (t = 0 ∧ j = 0) ∨ (t = 1 ∧ j = 2) ∨ (t = 2 ∧ j = 4) := fun t => by
    induction t with
    | zero => intro j h; exact .inl ⟨rfl, h.symm⟩
    | succ t ih =>
      rintro j ⟨m, h1, h2⟩
      have h3 := ih m h1
      have h4 := hab _ _ h2
      omega
  have h3 : ∀ j, Mt eN2 (bs eT2) 3 0 j ↔ j = 0 ∨ j = 2 ∨ j = 4 := fun j => by
    rw [Mt_eq hl _ 3 (n := ndRep 2 0 (-1)) rfl]
    show repR (Mt eN2 (bs eT2) 2) 0 (-1) 0 j ↔ _
    constructor
    · rintro ⟨t, -, -, q⟩
      have := hp t j q
      omega
    · rintro (rfl | rfl | rfl)
      · exact ⟨0, by omega, by omega, rfl⟩
      · exact ⟨1, by omega, by omega, 0, rfl, hc 0 2 (.inl ⟨rfl, rfl⟩)⟩
      · exact ⟨2, by omega, by omega, 2, ⟨0, rfl, hc 0 2 (.inl ⟨rfl, rfl⟩)⟩, hc 2 4 (.inr ⟨rfl, rfl⟩)⟩
  unfold endL
  have e : (List.range ((bs eT2).length + 1)) = [0, 1, 2, 3, 4, 5] := rfl
  rw [e]
  show (List.filter (fun j => @decide (Mt eN2 (bs eT2) 3 0 j) (Classical.propDecidable _)) [0, 1, 2, 3, 4, 5]).getLast? = _
  simp [h3]
/-- What is there for a tree, by the plain meaning. -/
theorem ends_tree {A : Option Addr} {c : Nat} {gs : List Gd} {ns : List Nd} {s : ByteArray} {i : Nat} {w : World} (hx : Nds w w.heap.size A gs) (hg : GN gs ns) (ht : TreeN ns) (hp : PlainN ns) (hs : s.size ≤ 63) (hi : i ≤ s.size) (hD : DB w) : EndsL #[.slice A gs.length c, .string s, .int .i64 (i : Int)] (endL ns (bs s) i) w :=
  lends_ok A c gs ns s i w hx hg ht ((plain_tree hg ht).2 hp) (gn_sm hg ht) hs hi hD
theorem endL_few (ns : List Nd) (s : ByteArray) (i : Nat) (hs : s.size ≤ 63) : (endL ns (bs s) i).length ≤ 100 := by
  have := endL_len ns (bs s) i
  rw [bs_len] at this
  omega
set_option maxHeartbeats 2000000 in
theorem shown7_any (w : World) (hD : DB w) : Calls Tryd.prog 10 #[] w fun e w' => e = .returned (.bool true) ∧ Below w.heap.size w w' := by
  have t1 := tree_parse (bs_b eA1) e_p1
  have t2 := tree_parse (bs_b eA2) e_p2
  have H1 : Hid (∀ u, _) := fun u => Rf.refparse_any eA1 (smp_of (by decide) (by decide)) eN1 e_p1 u
  have H2 : Hid (∀ u, _) := fun u => Rf.refparse_any eA2 (smp_of (by decide) (by decide)) eN2 e_p2 u
  have pl1 : PlainN eN1 := by intro n hn; simp at hn; rcases hn with e | e <;> (subst e; decide)
  have pl2 : PlainN eN2 := by intro n hn; simp at hn; rcases hn with e | e | e | e <;> (subst e; decide)
  have HT := hidd (⟨t1, t2, pl1, pl2⟩ : TreeN eN1 ∧ TreeN eN2 ∧ PlainN eN1 ∧ PlainN eN2)
  have HD := hidd hD
  clear t1 t2 pl1 pl2 hD
  go_enter Tryd.func10, Tryd.ntmps10
  go_wp2_with fail
  refine (H1.out _).mono ?_
  rintro e w1 ⟨A1, c1, g1, rfl, N1, G1, b1⟩
  go_wp2_with fail
  refine (H2.out _).mono ?_
  rintro e w2 ⟨A2, c2, g2, rfl, N2, G2, b2⟩
  have b02 := b1.trans (b2.mono b1.size)
  have N1' := (N1.below b2).more b2.size
  have E2 := ends_tree (c := c2) (s := eT2) (i := 0) N2 G2 HT.out.2.1 HT.out.2.2.2 (by decide) (Nat.zero_le _) (HD.out.below b02)
  have hlo := longest_any A2 g2.length c2 eT2 0 _ (endL_few eN2 eT2 0 (by decide)) w2 E2
  have HZ : longZ (endL eN2 (bs eT2) 0) 0 = 4 := by unfold longZ; rw [e_long]; rfl
  have HBZ : longB (endL eN2 (bs eT2) 0) 0 = true := by unfold longB; rw [e_long]; rfl
  rw [HZ, HBZ] at hlo
  have HB2 := hidd b02
  clear E2 HZ HBZ b02 b1 b2 N1 N2 G2
  go_wp2_with fail
  refine hlo.mono ?_
  rintro e w3 ⟨b3, rfl⟩
  have N1'' := (N1'.below b3).more b3.size
  have B3 := HB2.out.trans (b3.mono HB2.out.size)
  have E1 := ends_tree (c := c1) (s := eT1) (i := 0) N1'' G1 HT.out.1 HT.out.2.2.1 (by decide) (Nat.zero_le _) (HD.out.below B3)
  rw [e_ends] at E1
  have HB3 := hidd B3
  have HE1 := hidd E1
  clear hlo B3 E1 N1' N1'' G1 b3
  go_wp2_with fail
  refine HE1.out.mono ?_
  rintro e w4 ⟨b4, A4, c4, rfl, own4⟩
  have hN4 := nts_own own4
  have B4 := HB3.out.trans (b4.mono HB3.out.size)
  have hR := RowA.new w4 3 #[.int .i64 1, .int .i64 2]
  have hb5 : Below w4.heap.size w4 (w4.alloc (.cells #[.int .i64 1, .int .i64 2] 3)) := (Below.refl _ _).alloc (Nat.le_refl _) _
  have hN5 : Nts (w4.alloc (.cells #[.int .i64 1, .int .i64 2] 3)) (w4.alloc (.cells #[.int .i64 1, .int .i64 2] 3)).heap.size (some ⟨w4.heap.size, 0, none⟩) [1, 2] := fun _ => ⟨w4.heap.size, 0, rfl, hR.lt, fun i hi => by
    have hi : i < 2 := hi
    have : i = 0 ∨ i = 1 := by omega
    rcases this with rfl | rfl
    · exact hR.at_ rfl
    · exact hR.at_ rfl⟩
  have hin := ints_any A4 (some ⟨w4.heap.size, 0, none⟩) c4 2 [1, 2] [1, 2] _ ((hN4.below hb5).more hb5.size) hN5 (by decide) (by decide)
  have HB5 := hidd (B4.trans (hb5.mono B4.size))
  clear own4 hN4 b4 hR hb5 hN5 B4
  go_wp2_with fail
  refine hin.mono ?_
  rintro e w5 ⟨b5, z, rfl, hz⟩
  have hzt : z = true := hz.2 (by trivial)
  subst hzt
  have HB6 := hidd (HB5.out.trans (b5.mono HB5.out.size))
  clear hin b5 hz
  go_wp2
  go_ret
  exact ⟨rfl, HB6.out⟩
end Go.Proofs.YtcgondjekpcpgaaDoor.Sy.Lg.En

namespace Go.Proofs.YtcgondjekpcpgaaDoor.Sy.Lg.En
open Go.RowKit Go.Proofs.YtcgondjekpcpgaaDoor.Sy.Ap Go.Proofs.YtcgondjekpcpgaaDoor.Sy.Ap.Wk
set_option maxRecDepth 100000
set_option linter.unusedVariables false

set_option maxHeartbeats 400000 in
theorem text_any (s : ByteArray) (w : World) (hs : s.size ≤ maxLen) :
    Calls Tryd.prog 12 #[.string s] w fun e w' => e = .returned (.string (cutS 20 s)) ∧ w' = w := by
  unfold maxLen at hs
  have hc : cutS 20 s = if 20 < s.size then s.extract 0 20 else s := rfl
  go_enter Tryd.func12, Tryd.ntmps12
  by_cases h : 20 < s.size
  · rw [if_pos h] at hc
    have HC := hidd hc
    have hm : min (s.size : Int) 20 = 20 := by omega
    clear hc
    go_wp2
    go_ret
    exact ⟨by rw [HC.out]; rfl, rfl⟩
  · rw [if_neg h] at hc
    have HC := hidd hc
    have hm : min (s.size : Int) 20 = (s.size : Int) := by omega
    have he : s.extract 0 s.size = s := ByteArray.extract_zero_size
    clear hc
    go_wp2
    go_ret
    exact ⟨by rw [HC.out]; first | rfl | (show Ending.returned (.string (s.extract 0 s.size)) = _; rw [he]), rfl⟩
theorem text_size (s : ByteArray) : (cutS 20 s).size ≤ 20 := by rw [cutS_size]; omega
/-! ### light -/
/-- The row in which light counts. -/
abbrev DpF (u : World) (q n : Nat) (f : Nat → Int) : Prop := RowF u q 3 n (fun i => .int .i64 (f i))
structure LtS (w : World) (q n : Nat) (f : Nat → Int) (u : World) : Prop where
  dp : DpF u q n f
  bel : Below w.heap.size w u
theorem LtS.below {w : World} {q n : Nat} {f : Nat → Int} {u u' : World} (h : LtS w q n f u) (hb : Below u.heap.size u u') : LtS w q n f u' := ⟨h.dp.below hb h.dp.lt, h.bel.trans (hb.mono h.bel.size)⟩
theorem LtS.set {w : World} {q n : Nat} {f : Nat → Int} {u : World} (h : LtS w q n f u) (hq : w.heap.size ≤ q) (i : Nat) (z : Int) : LtS w q n (fun j => if j = i then z else f j) (u.setCell ⟨q, i, none⟩ (.int .i64 z)) := by
  have h1 := h.dp.put i (.int .i64 z)
  have e : (fun j => if j = i then Value.int .i64 z else .int .i64 (f j)) = fun j => .int .i64 (if j = i then z else f j) := by
    funext j
    split <;> rfl
  rw [e] at h1
  exact ⟨h1, bel_set h.bel _ _ hq⟩
theorem eby {d : Option Nat} {u u' : World} (_ : true = true) (h : Below u.heap.size u u') : EbL d u u' := h
/-! ### good -/
end Go.Proofs.YtcgondjekpcpgaaDoor.Sy.Lg.En

namespace Go.Proofs.YtcgondjekpcpgaaDoor.Sy.Lg.En
open Go.RowKit Go.Proofs.YtcgondjekpcpgaaDoor.Sy.Ap Go.Proofs.YtcgondjekpcpgaaDoor.Sy.Ap.Wk
set_option maxRecDepth 100000
set_option linter.unusedVariables false

/-! ### Two relations that go in step -/
section
variable {R R' : Rel} {f : Nat → Nat}
end
section
variable {ns : List Nd}
/-! ### What may be nothing -/
/-! ### Rising lists -/
theorem endL_rise (ns : List Nd) (t : List Nat) (i : Nat) : (endL ns t i).Pairwise (· < ·) := by
  unfold endL
  exact List.Pairwise.filter _ List.pairwise_lt_range
/-- Two rising lists of the same places are one. -/
theorem rise_ext : ∀ {l m : List Nat}, l.Pairwise (· < ·) → m.Pairwise (· < ·) → (∀ x, x ∈ l ↔ x ∈ m) → l = m
  | [], [], _, _, _ => rfl
  | [], y :: m, _, _, h => by have := (h y).2 (by simp); cases this
  | x :: l, [], _, _, h => by have := (h x).1 (by simp); cases this
  | x :: l, y :: m, hl, hm, h => by
    obtain ⟨h1, h2⟩ := List.pairwise_cons.1 hl
    obtain ⟨h3, h4⟩ := List.pairwise_cons.1 hm
    have hxy : x = y := by
      rcases List.mem_cons.1 ((h x).1 (by simp)) with q | q
      · exact q
      · rcases List.mem_cons.1 ((h y).2 (by simp)) with r | r
        · exact r.symm
        · have := h1 y r
          have := h3 x q
          omega
    subst hxy
    congr 1
    refine rise_ext h2 h4 fun z => ?_
    constructor
    · intro hz
      rcases List.mem_cons.1 ((h z).1 (by simp [hz])) with q | q
      · have := h1 z hz; omega
      · exact q
    · intro hz
      rcases List.mem_cons.1 ((h z).2 (by simp [hz])) with q | q
      · have := h3 z hz; omega
      · exact q
end
end Go.Proofs.YtcgondjekpcpgaaDoor.Sy.Lg.En

namespace Go.Proofs.YtcgondjekpcpgaaDoor.Sy.Lg.En
open Go.RowKit Go.Proofs.YtcgondjekpcpgaaDoor.Sy.Ap Go.Proofs.YtcgondjekpcpgaaDoor.Sy.Ap.Wk
set_option maxRecDepth 100000
set_option linter.unusedVariables false

theorem i64s_snoc (l : List Nat) (k : Nat) : i64s l ++ [.int .i64 (k : Int)] = i64s (l ++ [k]) := by simp [i64s]
end Go.Proofs.YtcgondjekpcpgaaDoor.Sy.Lg.En

namespace Go.Proofs.YtcgondjekpcpgaaDoor.Sy.Lg.En
open Go.RowKit Go.Proofs.YtcgondjekpcpgaaDoor.Sy.Ap Go.Proofs.YtcgondjekpcpgaaDoor.Sy.Ap.Wk
set_option maxRecDepth 100000
set_option linter.unusedVariables false

section
variable {gx gy : List Gd} {ns ms : List Nd}
end
/-! ### Two rows of bools that the law writes -/
structure RwS (w : World) (qa qc n : Nat) (fa fc : Nat → Bool) (u : World) : Prop where
  a : RowF u qa 4 n (fun i => .bool (fa i))
  c : RowF u qc 4 n (fun i => .bool (fc i))
  ne : qa ≠ qc
  la : w.heap.size ≤ qa
  lc : w.heap.size ≤ qc
  bel : Below w.heap.size w u
section
variable {w : World} {qa qc n : Nat} {fa fc : Nat → Bool} {u u' : World}
theorem RwS.below (h : RwS w qa qc n fa fc u) (hb : Below u.heap.size u u') : RwS w qa qc n fa fc u' :=
  ⟨h.a.below hb h.a.lt, h.c.below hb h.c.lt, h.ne, h.la, h.lc, h.bel.trans (hb.mono h.bel.size)⟩
end
theorem own_at {u : World} {base k : Nat} {A : Option Addr} {c : Nat} {l : List Nat} (h : u.ownsRow base 3 1 (.slice A l.length c) l.length (i64s l)) (hk : k < l.length) : ∃ g o, A = some ⟨g, o, none⟩ ∧ g < u.heap.size ∧ u.cell? ⟨g, o + k, none⟩ = some (.int .i64 ((l.getD k 0 : Nat) : Int)) := (nts_own h).at_ hk
end Go.Proofs.YtcgondjekpcpgaaDoor.Sy.Lg.En

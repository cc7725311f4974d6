/- The document's examples of layer 6. -/
import Derived.Test.YtcgondjekpcpgaaDoorPAn
import Derived.Test.YtcgondjekpcpgaaDoorPHg
namespace Go.Proofs.YtcgondjekpcpgaaDoor.Sy.Ap
open Go.RowKit
set_option maxRecDepth 100000
set_option linter.unusedVariables false

theorem Forest.lenL {ns : List Nd} {a b : Nat} {ks : List Nat} (h : Forest ns a b ks) : ks.length ≤ b - a := by
  induction h with
  | nil a => simp
  | @snoc a b c ks n h1 hn h2 ih1 ih2 =>
    have := h1.le
    have := h2.le
    rw [List.length_append, List.length_singleton]
    omega
theorem tree_kids {ns : List Nd} (h : TreeN ns) : ∀ n ∈ ns, n.l.length ≤ 1024 := fun n hn => by
  obtain ⟨i, hi, rfl⟩ := List.getElem_of_mem hn
  obtain ⟨n', e, h1, h2⟩ := h.frs.kids i (Nat.zero_le _) hi
  rw [List.getElem?_eq_getElem hi] at h1
  cases h1
  have := Forest.lenL h2
  have := h.few
  omega
theorem gn_kids {gs : List Gd} {ns : List Nd} (hg : GN gs ns) (ht : TreeN ns) : ∀ g ∈ gs, g.l.length ≤ 1024 := fun g hgm => by
  obtain ⟨i, hi, rfl⟩ := List.getElem_of_mem hgm
  have h1 := hg.2 i hi
  have hi2 : i < ns.length := by rw [← hg.1]; exact hi
  have e1 : gs.getD i gd0 = gs[i] := by rw [List.getD_eq_getElem?_getD, List.getElem?_eq_getElem hi]; rfl
  have e2 : ns.getD i nd0 = ns[i] := by rw [List.getD_eq_getElem?_getD, List.getElem?_eq_getElem hi2]; rfl
  rw [e1, e2] at h1
  rw [h1.l, List.length_map]
  exact tree_kids ht _ (List.getElem_mem hi2)
theorem gn_sm {gs : List Gd} {ns : List Nd} (hg : GN gs ns) (ht : TreeN ns) : Small gs := gn_small hg ht.shp (fun g hgm => by have := gn_kids hg ht g hgm; omega)
theorem tree_parse {s : List Nat} (hb : ∀ c ∈ s, c < 256) {ns : List Nd} (h : parse s = .ok ns) : TreeN ns := by
  obtain ⟨h1, h2, h3, h4, -⟩ := parse_tree hb h
  exact ⟨h1, h2, h3, h4⟩
theorem GD.cons {ds : List DG} {D : List Df} (h : GD ds D) {nm : ByteArray} {gs : List Gd} {m : List Nat} {t : List Nd} (hm : bs nm = m) (hg : GN gs t) (ht : TreeN t) : GD ((nm, gs) :: ds) ((m, t) :: D) := by
  refine ⟨by simp [h.len], fun i hi => ?_, fun x hx => ?_⟩
  · cases i with
    | zero => exact ⟨hm, hg⟩
    | succ i =>
      have := h.at_ i (by simpa using hi)
      simpa using this
  · rcases List.mem_cons.1 hx with q | q
    · subst q; exact ht
    · exact h.trs x q
/-! ### The examples -/
/-- The bytes of a short pattern, looked at one by one. -/
def smpB (s : ByteArray) : Bool :=
  (List.range s.size).all fun i =>
    (specialB (at_ (bs s) i) == false || at_ (bs s) i == 40 || at_ (bs s) i == 41 || at_ (bs s) i == 124 || at_ (bs s) i == 42 || at_ (bs s) i == 43 || at_ (bs s) i == 63 || at_ (bs s) i == 123 || at_ (bs s) i == 125 || at_ (bs s) i == 91 || at_ (bs s) i == 93) &&
    (!(at_ (bs s) i == 123) || dig (bs s) (i + 1) || (i == 0 && decide (i + 2 < s.size) && letterB (at_ (bs s) (i + 1)) && at_ (bs s) (i + 2) == 125)) &&
    (!(at_ (bs s) i == 91) || (decide (i + 4 < s.size) && specialB (at_ (bs s) (i + 1)) == false && !(at_ (bs s) (i + 1) == 45) && at_ (bs s) (i + 2) == 45 && specialB (at_ (bs s) (i + 3)) == false && !(at_ (bs s) (i + 3) == 45) && decide (at_ (bs s) (i + 1) ≤ at_ (bs s) (i + 3)) && at_ (bs s) (i + 4) == 93)) &&
    (!dig (bs s) i || dig (bs s) (i + 1) == false)
theorem smp_of {s : ByteArray} (h : smpB s = true) (hz : s.size ≤ 1024) : Rf.Smp s := by
  unfold smpB at h
  rw [List.all_eq_true] at h
  have h' : ∀ i, i < s.size → _ := fun i hi => h i (List.mem_range.2 hi)
  simp only [Bool.and_eq_true, Bool.or_eq_true, beq_iff_eq, Bool.not_eq_true', decide_eq_true_eq, beq_eq_false_iff_ne, ne_eq] at h'
  refine ⟨fun i hi => ?_, fun i hi q => ?_, fun i hi q => ?_, fun i q => ?_, hz⟩
  · have := (h' i hi).1.1.1
    simp only [or_assoc] at this
    exact this
  · rcases (h' i hi).1.1.2 with (r | r) | r
    · exact absurd q r
    · exact .inl r
    · exact .inr ⟨r.1.1.1, ⟨r.1.1.2, r.1.2, r.2⟩⟩
  · rcases (h' i hi).1.2 with r | r
    · exact absurd q r
    · exact ⟨r.1.1.1.1.1.1.1, r.1.1.1.1.1.1.2, r.1.1.1.1.1.2, r.1.1.1.1.2, r.1.1.1.2, r.1.1.2, r.1.2, r.2⟩
  · have hi : i < s.size := by have := (Rf.dig_at q).1; rw [bs_len] at this; exact this
    rcases (h' i hi).2 with r | r
    · rw [q] at r; cases r
    · exact r
theorem bs_b (s : ByteArray) : ∀ c ∈ bs s, c < 256 := bs_lt s
end Go.Proofs.YtcgondjekpcpgaaDoor.Sy.Ap

namespace Go.Proofs.YtcgondjekpcpgaaDoor.Sy.Ap
open Go.RowKit
set_option maxRecDepth 100000
set_option linter.unusedVariables false

theorem its_own {w : World} {base n c : Nat} {A : Option Addr} {xs : List Int} (h : w.ownsRow base 3 1 (.slice A n c) n (ints xs)) (hn : xs.length = n) : Its w w.heap.size A xs := fun hne => by
  have hpos : 0 < n := by
    rcases Nat.eq_zero_or_pos xs.length with q | q
    · exact absurd (List.eq_nil_of_length_eq_zero q) hne
    · omega
  obtain ⟨q, cq, hq, _, hlt⟩ := own_pos h hpos
  have hA : A = some ⟨q, 0, none⟩ := by injection hq
  refine ⟨q, 0, hA, hlt, fun j hj => ?_⟩
  have := h.cells (g := q) (by rw [hq]; rfl) j (.int .i64 (xs.getD j 0)) (by
    unfold ints
    rw [List.getElem?_map, List.getElem?_eq_getElem hj, List.getD_eq_getElem?_getD, List.getElem?_eq_getElem hj]
    rfl)
  rw [addr_add] at this
  rw [Nat.zero_add]
  exact this
/-! ### NormLong's trees -/
def s1 : Nat → Bool := oneB 0
theorem gn_rep {x : Gd} {n : Nd} (h : GN1 x n) (k : Nat) : GN (List.replicate k x) (List.replicate k n) := by
  refine ⟨by simp, fun i hi => ?_⟩
  rw [List.length_replicate] at hi
  have e1 : (List.replicate k x).getD i gd0 = x := by rw [List.getD_eq_getElem?_getD, List.getElem?_replicate, if_pos hi]; rfl
  have e2 : (List.replicate k n).getD i nd0 = n := by rw [List.getD_eq_getElem?_getD, List.getElem?_replicate, if_pos hi]; rfl
  rw [e1, e2]
  exact h
end Go.Proofs.YtcgondjekpcpgaaDoor.Sy.Ap

namespace Go.Proofs.YtcgondjekpcpgaaDoor.Sy.Ap
open Go.RowKit
set_option maxRecDepth 100000
set_option linter.unusedVariables false

theorem nds_take {w : World} {B : Nat} {A : Option Addr} {gs : List Gd} (h : Nds w B A gs) (n : Nat) : Nds w B A (gs.take n) := fun hne => by
  obtain ⟨b, off, e, hb, ha⟩ := h (fun e => hne (by rw [e]; simp))
  refine ⟨b, off, e, hb, fun i hi => ?_⟩
  rw [List.length_take] at hi
  have := ha i (by omega)
  rw [List.getD_eq_getElem?_getD, List.getElem?_take, if_pos (by omega), ← List.getD_eq_getElem?_getD]
  exact this
theorem small_take {gs : List Gd} (h : Small gs) (n : Nat) : Small (gs.take n) := fun g hg => h g (List.mem_of_mem_take hg)

/-! ### some -/
def goodD (d : DG) : Bool := decide (d.2.length ≤ 100)
def someL (ds : List DG) : List DG := (ds.take 6).filter goodD
/-! ### The reference's Plain -/
def PlainG (gs : List Gd) : Prop := (∀ g ∈ gs, g.op ≠ 6) ∧ RightG gs
def PlnR (gs : List Gd) (w : World) (e : Ending) (w' : World) : Prop := ∃ b, e = .returned (.bool b) ∧ (b = true ↔ PlainG gs) ∧ Below w.heap.size w w'
set_option maxHeartbeats 1000000 in
theorem plain_any (A : Option Addr) (c : Nat) (gs : List Gd) (w : World) (hx : Nds w w.heap.size A gs) (hl : gs.length ≤ 2000) (hsm : Small gs) :
    Calls Tryd.prog 34 #[.slice A gs.length c] w fun e w' => PlnR gs w e w' := by
  have hrr := refRight_any A c gs w hx hl hsm
  generalize hn : gs.length = n at *
  have HN0 := hidd hn
  clear hn hsm
  go_enter Tryd.func34, Tryd.ntmps34
  go_wp2
  go_loopw [3] (fun s3 wr => ∃ k : Nat, k ≤ n ∧ s3 = .int .i64 (k : Int) ∧ (∀ i, i < k → (gs.getD i gd0).op ≠ 6) ∧ wr = w) (fun s3 _ => n - (intOf s3).toNat)
  case atStart => exact ⟨0, Nat.zero_le _, rfl, fun i hi => absurd hi (Nat.not_lt_zero _), rfl⟩
  case round =>
    obtain ⟨k, hk0, rfl, hp, rfl⟩ := hrel
    have HP := hidd hp
    clear hp
    by_cases hlt : k < n
    · obtain ⟨b1, o1, rfl, hb1, A3, c3, -, r1⟩ := hx.at_ (k := k) (by rw [HN0.out]; exact hlt)
      have a0 : wr.cell? ⟨b1, o1 + k * 9, none⟩ = some (.int .u8 (gs.getD k gd0).op) := r1 0 _ rfl
      have hki : (k : Int) < (n : Int) := by omega
      have hgm : gs.getD k gd0 ∈ gs := by
        have h2 : k < gs.length := by rw [HN0.out]; exact hlt
        rw [List.getD_eq_getElem?_getD, List.getElem?_eq_getElem h2]
        exact List.getElem_mem h2
      have HNP : Hid ((gs.getD k gd0).op = 6 → ¬ PlainG gs) := fun q h => h.1 _ hgm q
      clear r1 hgm
      by_cases h6 : (gs.getD k gd0).op = 6
      · have HN := hidd (HNP.out h6)
        rw [h6] at a0
        clear h6 hrr HNP
        go_wp2
        go_ret
        exact ⟨false, rfl, ⟨fun q => (by cases q), fun q => absurd q HN.out⟩, Below.refl _ _⟩
      · have h6i : ((gs.getD k gd0).op == 6) = false := beq_eq_false_iff_ne.2 h6
        have HX : Hid (∀ i, i < k + 1 → (gs.getD i gd0).op ≠ 6) := fun i hi => by
          rcases Nat.lt_or_ge i k with q | q
          · exact HP.out i q
          · have : i = k := by omega
            subst this
            exact h6
        clear h6 hrr HNP HP
        generalize (gs.getD k gd0).op = op at *
        go_wp2
        exact ⟨⟨k + 1, by omega, rfl, HX.out, by first | trivial | rfl⟩, by simp [intOf]; omega⟩
    · have hke : k = n := by omega
      subst hke
      have HALL : Hid (∀ g ∈ gs, g.op ≠ 6) := fun g hg => by
        obtain ⟨i, hi, rfl⟩ := List.getElem_of_mem hg
        have := HP.out i (by rw [← HN0.out]; exact hi)
        rw [List.getD_eq_getElem?_getD, List.getElem?_eq_getElem hi] at this
        exact this
      clear hx
      go_wp2_with fail
      refine hrr.mono ?_
      rintro e w2 ⟨b, rfl, hb, bel⟩
      have HB := hidd (⟨hb, bel⟩ : (b = true ↔ RightG gs) ∧ Below wr.heap.size wr w2)
      clear hrr hb bel
      go_wp2
      go_ret
      exact ⟨b, rfl, ⟨fun q => ⟨HALL.out, HB.out.1.1 q⟩, fun q => HB.out.1.2 q.2⟩, HB.out.2⟩
theorem plain_tree {gs : List Gd} {ns : List Nd} (hg : GN gs ns) (ht : TreeN ns) : PlainG gs ↔ PlainN ns := by
  refine ⟨fun h n hn => ?_, fun h => ⟨fun g hg2 => ?_, tree_rg hg ht⟩⟩
  · obtain ⟨i, hi, rfl⟩ := List.getElem_of_mem hn
    have hi2 : i < gs.length := by rw [hg.1]; exact hi
    have h1 := hg.2 i hi2
    have e1 : gs.getD i gd0 = gs[i] := by rw [List.getD_eq_getElem?_getD, List.getElem?_eq_getElem hi2]; rfl
    have e2 : ns.getD i nd0 = ns[i] := by rw [List.getD_eq_getElem?_getD, List.getElem?_eq_getElem hi]; rfl
    rw [e1, e2] at h1
    have := h.1 _ (List.getElem_mem hi2)
    rw [h1.op] at this
    omega
  · obtain ⟨i, hi2, rfl⟩ := List.getElem_of_mem hg2
    have hi : i < ns.length := by rw [← hg.1]; exact hi2
    have h1 := hg.2 i hi2
    have e1 : gs.getD i gd0 = gs[i] := by rw [List.getD_eq_getElem?_getD, List.getElem?_eq_getElem hi2]; rfl
    have e2 : ns.getD i nd0 = ns[i] := by rw [List.getD_eq_getElem?_getD, List.getElem?_eq_getElem hi]; rfl
    rw [e1, e2] at h1
    have := h _ (List.getElem_mem hi)
    rw [h1.op]
    omega
end Go.Proofs.YtcgondjekpcpgaaDoor.Sy.Ap

namespace Go.Proofs.YtcgondjekpcpgaaDoor.Sy.Ap
open Go.RowKit
set_option maxRecDepth 100000
set_option linter.unusedVariables false

abbrev bA : ByteArray := { data := #[98] }
section
variable {P : Program} {ops : Array Oper} {rest : List Oper} {o : Oper} {a : Act} {w : World} {Q : Exit → Act → World → Prop}
end
end Go.Proofs.YtcgondjekpcpgaaDoor.Sy.Ap

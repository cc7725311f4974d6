/- The document's examples of layer 6. -/
import Derived.Test.YtahhiajliomcfaaPAn
import Derived.Test.YtahhiajliomcfaaPHg
import Derived.Test.YtahhiajliomcfaaPJk
import Derived.Test.YtahhiajliomcfaaPJb
import Derived.Test.YtahhiajliomcfaaPSc
namespace Go.Proofs.Ytahhiajliomcfaa.Sy.Ap
open Go.RowKit
set_option maxRecDepth 100000
set_option linter.unusedVariables false

theorem Forest.lenL {ns : List Nd} {a b : Nat} {ks : List Nat} (h : Forest ns a b ks) : ks.length ≤ b - a := by
  induction h with
  | nil a => simp
  | @snoc a b c ks n h1 hn h2 ih1 ih2 =>
    have := h1.le
    have := h2.le
    rw [List.length_append, List.length_singleton]
    omega
theorem tree_kids {ns : List Nd} (h : TreeN ns) : ∀ n ∈ ns, n.l.length ≤ 1024 := fun n hn => by
  obtain ⟨i, hi, rfl⟩ := List.getElem_of_mem hn
  obtain ⟨n', e, h1, h2⟩ := h.frs.kids i (Nat.zero_le _) hi
  rw [List.getElem?_eq_getElem hi] at h1
  cases h1
  have := Forest.lenL h2
  have := h.few
  omega
theorem gn_kids {gs : List Gd} {ns : List Nd} (hg : GN gs ns) (ht : TreeN ns) : ∀ g ∈ gs, g.l.length ≤ 1024 := fun g hgm => by
  obtain ⟨i, hi, rfl⟩ := List.getElem_of_mem hgm
  have h1 := hg.2 i hi
  have hi2 : i < ns.length := by rw [← hg.1]; exact hi
  have e1 : gs.getD i gd0 = gs[i] := by rw [List.getD_eq_getElem?_getD, List.getElem?_eq_getElem hi]; rfl
  have e2 : ns.getD i nd0 = ns[i] := by rw [List.getD_eq_getElem?_getD, List.getElem?_eq_getElem hi2]; rfl
  rw [e1, e2] at h1
  rw [h1.l, List.length_map]
  exact tree_kids ht _ (List.getElem_mem hi2)
theorem gn_sm {gs : List Gd} {ns : List Nd} (hg : GN gs ns) (ht : TreeN ns) : Small gs := gn_small hg ht.shp (fun g hgm => by have := gn_kids hg ht g hgm; omega)
theorem gn_few {gs : List Gd} {ns : List Nd} (hg : GN gs ns) (ht : TreeN ns) : gs.length ≤ 1024 := by rw [hg.1]; exact ht.few
theorem tree_parse {s : List Nat} (hb : ∀ c ∈ s, c < 256) {ns : List Nd} (h : parse s = .ok ns) : TreeN ns := by
  obtain ⟨h1, h2, h3, h4, -⟩ := parse_tree hb h
  exact ⟨h1, h2, h3, h4⟩
theorem GD.cons {ds : List DG} {D : List Df} (h : GD ds D) {nm : ByteArray} {gs : List Gd} {m : List Nat} {t : List Nd} (hm : bs nm = m) (hg : GN gs t) (ht : TreeN t) : GD ((nm, gs) :: ds) ((m, t) :: D) := by
  refine ⟨by simp [h.len], fun i hi => ?_, fun x hx => ?_⟩
  · cases i with
    | zero => exact ⟨hm, hg⟩
    | succ i =>
      have := h.at_ i (by simpa using hi)
      simpa using this
  · rcases List.mem_cons.1 hx with q | q
    · subst q; exact ht
    · exact h.trs x q
/-! ### The examples -/
/-- The bytes of a short pattern, looked at one by one. -/
def smpB (s : ByteArray) : Bool :=
  (List.range s.size).all fun i =>
    (specialB (at_ (bs s) i) == false || at_ (bs s) i == 40 || at_ (bs s) i == 41 || at_ (bs s) i == 124 || at_ (bs s) i == 42 || at_ (bs s) i == 43 || at_ (bs s) i == 63 || at_ (bs s) i == 123 || at_ (bs s) i == 125 || at_ (bs s) i == 91 || at_ (bs s) i == 93) &&
    (!(at_ (bs s) i == 123) || dig (bs s) (i + 1) || (i == 0 && decide (i + 2 < s.size) && letterB (at_ (bs s) (i + 1)) && at_ (bs s) (i + 2) == 125)) &&
    (!(at_ (bs s) i == 91) || (decide (i + 4 < s.size) && specialB (at_ (bs s) (i + 1)) == false && !(at_ (bs s) (i + 1) == 45) && at_ (bs s) (i + 2) == 45 && specialB (at_ (bs s) (i + 3)) == false && !(at_ (bs s) (i + 3) == 45) && decide (at_ (bs s) (i + 1) ≤ at_ (bs s) (i + 3)) && at_ (bs s) (i + 4) == 93) || (decide (i + 3 < s.size) && specialB (at_ (bs s) (i + 1)) == false && !(at_ (bs s) (i + 1) == 45) && specialB (at_ (bs s) (i + 2)) == false && !(at_ (bs s) (i + 2) == 45) && at_ (bs s) (i + 3) == 93)) &&
    (!dig (bs s) i || dig (bs s) (i + 1) == false)
theorem smp_of {s : ByteArray} (h : smpB s = true) (hz : s.size ≤ 1024) : Rf.Smp s := by
  unfold smpB at h
  rw [List.all_eq_true] at h
  have h' : ∀ i, i < s.size → _ := fun i hi => h i (List.mem_range.2 hi)
  simp only [Bool.and_eq_true, Bool.or_eq_true, beq_iff_eq, Bool.not_eq_true', decide_eq_true_eq, beq_eq_false_iff_ne, ne_eq] at h'
  refine ⟨fun i hi => ?_, fun i hi q => ?_, fun i hi q => ?_, fun i q => ?_, hz⟩
  · have := (h' i hi).1.1.1
    simp only [or_assoc] at this
    exact this
  · rcases (h' i hi).1.1.2 with (r | r) | r
    · exact absurd q r
    · exact .inl r
    · exact .inr ⟨r.1.1.1, ⟨r.1.1.2, r.1.2, r.2⟩⟩
  · rcases (h' i hi).1.2 with (r | r) | r
    · exact absurd q r
    · exact .inl ⟨r.1.1.1.1.1.1.1, r.1.1.1.1.1.1.2, r.1.1.1.1.1.2, r.1.1.1.1.2, r.1.1.1.2, r.1.1.2, r.1.2, r.2⟩
    · exact .inr ⟨r.1.1.1.1.1, r.1.1.1.1.2, r.1.1.1.2, r.1.1.2, r.1.2, r.2⟩
  · have hi : i < s.size := by have := (Rf.dig_at q).1; rw [bs_len] at this; exact this
    rcases (h' i hi).2 with r | r
    · rw [q] at r; cases r
    · exact r
theorem bs_b (s : ByteArray) : ∀ c ∈ bs s, c < 256 := bs_lt s
end Go.Proofs.Ytahhiajliomcfaa.Sy.Ap

namespace Go.Proofs.Ytahhiajliomcfaa.Sy.Pl
open Go.RowKit Go.Proofs.Ytahhiajliomcfaa.Sy.Ap Go.Proofs.Ytahhiajliomcfaa.Sy.Lg
set_option maxRecDepth 100000
set_option linter.unusedVariables false

def EbL (d : Option Nat) (u u' : World) : Prop := Below u.heap.size u u'
theorem eby {d : Option Nat} {u u' : World} (_ : true = true) (h : Below u.heap.size u u') : EbL d u u' := h
theorem put_non (a : Act) (v : Value) : a.put none v = a := rfl
theorem kids_gn {gs : List Gd} {ns : List Nd} (hg : GN gs ns) (ht : TreeN ns) : ∀ g ∈ gs, g.l.length ≤ 1024 := fun g hgm => by
  obtain ⟨i, hi, rfl⟩ := List.getElem_of_mem hgm
  have h1 := hg.2 i hi
  have hi2 : i < ns.length := by rw [← hg.1]; exact hi
  have e1 : gs.getD i gd0 = gs[i] := by rw [List.getD_eq_getElem?_getD, List.getElem?_eq_getElem hi]; rfl
  have e2 : ns.getD i nd0 = ns[i] := by rw [List.getD_eq_getElem?_getD, List.getElem?_eq_getElem hi2]; rfl
  rw [e1, e2] at h1
  rw [h1.l, List.length_map]
  exact tree_kids ht _ (List.getElem_mem hi2)
theorem rep_one {n : Nd} (hs : shapeB n = true) (h5 : n.op = 5) : n.l.length = 1 ∧ 0 ≤ n.lo ∧ n.lo ≤ 4096 ∧ (n.hi = -1 ∨ (1 ≤ n.hi ∧ n.hi ≤ 4096 ∧ n.lo ≤ n.hi)) := by
  unfold shapeB at hs
  rw [if_neg (by omega), if_neg (by omega), if_neg (by omega), if_pos h5] at hs
  simp only [Bool.and_eq_true, Bool.or_eq_true, decide_eq_true_eq, beq_iff_eq] at hs
  refine ⟨hs.1.1.1.2, hs.1.1.2, hs.1.2, ?_⟩
  rcases hs.2 with q | q
  · exact .inl q
  · exact .inr ⟨q.1.1, q.1.2, q.2⟩
end Go.Proofs.Ytahhiajliomcfaa.Sy.Pl

namespace Go.Proofs.Ytahhiajliomcfaa.Sy.Ap
open Go.RowKit
set_option maxRecDepth 100000
set_option linter.unusedVariables false

theorem its_own {w : World} {base n c : Nat} {A : Option Addr} {xs : List Int} (h : w.ownsRow base 3 1 (.slice A n c) n (ints xs)) (hn : xs.length = n) : Its w w.heap.size A xs := fun hne => by
  have hpos : 0 < n := by
    rcases Nat.eq_zero_or_pos xs.length with q | q
    · exact absurd (List.eq_nil_of_length_eq_zero q) hne
    · omega
  obtain ⟨q, cq, hq, _, hlt⟩ := own_pos h hpos
  have hA : A = some ⟨q, 0, none⟩ := by injection hq
  refine ⟨q, 0, hA, hlt, fun j hj => ?_⟩
  have := h.cells (g := q) (by rw [hq]; rfl) j (.int .i64 (xs.getD j 0)) (by
    unfold ints
    rw [List.getElem?_map, List.getElem?_eq_getElem hj, List.getD_eq_getElem?_getD, List.getElem?_eq_getElem hj]
    rfl)
  rw [addr_add] at this
  rw [Nat.zero_add]
  exact this
theorem own_nds {w : World} {B : Nat} {v : Value} {l : List NR} (h : w.ownsRow B 42 9 v l.length (nodesC l)) (hk : ∀ x ∈ l, Its w w.heap.size x.2.1 x.1.l) : ∃ A c, v = .slice A l.length c ∧ Nds w w.heap.size A (l.map (·.1)) ∧ l.length ≤ c := by
  obtain ⟨A, c, hv⟩ := own_form h
  have hcap := own_cap (by rw [hv] at h; exact h)
  rcases Nat.eq_zero_or_pos l.length with h0 | h0
  · refine ⟨A, c, hv, fun hne => absurd ?_ hne, hcap⟩
    rw [List.eq_nil_of_length_eq_zero h0]
    rfl
  · obtain ⟨g, c', hv', _, hg⟩ := own_pos h h0
    rw [hv] at hv'
    cases hv'
    refine ⟨_, c, hv, fun _ => ⟨g, 0, rfl, hg, fun i hi => ?_⟩, hcap⟩
    rw [List.length_map] at hi
    have hx : l[i]? = some l[i] := List.getElem?_eq_getElem hi
    have e : (l.map (·.1)).getD i gd0 = l[i].1 := by rw [List.getD_eq_getElem?_getD, List.getElem?_map, hx]; rfl
    rw [e]
    refine ⟨l[i].2.1, l[i].2.2, hk _ (List.getElem_mem hi), fun j u hu => ?_⟩
    have hj : j < 9 := by
      rcases Nat.lt_or_ge j 9 with h | h
      · exact h
      · rw [List.getElem?_eq_none (by rw [gdL_len]; exact h)] at hu; cases hu
    have := h.cells (g := g) (by rw [hv]; rfl) (i * 9 + j) u (by rw [nodesC_at l i j _ hx hj]; exact hu)
    rw [Nat.zero_add]
    rw [addr_add] at this
    exact this
/-- Leaves, and a node over them all. -/
theorem leaves_forest : ∀ (L : List Nd), (∀ n ∈ L, n.l = []) → Forest L 0 L.length (List.range L.length) := by
  intro L
  have key : ∀ i, i ≤ L.length → (∀ n ∈ L, n.l = []) → Forest L 0 i (List.range i) := by
    intro i
    induction i with
    | zero => intro _ _; exact .nil 0
    | succ i ih =>
      intro hi hL
      have hx : L[i]? = some L[i] := List.getElem?_eq_getElem (by omega)
      rw [List.range_succ]
      exact .snoc (ih (by omega) hL) hx (by rw [hL _ (List.getElem_mem (by omega))]; exact .nil _)
  exact key L.length (Nat.le_refl _)
theorem leaves_tree {L : List Nd} {n : Nd} (hL : ∀ m ∈ L, m.l = []) (hs : Shp L) (hn : shapeB n = true) (hl : n.l = List.range L.length) (hf : L.length < 1024) : TreeN (L ++ [n]) := by
  refine ⟨hs.put hn, by simp, by simp; omega, ?_⟩
  have f4 := Forest.put (xs := []) (ys := n.l) (n := n) (ns := L) (a := 0) (by rw [hl]; exact leaves_forest L hL) rfl
  rw [show (L ++ [n]).length - 1 = L.length from by simp]
  exact f4
/-! ### NormLong's trees -/
def s1 : Nat → Bool := oneB 0
theorem W_s0 : W s1 0 = 1 := by kernel_rfl
theorem W_s1 : W s1 1 = 0 := by kernel_rfl
theorem W_s2 : W s1 2 = 0 := by kernel_rfl
theorem W_s3 : W s1 3 = 0 := by kernel_rfl
theorem litL : gdL (Rf.setG s1) none 0 = [.int .u8 2, .int .u64 1, .int .u64 0, .int .u64 0, .int .u64 0, .slice none 0 0, .int .i64 0, .int .i64 0, .string { data := #[] }] := by
  unfold gdL Rf.setG
  simp only [W_s0, W_s1, W_s2, W_s3, List.length_nil]
theorem gn_rep {x : Gd} {n : Nd} (h : GN1 x n) (k : Nat) : GN (List.replicate k x) (List.replicate k n) := by
  refine ⟨by simp, fun i hi => ?_⟩
  rw [List.length_replicate] at hi
  have e1 : (List.replicate k x).getD i gd0 = x := by rw [List.getD_eq_getElem?_getD, List.getElem?_replicate, if_pos hi]; rfl
  have e2 : (List.replicate k n).getD i nd0 = n := by rw [List.getD_eq_getElem?_getD, List.getElem?_replicate, if_pos hi]; rfl
  rw [e1, e2]
  exact h
theorem s1_some : emptyS s1 = false := emptyS_of (x := 0) (by omega) rfl
end Go.Proofs.Ytahhiajliomcfaa.Sy.Ap

namespace Go.Proofs.Ytahhiajliomcfaa.Sy.Ap
open Go.RowKit
set_option maxRecDepth 100000
set_option linter.unusedVariables false

/-! ### some -/
/-! ### The reference's Plain -/
def PlainG (gs : List Gd) : Prop := (∀ g ∈ gs, g.op ≠ 6) ∧ RightG gs
def PlnR (gs : List Gd) (w : World) (e : Ending) (w' : World) : Prop := ∃ b, e = .returned (.bool b) ∧ (b = true ↔ PlainG gs) ∧ Below w.heap.size w w'
set_option maxHeartbeats 1000000 in
theorem plain_any (A : Option Addr) (c : Nat) (gs : List Gd) (w : World) (hx : Nds w w.heap.size A gs) (hl : gs.length ≤ 2000) (hsm : Small gs) :
    Calls Try.prog 18 #[.slice A gs.length c] w fun e w' => PlnR gs w e w' := by
  have hrr := refRight_any A c gs w hx hl hsm
  generalize hn : gs.length = n at *
  have HN0 := hidd hn
  clear hn hsm
  go_enter Try.func18, Try.ntmps18
  go_wp2
  go_loopw [3] (fun s3 wr => ∃ k : Nat, k ≤ n ∧ s3 = .int .i64 (k : Int) ∧ (∀ i, i < k → (gs.getD i gd0).op ≠ 6) ∧ wr = w) (fun s3 _ => n - (intOf s3).toNat)
  case atStart => exact ⟨0, Nat.zero_le _, rfl, fun i hi => absurd hi (Nat.not_lt_zero _), rfl⟩
  case round =>
    obtain ⟨k, hk0, rfl, hp, rfl⟩ := hrel
    have HP := hidd hp
    clear hp
    by_cases hlt : k < n
    · obtain ⟨b1, o1, rfl, hb1, A3, c3, -, r1⟩ := hx.at_ (k := k) (by rw [HN0.out]; exact hlt)
      have a0 : wr.cell? ⟨b1, o1 + k * 9, none⟩ = some (.int .u8 (gs.getD k gd0).op) := r1 0 _ rfl
      have hki : (k : Int) < (n : Int) := by omega
      have hgm : gs.getD k gd0 ∈ gs := by
        have h2 : k < gs.length := by rw [HN0.out]; exact hlt
        rw [List.getD_eq_getElem?_getD, List.getElem?_eq_getElem h2]
        exact List.getElem_mem h2
      have HNP : Hid ((gs.getD k gd0).op = 6 → ¬ PlainG gs) := fun q h => h.1 _ hgm q
      clear r1 hgm
      by_cases h6 : (gs.getD k gd0).op = 6
      · have HN := hidd (HNP.out h6)
        rw [h6] at a0
        clear h6 hrr HNP
        go_wp2
        go_ret
        exact ⟨false, rfl, ⟨fun q => (by cases q), fun q => absurd q HN.out⟩, Below.refl _ _⟩
      · have h6i : ((gs.getD k gd0).op == 6) = false := beq_eq_false_iff_ne.2 h6
        have HX : Hid (∀ i, i < k + 1 → (gs.getD i gd0).op ≠ 6) := fun i hi => by
          rcases Nat.lt_or_ge i k with q | q
          · exact HP.out i q
          · have : i = k := by omega
            subst this
            exact h6
        clear h6 hrr HNP HP
        generalize (gs.getD k gd0).op = op at *
        go_wp2
        exact ⟨⟨k + 1, by omega, rfl, HX.out, by first | trivial | rfl⟩, by simp [intOf]; omega⟩
    · have hke : k = n := by omega
      subst hke
      have HALL : Hid (∀ g ∈ gs, g.op ≠ 6) := fun g hg => by
        obtain ⟨i, hi, rfl⟩ := List.getElem_of_mem hg
        have := HP.out i (by rw [← HN0.out]; exact hi)
        rw [List.getD_eq_getElem?_getD, List.getElem?_eq_getElem hi] at this
        exact this
      clear hx
      go_wp2_with fail
      refine hrr.mono ?_
      rintro e w2 ⟨b, rfl, hb, bel⟩
      have HB := hidd (⟨hb, bel⟩ : (b = true ↔ RightG gs) ∧ Below wr.heap.size wr w2)
      clear hrr hb bel
      go_wp2
      go_ret
      exact ⟨b, rfl, ⟨fun q => ⟨HALL.out, HB.out.1.1 q⟩, fun q => HB.out.1.2 q.2⟩, HB.out.2⟩
end Go.Proofs.Ytahhiajliomcfaa.Sy.Ap

namespace Go.Proofs.Ytahhiajliomcfaa.Sy.Pl
open Go.RowKit Go.Proofs.Ytahhiajliomcfaa.Sy.Ap Go.Proofs.Ytahhiajliomcfaa.Sy.Lg
set_option maxRecDepth 100000
set_option linter.unusedVariables false

def hasR (gs : List Gd) : Prop := ∃ g ∈ gs, g.op = 6
theorem plain_hasR {gs : List Gd} : PlainG gs ↔ RightG gs ∧ ¬ hasR gs := ⟨fun h => ⟨h.2, fun ⟨g, h1, h2⟩ => h.1 g h1 h2⟩, fun h => ⟨fun g hg q => h.2 ⟨g, hg, q⟩, h.1⟩⟩
set_option maxHeartbeats 400000 in
theorem nl1_any (g : Gd) (kA : Option Addr) (mm kc : Nat) (w : World) : Calls Try.prog 57 #[.agg #[.int .u8 g.op, .int .u64 (W g.s 0), .int .u64 (W g.s 1), .int .u64 (W g.s 2), .int .u64 (W g.s 3), .slice kA mm kc, .int .i64 g.lo, .int .i64 g.hi, .string g.nm]] w fun e w' => e = .returned (.bool (g.op == 6)) ∧ Below w.heap.size w w' := by
  have R := RowA.new w 42 #[.int .u8 g.op, .int .u64 (W g.s 0), .int .u64 (W g.s 1), .int .u64 (W g.s 2), .int .u64 (W g.s 3), .slice kA mm kc, .int .i64 g.lo, .int .i64 g.hi, .string g.nm]
  have d0 : (w.alloc (.cells #[.int .u8 g.op, .int .u64 (W g.s 0), .int .u64 (W g.s 1), .int .u64 (W g.s 2), .int .u64 (W g.s 3), .slice kA mm kc, .int .i64 g.lo, .int .i64 g.hi, .string g.nm] 42)).cell? ⟨w.heap.size, 0, none⟩ = some (.int .u8 g.op) := R.at_ rfl
  clear R
  go_enter Try.func57, Try.ntmps57
  go_wp2
  go_ret
  exact ⟨rfl, (Below.refl _ _).alloc (Nat.le_refl _) _⟩
set_option maxHeartbeats 1000000 in
theorem idxN_any (A : Option Addr) (c : Nat) (gs : List Gd) (w : World) (hx : Nds w w.heap.size A gs) (hl : gs.length ≤ 2000) :
    Calls Try.prog 58 #[.slice A gs.length c, .func (.func 57) #[] #[]] w fun e w' => Below w.heap.size w w' ∧ ∃ r : Int, e = .returned (.int .i64 r) ∧ (0 ≤ r ↔ hasR gs) := by
  generalize hn : gs.length = n at *
  have HN0 := hidd hn
  clear hn
  go_enter Try.func58, Try.ntmps58
  go_wp2
  go_loopw [8] (fun s8 wr => ∃ k : Nat, k ≤ n ∧ s8 = .int .i64 (k : Int) ∧ (∀ i, i < k → (gs.getD i gd0).op ≠ 6) ∧ Below w.heap.size w wr) (fun s8 _ => n - (intOf s8).toNat)
  case atStart => exact ⟨0, Nat.zero_le _, rfl, fun i hi => absurd hi (Nat.not_lt_zero _), Below.refl _ _⟩
  case round =>
    obtain ⟨k, hk0, rfl, hp, hb⟩ := hrel
    have HP := hidd hp
    have HB := hidd hb
    clear hp hb
    by_cases hlt : k < n
    · have hk2 : k < gs.length := by rw [HN0.out]; exact hlt
      obtain ⟨b1, o1, rfl, hb1, A3, c3, -, r1⟩ := (hx.below HB.out).at_ (k := k) hk2
      have hki : (k : Int) < (n : Int) := by omega
      have hgm : gs.getD k gd0 ∈ gs := by
        rw [List.getD_eq_getElem?_getD, List.getElem?_eq_getElem hk2]
        exact List.getElem_mem hk2
      have HNP : Hid ((gs.getD k gd0).op = 6 → hasR gs) := fun q => ⟨_, hgm, q⟩
      have HPK : Hid ((gs.getD k gd0).op ≠ 6 → ∀ i, i < k + 1 → (gs.getD i gd0).op ≠ 6) := fun q i hi => by
        by_cases e : i = k
        · subst e; exact q
        · exact HP.out i (by omega)
      clear hgm
      generalize gs.getD k gd0 = g at *
      have hcl := nl1_any g A3 g.l.length c3 wr
      go_wp2_with (refine wpList_load_mid rfl 42 (.tmp 14) rfl b1 (o1 + k * 9) rfl (gdL g A3 c3) _ r1 Try.underlying42 rfl (gdL_info g A3 c3) ?_)
      refine hcl.mono ?_
      rintro e w2 ⟨rfl, b2⟩
      have HB2 := hidd (HB.out.trans (b2.mono HB.out.size))
      clear hcl r1 b2
      by_cases h6 : g.op = 6
      · have h6b : (g.op == 6) = true := by simp [h6]
        have HN := hidd (HNP.out h6)
        clear h6 HNP HPK
        rw [h6b]
        go_wp2
        go_ret
        exact ⟨HB2.out, _, rfl, fun _ => HN.out, fun _ => by omega⟩
      · have h6b : (g.op == 6) = false := by simp [h6]
        have HN := hidd (HPK.out h6)
        clear h6 HNP HPK
        rw [h6b]
        go_wp2
        exact ⟨⟨k + 1, by omega, rfl, HN.out, HB2.out⟩, by simp [intOf]; omega⟩
    · have hke : k = n := by omega
      have HN : Hid (¬ hasR gs) := fun ⟨g, h1, h2⟩ => by
        obtain ⟨i, hi, rfl⟩ := List.getElem_of_mem h1
        have := HP.out i (by have := HN0.out; omega)
        rw [List.getD_eq_getElem?_getD, List.getElem?_eq_getElem hi] at this
        exact this h2
      subst hke
      go_wp2
      go_ret
      exact ⟨HB.out, _, rfl, (fun h => by omega), fun h => absurd h HN.out⟩
set_option maxHeartbeats 400000 in
theorem hasN_any (A : Option Addr) (c : Nat) (gs : List Gd) (w : World) (hx : Nds w w.heap.size A gs) (hl : gs.length ≤ 2000) :
    Calls Try.prog 41 #[.slice A gs.length c, .func (.func 57) #[] #[]] w fun e w' => Below w.heap.size w w' ∧ ∃ z, e = .returned (.bool z) ∧ (z = true ↔ hasR gs) := by
  have hi := idxN_any A c gs w hx hl
  clear hx hl
  generalize gs.length = n at *
  go_enter Try.func41, Try.ntmps41
  go_wp2_with fail
  refine hi.mono ?_
  rintro e w1 ⟨b1, r, rfl, hr⟩
  have HB := hidd b1
  have HR := hidd hr
  clear hi b1 hr
  go_wp2
  go_ret
  exact ⟨HB.out, _, rfl, by rw [decide_eq_true_iff]; exact HR.out⟩
set_option maxHeartbeats 400000 in
theorem nameless_any (A : Option Addr) (c : Nat) (gs : List Gd) (w : World) (hx : Nds w w.heap.size A gs) (hl : gs.length ≤ 2000) (hsm : Small gs) :
    Calls Try.prog 40 #[.slice A gs.length c] w fun e w' => PlnR gs w e w' := by
  have hR := right_any A c gs w hx hl hsm
  have HH : Hid (∀ w', Below w.heap.size w w' → Calls Try.prog 41 #[.slice A gs.length c, .func (.func 57) #[] #[]] w' fun e w'' => Below w'.heap.size w' w'' ∧ ∃ z, e = .returned (.bool z) ∧ (z = true ↔ hasR gs)) := fun w' hb => hasN_any A c gs w' ((hx.below hb).more hb.size) hl
  clear hx hl hsm
  generalize gs.length = n at *
  go_enter Try.func40, Try.ntmps40
  go_wp2_with fail
  refine hR.mono ?_
  rintro e w1 ⟨z, rfl, hz, b1⟩
  have HB := hidd b1
  have HZ := hidd hz
  clear hR b1 hz
  cases z with
  | false =>
    go_wp2
    go_ret
    exact ⟨false, rfl, ⟨(fun q => by cases q), fun q => HZ.out.2 (plain_hasR.1 q).1⟩, HB.out⟩
  | true =>
    have hc := HH.out w1 HB.out
    go_wp2_with fail
    refine hc.mono ?_
    rintro e w2 ⟨b2, y, rfl, hy⟩
    have HB2 := hidd (HB.out.trans (b2.mono HB.out.size))
    have HY := hidd hy
    clear hc b2 hy
    go_wp2
    go_ret
    refine ⟨!y, rfl, ?_, HB2.out⟩
    rw [plain_hasR]
    cases y with
    | true => exact ⟨(fun q => by cases q), fun q => absurd (HY.out.1 rfl) q.2⟩
    | false => exact ⟨fun _ => ⟨HZ.out.1 (by trivial), fun q => by have := HY.out.2 q; cases this⟩, fun _ => rfl⟩
/-! ### Tree -/
/-- What Tree tells. -/
def TrR (R : Option (List Nd)) (w : World) (e : Ending) (w' : World) : Prop :=
  Below w.heap.size w w' ∧ match R with
    | none => e = .returned (.tuple #[.slice none 0 0, .int .i64 3])
    | some o => ∃ A c go, e = .returned (.tuple #[.slice A go.length c, .int .i64 0]) ∧ Nds w' w'.heap.size A go ∧ GN go o ∧ go.length ≤ c
theorem tree_of {gs : List Gd} {ns : List Nd} (hg : GN gs ns) (hp : PlainG gs) : ∃ ms, GN gs ms ∧ TreeN ms ∧ PlainN ms := by
  obtain ⟨ms, h1, h2, h3, h4, h5⟩ := hp.2
  refine ⟨ms, h1, ⟨h2, h3, h4, h5⟩, fun n hn q => ?_⟩
  obtain ⟨i, hi, rfl⟩ := List.getElem_of_mem hn
  have hi2 : i < gs.length := by rw [h1.1]; exact hi
  have h6 := (h1.2 i hi2).op
  have e : ms.getD i nd0 = ms[i] := by rw [List.getD_eq_getElem?_getD, List.getElem?_eq_getElem hi]; rfl
  rw [e, q] at h6
  have hm : gs.getD i gd0 ∈ gs := by
    rw [List.getD_eq_getElem?_getD, List.getElem?_eq_getElem hi2]
    exact List.getElem_mem hi2
  exact hp.1 _ hm h6
theorem plain_of {gs : List Gd} {ns : List Nd} (hg : GN gs ns) (ht : TreeN ns) (hp : PlainN ns) : PlainG gs := by
  refine ⟨fun g hgm q => ?_, tree_rg hg ht⟩
  obtain ⟨i, hi, rfl⟩ := List.getElem_of_mem hgm
  have h1 := hg.2 i hi
  have hi2 : i < ns.length := by rw [← hg.1]; exact hi
  have e1 : gs.getD i gd0 = gs[i] := by rw [List.getD_eq_getElem?_getD, List.getElem?_eq_getElem hi]; rfl
  have e2 : ns.getD i nd0 = ns[i] := by rw [List.getD_eq_getElem?_getD, List.getElem?_eq_getElem hi2]; rfl
  rw [e1, e2] at h1
  have := h1.op
  rw [q] at this
  exact hp _ (List.getElem_mem hi2) (by omega)
end Go.Proofs.Ytahhiajliomcfaa.Sy.Pl

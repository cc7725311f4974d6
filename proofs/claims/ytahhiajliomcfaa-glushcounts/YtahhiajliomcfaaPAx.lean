/- The landed Fold. -/
import Derived.Test.YtahhiajliomcfaaPJn
namespace Go.Proofs.Ytahhiajliomcfaa.Sy.Ap
open Go.RowKit
set_option maxRecDepth 100000
set_option linter.unusedVariables false

def setSG (g : Gd) (s : Nat → Bool) : Gd := ⟨g.op, s, g.l, g.lo, g.hi, g.nm⟩
def foldG (g : Gd) : Gd := if g.op = 2 then setSG g (foldK 123 g.s) else g
theorem there_row {w : World} {g : Nat} {t : TypeId} {cs : Array Value} (r : RowA w g t cs) {o n : Nat} (h : o + n ≤ cs.size) : w.there g o n := fun j hj => by
  refine ⟨?_, r.thawed _⟩
  have hlt : o + j < cs.size := by omega
  rw [r.at_ (k := o + j) (v := cs[o + j]) (Array.getElem?_eq_getElem hlt)]
  rfl
theorem row_cells {g : Nat} {t : TypeId} : ∀ (vs : List Value) (o : Nat) (w : World) (cs : Array Value), RowA w g t cs → ∃ cs', RowA (w.setCells g o vs) g t cs' ∧ cs'.size = cs.size
  | [], _, w, cs, r => ⟨cs, r, rfl⟩
  | v :: vs, o, w, cs, r => by
    obtain ⟨c2, r2, h2⟩ := row_cells vs (o + 1) _ _ (r.set o v)
    exact ⟨c2, r2, by rw [h2]; simp⟩
theorem bel_cells {B g : Nat} {a : World} (hB : B ≤ g) : ∀ (vs : List Value) (o : Nat) (w : World), Below B a w → Below B a (w.setCells g o vs)
  | [], _, w, h => h
  | v :: vs, o, w, h => bel_cells hB vs (o + 1) _ (bel_set h _ v hB)
theorem own_cells {base : Nat} {e e' : TypeId} {sz n g : Nat} {v : Value} {xs : List Value} (hne : e ≠ e') : ∀ (vs : List Value) (o : Nat) (w : World) (cs : Array Value), RowA w g e' cs → w.ownsRow base e sz v n xs → (w.setCells g o vs).ownsRow base e sz v n xs
  | [], _, w, cs, _, h => h
  | u :: vs, o, w, cs, r, h => own_cells hne vs (o + 1) _ _ (r.set o u) (own_sb h (own_neR h r hne) u)
/-- So many nodes are folded. -/
structure FdS (w : World) (b n : Nat) (gs : List Gd) (k : Nat) (wr : World) : Prop where
  row : ∃ cs, RowA wr b 42 cs ∧ cs.size = n * 9
  rows : ∀ i, i < k → ∃ A c, wr.ownsRow w.heap.size 3 1 (.slice A (gs.getD i gd0).l.length c) (gs.getD i gd0).l.length (ints (gs.getD i gd0).l) ∧ wr.rangeAt b (i * 9) (gdL (foldG (gs.getD i gd0)) A c)
  bel : Below w.heap.size w wr
  base : w.heap.size ≤ b
theorem foldG_l (g : Gd) : (foldG g).l = g.l := by unfold foldG; split <;> rfl
/-- Once more round: what the round did far from the row (w'), and the row's node. -/
theorem FdS.next {w : World} {b n : Nat} {gs : List Gd} {k : Nat} {wr w' : World} (h : FdS w b n gs k wr) (hk : k < n) (hb : Below wr.heap.size wr w') {A : Option Addr} {c : Nat} {g : Gd} (hg : gs.getD k gd0 = g)
    (ho : w'.ownsRow w.heap.size 3 1 (.slice A g.l.length c) g.l.length (ints g.l)) : FdS w b n gs (k + 1) (w'.setCells b (k * 9) (gdL (foldG g) A c)) := by
  obtain ⟨cs, r, hcs⟩ := h.row
  have r' : RowA w' b 42 cs := r.below hb r.lt
  obtain ⟨cs2, r2, h2⟩ := row_cells (gdL (foldG g) A c) (k * 9) w' cs r'
  have hth : w'.there b (k * 9) (gdL (foldG g) A c).length := there_row r' (by rw [hcs]; show k * 9 + 9 ≤ _; omega)
  refine ⟨⟨cs2, r2, h2.trans hcs⟩, fun i hi => ?_, bel_cells h.base _ _ _ (h.bel.trans (hb.mono h.bel.size)), h.base⟩
  by_cases hik : i = k
  · subst hik
    rw [hg]
    exact ⟨A, c, own_cells (by decide) _ _ _ _ r' ho, World.rangeAt_setCells_same w' b (i * 9) _ hth⟩
  · obtain ⟨A1, c1, o1, r1⟩ := h.rows i (by omega)
    refine ⟨A1, c1, own_cells (by decide) _ _ _ _ r' (own_below o1 hb (Nat.le_refl _)), ?_⟩
    refine World.rangeAt_setCells_apart (fun j v hv => ?_) b (k * 9) _ (.inr (.inl (by show i * 9 + 9 ≤ k * 9; omega)))
    rw [hb.cell (by exact r.lt)]
    exact r1 j v hv
theorem FdS.nds {w : World} {b n : Nat} {gs : List Gd} {wr : World} (h : FdS w b n gs n wr) (hn : gs.length = n) : Nds wr wr.heap.size (some ⟨b, 0, none⟩) (gs.map foldG) := fun _ => by
  obtain ⟨cs, r, hcs⟩ := h.row
  refine ⟨b, 0, rfl, r.lt, fun i hi => ?_⟩
  rw [List.length_map] at hi
  obtain ⟨A, c, o1, r1⟩ := h.rows i (by omega)
  have e : (gs.map foldG).getD i gd0 = foldG (gs.getD i gd0) := by
    rw [List.getD_eq_getElem?_getD, List.getElem?_map, List.getD_eq_getElem?_getD, List.getElem?_eq_getElem hi]
    rfl
  rw [e, Nat.zero_add]
  refine ⟨A, c, ?_, r1⟩
  rw [foldG_l]
  exact its_own o1 rfl
/-- Nodes whose rows are told by their types: they stay where rows of other types grow. -/
def NdT (u : World) (A : Option Addr) (gs : List Gd) : Prop :=
  gs ≠ [] → ∃ b cs, A = some ⟨b, 0, none⟩ ∧ RowA u b 42 cs ∧ ∀ i, i < gs.length → ∃ A' c', u.ownsRow 0 3 1 (.slice A' (gs.getD i gd0).l.length c') (gs.getD i gd0).l.length (ints (gs.getD i gd0).l) ∧ u.rangeAt b (i * 9) (gdL (gs.getD i gd0) A' c')
theorem NdT.nds {u : World} {A : Option Addr} {gs : List Gd} (h : NdT u A gs) : Nds u u.heap.size A gs := fun hne => by
  obtain ⟨b, cs, e, R, hi⟩ := h hne
  refine ⟨b, 0, e, R.lt, fun i hi2 => ?_⟩
  obtain ⟨A', c', o, r⟩ := hi i hi2
  rw [Nat.zero_add]
  exact ⟨A', c', its_own o rfl, r⟩
theorem NdT.below {u u' : World} {A : Option Addr} {gs : List Gd} (h : NdT u A gs) (hb : Below u.heap.size u u') : NdT u' A gs := fun hne => by
  obtain ⟨b, cs, e, R, hi⟩ := h hne
  refine ⟨b, cs, e, R.below hb R.lt, fun i hi2 => ?_⟩
  obtain ⟨A', c', o, r⟩ := hi i hi2
  exact ⟨A', c', own_below o hb (Nat.le_refl _), fun j v hv => by rw [hb.cell (by exact R.lt)]; exact r j v hv⟩
theorem range_row {w : World} {g : Nat} {t : TypeId} {cs : List Value} (r : RowA w g t cs.toArray) : w.rangeAt g 0 cs := fun j v hv => by
  rw [Nat.zero_add]
  exact r.at_ (by rw [List.getElem?_toArray]; exact hv)
end Go.Proofs.Ytahhiajliomcfaa.Sy.Ap

namespace Go.Proofs.Ytahhiajliomcfaa.Sy.Ap
open Go.RowKit
set_option maxRecDepth 100000
set_option linter.unusedVariables false

theorem its_nat {w : World} {B : Nat} {A : Option Addr} {l : List Nat} (h : Its w B A (l.map fun k : Nat => (k : Int))) {k : Nat} (hk : k < l.length) : ∃ g off, A = some ⟨g, off, none⟩ ∧ g < B ∧ w.cell? ⟨g, off + k, none⟩ = some (.int .i64 ((l.getD k 0 : Nat) : Int)) := by
  obtain ⟨g, off, h1, h2, h3⟩ := h.at_ (k := k) (by rw [List.length_map]; exact hk)
  refine ⟨g, off, h1, h2, ?_⟩
  rw [h3, List.getD_eq_getElem?_getD, List.getElem?_map, List.getElem?_eq_getElem hk, List.getD_eq_getElem?_getD, List.getElem?_eq_getElem hk]
  rfl
theorem any_false {l : List Nat} {p : Nat → Bool} (h : ∀ i, i < l.length → p (l.getD i 0) = false) : l.any p = false := by
  rw [List.any_eq_false]
  intro x hx
  obtain ⟨i, hi, rfl⟩ := List.getElem_of_mem hx
  have := h i hi
  rw [List.getD_eq_getElem?_getD, List.getElem?_eq_getElem hi] at this
  simp only [Option.getD_some] at this
  rw [this]
  exact Bool.false_ne_true
theorem any_true {l : List Nat} {p : Nat → Bool} {i : Nat} (hi : i < l.length) (h : p (l.getD i 0) = true) : l.any p = true := by
  rw [List.any_eq_true]
  refine ⟨l[i], List.getElem_mem hi, ?_⟩
  rw [List.getD_eq_getElem?_getD, List.getElem?_eq_getElem hi] at h
  exact h
set_option maxHeartbeats 400000 in
theorem idx1_any (A : Option Addr) (c : Nat) (l : List Nat) (ptr : Value) (p : Nat → Bool) (w : World) (hI : Its w w.heap.size A (l.map fun k : Nat => (k : Int))) (hl : l.length ≤ 1000000)
    (hcl : ∀ kid ∈ l, Calls Try.prog 83 #[.int .i64 ((kid : Nat) : Int), ptr] w fun e w' => e = .returned (.bool (p kid)) ∧ w' = w) :
    Calls Try.prog 91 #[.slice A l.length c, .func (.func 83) #[] #[ptr]] w fun e w' => ∃ r : Int, e = .returned (.int .i64 r) ∧ decide (0 ≤ r) = l.any p ∧ w' = w := by
  have HI := hidd hI
  have HC := hidd hcl
  clear hI hcl
  generalize hn : l.length = n at *
  have HN := hidd hn
  clear hn
  go_enter Try.func91, Try.ntmps91
  go_wp2
  go_loopw [8] (fun s8 wr => ∃ k : Nat, k ≤ n ∧ s8 = .int .i64 (k : Int) ∧ (∀ i, i < k → p (l.getD i 0) = false) ∧ wr = w) (fun s8 _ => n - (intOf s8).toNat)
  case atStart => exact ⟨0, Nat.zero_le _, rfl, fun i hi => absurd hi (Nat.not_lt_zero _), rfl⟩
  case round =>
    obtain ⟨k, hk0, rfl, hp, rfl⟩ := hrel
    have HP := hidd hp
    clear hp
    by_cases hlt : k < n
    · have hlt2 : k < l.length := by rw [HN.out]; exact hlt
      obtain ⟨g, off, rfl, hgl, hcell⟩ := its_nat HI.out hlt2
      have hki : (k : Int) < (n : Int) := by omega
      have hcl := HC.out (l.getD k 0) (by rw [List.getD_eq_getElem?_getD, List.getElem?_eq_getElem hlt2]; exact List.getElem_mem hlt2)
      have HY : Hid (p (l.getD k 0) = true → l.any p = true) := fun h => any_true hlt2 h
      generalize hd : l.getD k 0 = d at *
      have HD := hidd hd
      clear hd
      go_wp2_with fail
      refine hcl.mono ?_
      rintro e w1 ⟨rfl, rfl⟩
      cases hpd : p d with
      | true =>
        have HA := hidd (HY.out hpd)
        clear hcl hpd HY
        go_wp2
        go_ret
        exact ⟨(k : Int), rfl, by rw [HA.out]; exact decide_eq_true (by omega), rfl⟩
      | false =>
        have HQ : Hid (∀ i, i < k + 1 → p (l.getD i 0) = false) := fun i hi => by
          by_cases e : i = k
          · subst e; rw [HD.out]; exact hpd
          · exact HP.out i (by omega)
        clear hcl hpd HY
        go_wp2
        exact ⟨⟨k + 1, by omega, rfl, HQ.out, by trivial⟩, by simp [intOf]; omega⟩
    · have hke : k = n := by omega
      subst hke
      have HA := hidd (any_false (fun i hi => HP.out i (by rw [HN.out] at hi; exact hi)))
      go_wp2
      go_ret
      exact ⟨-1, rfl, by rw [HA.out]; rfl, rfl⟩
set_option maxHeartbeats 400000 in
theorem has1_any (A : Option Addr) (c : Nat) (l : List Nat) (ptr : Value) (p : Nat → Bool) (w : World) (hI : Its w w.heap.size A (l.map fun k : Nat => (k : Int))) (hl : l.length ≤ 1000000)
    (hcl : ∀ kid ∈ l, Calls Try.prog 83 #[.int .i64 ((kid : Nat) : Int), ptr] w fun e w' => e = .returned (.bool (p kid)) ∧ w' = w) :
    Calls Try.prog 82 #[.slice A l.length c, .func (.func 83) #[] #[ptr]] w fun e w' => e = .returned (.bool (l.any p)) ∧ w' = w := by
  have hi := idx1_any A c l ptr p w hI hl hcl
  clear hI hl hcl
  generalize l.length = n at *
  generalize l.any p = z at *
  go_enter Try.func82, Try.ntmps82
  go_wp2_with fail
  refine hi.mono ?_
  rintro e w1 ⟨r, rfl, hr, rfl⟩
  clear hi
  subst hr
  go_wp2
  go_ret
  first | exact ⟨rfl, rfl⟩ | (trace_state; exact ⟨by simp, rfl⟩)
set_option maxHeartbeats 400000 in
theorem idx2_any (A : Option Addr) (c : Nat) (l : List Nat) (ptr : Value) (p : Nat → Bool) (w : World) (hI : Its w w.heap.size A (l.map fun k : Nat => (k : Int))) (hl : l.length ≤ 1000000)
    (hcl : ∀ kid ∈ l, Calls Try.prog 84 #[.int .i64 ((kid : Nat) : Int), ptr] w fun e w' => e = .returned (.bool (p kid)) ∧ w' = w) :
    Calls Try.prog 91 #[.slice A l.length c, .func (.func 84) #[] #[ptr]] w fun e w' => ∃ r : Int, e = .returned (.int .i64 r) ∧ decide (0 ≤ r) = l.any p ∧ w' = w := by
  have HI := hidd hI
  have HC := hidd hcl
  clear hI hcl
  generalize hn : l.length = n at *
  have HN := hidd hn
  clear hn
  go_enter Try.func91, Try.ntmps91
  go_wp2
  go_loopw [8] (fun s8 wr => ∃ k : Nat, k ≤ n ∧ s8 = .int .i64 (k : Int) ∧ (∀ i, i < k → p (l.getD i 0) = false) ∧ wr = w) (fun s8 _ => n - (intOf s8).toNat)
  case atStart => exact ⟨0, Nat.zero_le _, rfl, fun i hi => absurd hi (Nat.not_lt_zero _), rfl⟩
  case round =>
    obtain ⟨k, hk0, rfl, hp, rfl⟩ := hrel
    have HP := hidd hp
    clear hp
    by_cases hlt : k < n
    · have hlt2 : k < l.length := by rw [HN.out]; exact hlt
      obtain ⟨g, off, rfl, hgl, hcell⟩ := its_nat HI.out hlt2
      have hki : (k : Int) < (n : Int) := by omega
      have hcl := HC.out (l.getD k 0) (by rw [List.getD_eq_getElem?_getD, List.getElem?_eq_getElem hlt2]; exact List.getElem_mem hlt2)
      have HY : Hid (p (l.getD k 0) = true → l.any p = true) := fun h => any_true hlt2 h
      generalize hd : l.getD k 0 = d at *
      have HD := hidd hd
      clear hd
      go_wp2_with fail
      refine hcl.mono ?_
      rintro e w1 ⟨rfl, rfl⟩
      cases hpd : p d with
      | true =>
        have HA := hidd (HY.out hpd)
        clear hcl hpd HY
        go_wp2
        go_ret
        exact ⟨(k : Int), rfl, by rw [HA.out]; exact decide_eq_true (by omega), rfl⟩
      | false =>
        have HQ : Hid (∀ i, i < k + 1 → p (l.getD i 0) = false) := fun i hi => by
          by_cases e : i = k
          · subst e; rw [HD.out]; exact hpd
          · exact HP.out i (by omega)
        clear hcl hpd HY
        go_wp2
        exact ⟨⟨k + 1, by omega, rfl, HQ.out, by trivial⟩, by simp [intOf]; omega⟩
    · have hke : k = n := by omega
      subst hke
      have HA := hidd (any_false (fun i hi => HP.out i (by rw [HN.out] at hi; exact hi)))
      go_wp2
      go_ret
      exact ⟨-1, rfl, by rw [HA.out]; rfl, rfl⟩
set_option maxHeartbeats 400000 in
theorem has2_any (A : Option Addr) (c : Nat) (l : List Nat) (ptr : Value) (p : Nat → Bool) (w : World) (hI : Its w w.heap.size A (l.map fun k : Nat => (k : Int))) (hl : l.length ≤ 1000000)
    (hcl : ∀ kid ∈ l, Calls Try.prog 84 #[.int .i64 ((kid : Nat) : Int), ptr] w fun e w' => e = .returned (.bool (p kid)) ∧ w' = w) :
    Calls Try.prog 82 #[.slice A l.length c, .func (.func 84) #[] #[ptr]] w fun e w' => e = .returned (.bool (l.any p)) ∧ w' = w := by
  have hi := idx2_any A c l ptr p w hI hl hcl
  clear hI hl hcl
  generalize l.length = n at *
  generalize l.any p = z at *
  go_enter Try.func82, Try.ntmps82
  go_wp2_with fail
  refine hi.mono ?_
  rintro e w1 ⟨r, rfl, hr, rfl⟩
  clear hi
  subst hr
  go_wp2
  go_ret
  first | exact ⟨rfl, rfl⟩ | (trace_state; exact ⟨by simp, rfl⟩)
set_option maxHeartbeats 400000 in
theorem cl1_any (kid q b N : Nat) (f : Nat → Bool) (w : World) (hq : w.cell? ⟨q, 0, none⟩ = some (.slice (some ⟨b, 0, none⟩) N N)) (hr : RowF w b 4 N (fun i => .bool (f i))) (hk : kid < N) (hN : N ≤ 1000000) :
    Calls Try.prog 83 #[.int .i64 (kid : Int), .pointer (some ⟨q, 0, none⟩)] w fun e w' => e = .returned (.bool (!(f kid))) ∧ w' = w := by
  have hc := hr.at_ kid hk
  have hki : (kid : Int) < (N : Int) := by omega
  clear hr
  go_enter Try.func83, Try.ntmps83
  go_wp2
  go_ret
  exact ⟨rfl, rfl⟩
set_option maxHeartbeats 400000 in
theorem cl2_any (kid q b N : Nat) (f : Nat → Bool) (w : World) (hq : w.cell? ⟨q, 0, none⟩ = some (.slice (some ⟨b, 0, none⟩) N N)) (hr : RowF w b 4 N (fun i => .bool (f i))) (hk : kid < N) (hN : N ≤ 1000000) :
    Calls Try.prog 84 #[.int .i64 (kid : Int), .pointer (some ⟨q, 0, none⟩)] w fun e w' => e = .returned (.bool (f kid)) ∧ w' = w := by
  have hc := hr.at_ kid hk
  have hki : (kid : Int) < (N : Int) := by omega
  clear hr
  go_enter Try.func84, Try.ntmps84
  go_wp2
  go_ret
  exact ⟨rfl, rfl⟩
end Go.Proofs.Ytahhiajliomcfaa.Sy.Ap

/- Parts of texts; what may be nothing; rising lists of places. -/
import Derived.Test.YtdaaigkmlbpbgaaPGc
import Derived.Test.YtdaaigkmlbpbgaaPCa
import Derived.Test.YtdaaigkmlbpbgaaPCb
namespace Go.Proofs.Ytdaaigkmlbpbgaa.Sy.Lg.En
open Go.RowKit Go.Proofs.Ytdaaigkmlbpbgaa.Sy.Ap Go.Proofs.Ytdaaigkmlbpbgaa.Sy.Ap.Wk
set_option maxRecDepth 100000
set_option linter.unusedVariables false

/-! ### Two relations that go in step -/
section
variable {R R' : Rel} {f : Nat → Nat}
end
section
variable {ns : List Nd}
/-! ### What may be nothing -/
/-! ### Rising lists -/
theorem endL_rise (ns : List Nd) (t : List Nat) (i : Nat) : (endL ns t i).Pairwise (· < ·) := by
  unfold endL
  exact List.Pairwise.filter _ List.pairwise_lt_range
/-- Two rising lists of the same places are one. -/
theorem rise_ext : ∀ {l m : List Nat}, l.Pairwise (· < ·) → m.Pairwise (· < ·) → (∀ x, x ∈ l ↔ x ∈ m) → l = m
  | [], [], _, _, _ => rfl
  | [], y :: m, _, _, h => by have := (h y).2 (by simp); cases this
  | x :: l, [], _, _, h => by have := (h x).1 (by simp); cases this
  | x :: l, y :: m, hl, hm, h => by
    obtain ⟨h1, h2⟩ := List.pairwise_cons.1 hl
    obtain ⟨h3, h4⟩ := List.pairwise_cons.1 hm
    have hxy : x = y := by
      rcases List.mem_cons.1 ((h x).1 (by simp)) with q | q
      · exact q
      · rcases List.mem_cons.1 ((h y).2 (by simp)) with r | r
        · exact r.symm
        · have := h1 y r
          have := h3 x q
          omega
    subst hxy
    congr 1
    refine rise_ext h2 h4 fun z => ?_
    constructor
    · intro hz
      rcases List.mem_cons.1 ((h z).1 (by simp [hz])) with q | q
      · have := h1 z hz; omega
      · exact q
    · intro hz
      rcases List.mem_cons.1 ((h z).2 (by simp [hz])) with q | q
      · have := h3 z hz; omega
      · exact q
end
end Go.Proofs.Ytdaaigkmlbpbgaa.Sy.Lg.En

namespace Go.Proofs.Ytdaaigkmlbpbgaa.Sy.Lg.En
open Go.RowKit Go.Proofs.Ytdaaigkmlbpbgaa.Sy.Ap Go.Proofs.Ytdaaigkmlbpbgaa.Sy.Ap.Wk
set_option maxRecDepth 100000
set_option linter.unusedVariables false

/-- A rising list is told by which of the places up to n are in it. -/
theorem rise_filter {l : List Nat} (h : l.Pairwise (· < ·)) {n : Nat} {f : Nat → Bool} (hf : ∀ x, x ∈ l ↔ x < n ∧ f x = true) : l = (List.range n).filter f := by
  refine rise_ext h (List.Pairwise.filter _ List.pairwise_lt_range) fun x => ?_
  rw [hf, List.mem_filter, List.mem_range]
end Go.Proofs.Ytdaaigkmlbpbgaa.Sy.Lg.En

namespace Go.Proofs.Ytdaaigkmlbpbgaa.Sy.Lg.En
open Go.RowKit Go.Proofs.Ytdaaigkmlbpbgaa.Sy.Ap Go.Proofs.Ytdaaigkmlbpbgaa.Sy.Ap.Wk
set_option maxRecDepth 100000
set_option linter.unusedVariables false

def someL (f : Nat → Bool) (n : Nat) : List Nat := (List.range n).filter f
theorem someL_next (f : Nat → Bool) (n : Nat) : someL f (n + 1) = if f n = true then someL f n ++ [n] else someL f n := by
  unfold someL
  rw [List.range_succ, List.filter_append]
  split
  · rename_i h; simp [h]
  · rename_i h; simp [h]
theorem someL_len (f : Nat → Bool) (n : Nat) : (someL f n).length ≤ n := by
  have := List.length_filter_le f (List.range n)
  rw [List.length_range] at this
  exact this
theorem i64s_snoc (l : List Nat) (k : Nat) : i64s l ++ [.int .i64 (k : Int)] = i64s (l ++ [k]) := by simp [i64s]
end Go.Proofs.Ytdaaigkmlbpbgaa.Sy.Lg.En

namespace Go.Proofs.Ytdaaigkmlbpbgaa.Sy.Lg.Rn
open Go.RowKit Go.Proofs.Ytdaaigkmlbpbgaa.Sy.Ap Go.Proofs.Ytdaaigkmlbpbgaa.Sy.Ap.Wk Go.Proofs.Ytdaaigkmlbpbgaa.Sy.Lg.En
set_option maxRecDepth 100000
set_option linter.unusedVariables false

/-- The slice at A reads as these bools. -/
def Bls (w : World) (B : Nat) (A : Option Addr) (n : Nat) (f : Nat → Bool) : Prop := ∃ g off, A = some ⟨g, off, none⟩ ∧ g < B ∧ ∀ i, i < n → w.cell? ⟨g, off + i, none⟩ = some (.bool (f i))
section
variable {w w' : World} {B B' : Nat} {A : Option Addr} {n : Nat} {f : Nat → Bool}
theorem Bls.below (h : Bls w B A n f) (hb : Below B w w') : Bls w' B A n f := by
  obtain ⟨g, off, e, hg, hc⟩ := h
  exact ⟨g, off, e, hg, fun i hi => by rw [hb.cell hg]; exact hc i hi⟩
theorem Bls.more (h : Bls w B A n f) (hB : B ≤ B') : Bls w B' A n f := by
  obtain ⟨g, off, e, hg, hc⟩ := h
  exact ⟨g, off, e, by omega, hc⟩
theorem Bls.of_row {q : Nat} (r : RowF w q 4 n (fun i => .bool (f i))) : Bls w w.heap.size (some ⟨q, 0, none⟩) n f :=
  ⟨q, 0, rfl, r.lt, fun i hi => by rw [Nat.zero_add]; exact r.at_ i hi⟩
end
def bls (f : Nat → Bool) (n : Nat) : List Value := (List.range n).map fun i => .bool (f i)
theorem bls_len (f : Nat → Bool) (n : Nat) : (bls f n).length = n := by simp [bls]
theorem bls_at (f : Nat → Bool) (n i : Nat) (hi : i < n) : (bls f n)[i]? = some (.bool (f i)) := by
  unfold bls
  rw [List.getElem?_map, List.getElem?_range hi]
  rfl
theorem bls_one (f : Nat → Bool) (n : Nat) : ∀ u ∈ bls f n, u.oneCell' = true := by
  intro u hu
  obtain ⟨i, _, rfl⟩ := List.mem_map.1 hu
  rfl
theorem bls_set (f : Nat → Bool) (n k : Nat) (z : Bool) (hk : k < n) : (bls f n).set k (.bool z) = bls (fun i => if i = k then z else f i) n := by
  apply List.ext_getElem?
  intro i
  rcases Nat.lt_or_ge i n with h | h
  · rw [bls_at _ _ _ h]
    by_cases e : i = k
    · subst e
      rw [List.getElem?_set_self (by rw [bls_len]; exact h), if_pos rfl]
    · rw [List.getElem?_set_ne (fun q => e q.symm), bls_at _ _ _ h, if_neg e]
  · rw [List.getElem?_eq_none (by rw [List.length_set, bls_len]; exact h), List.getElem?_eq_none (by rw [bls_len]; exact h)]
theorem Bls.of_own {w : World} {b n c : Nat} {A : Option Addr} {f : Nat → Bool} (h : w.ownsRow b 4 1 (.slice A n c) n (bls f n)) (hn : 0 < n) : Bls w w.heap.size A n f := by
  obtain ⟨g, c', e, _, hl⟩ := own_pos h hn
  injection e with e1 e2 e3
  subst e1
  refine ⟨g, 0, rfl, hl, fun i hi => ?_⟩
  have := h.cellAt i (by omega)
  rw [bls_at f n i hi] at this
  rw [Nat.zero_add]
  exact this
set_option maxHeartbeats 400000 in
theorem places_any (s : ByteArray) (n : Nat) (hn : s.size + 1 = n) (hl : n ≤ 1000) (w : World) : Calls Try.prog 32 #[.string s] w fun e w' => Below w.heap.size w w' ∧ ∃ q, w.heap.size ≤ q ∧ e = .returned (.slice (some ⟨q, 0, none⟩) n n) ∧ RowF w' q 4 n (fun _ => .bool false) := by
  have hmk := make_bools6 n (by omega) w
  have hni : (s.size : Int) + 1 = (n : Int) := by omega
  have hwn : IntKind.i64.wrap (n : Int) = (n : Int) := by rw [IntKind.wrap_i64]; omega
  clear hn
  go_enter Try.func32, Try.ntmps32
  go_wp2
  go_ret
  exact ⟨(Below.refl _ _).alloc (Nat.le_refl _) _, w.heap.size, Nat.le_refl _, rfl, RowF.new _ _ _ _⟩
set_option maxHeartbeats 1000000 in
theorem same_any (A A2 : Option Addr) (c c2 n : Nat) (f h : Nat → Bool) (w : World) (hx : Bls w w.heap.size A n f) (hy : Bls w w.heap.size A2 n h) (hl : n ≤ 1000) :
    Calls Try.prog 63 #[.slice A n c, .slice A2 n c2] w fun e w' => Below w.heap.size w w' ∧ ∃ z, e = .returned (.bool z) ∧ (z = true ↔ ∀ i, i < n → f i = h i) := by
  obtain ⟨g1, o1, rfl, hg1, hc1⟩ := hx
  obtain ⟨g2, o2, rfl, hg2, hc2⟩ := hy
  have HC1 := hidd hc1
  have HC2 := hidd hc2
  clear hc1 hc2
  go_enter Try.func63, Try.ntmps63
  go_wp2
  go_loopw [5] (fun s5 wr => ∃ (k m : Nat), k ≤ n ∧ s5 = .int .i64 (k : Int) ∧ (∀ i, i < k → f i = h i) ∧ wr = w.drewN m) (fun s5 _ => n - (intOf s5).toNat)
  case atStart => exact ⟨0, 0, Nat.zero_le _, rfl, fun i hi => absurd hi (Nat.not_lt_zero _), rfl⟩
  case round =>
    obtain ⟨k, m, hk0, rfl, hp, rfl⟩ := hrel
    have HP := hidd hp
    clear hp
    by_cases hlt : k < n
    · have z1 : w.cell? ⟨g1, o1 + k, none⟩ = some (.bool (f k)) := HC1.out k hlt
      have z2 : w.cell? ⟨g2, o2 + k, none⟩ = some (.bool (h k)) := HC2.out k hlt
      have y1 : (w.drewN m).cell? ⟨g1, o1 + k, none⟩ = some (.bool (f k)) := HC1.out k hlt
      have y2 : (w.drewN m).cell? ⟨g2, o2 + k, none⟩ = some (.bool (h k)) := HC2.out k hlt
      have hki : (k : Int) < (n : Int) := by omega
      have HQ : Hid (f k = h k → ∀ i, i < k + 1 → f i = h i) := fun q i hi => by
        by_cases e : i = k
        · subst e; exact q
        · exact HP.out i (by omega)
      have HNE : Hid (f k ≠ h k → ¬ ∀ i, i < n → f i = h i) := fun q e => q (e k hlt)
      generalize f k = x at *
      generalize h k = y at *
      cases x with
      | true =>
        cases y with
        | true =>
          have HQ2 := hidd (HQ.out rfl)
          clear HQ HNE
          go_wp2
          go_quiet (fail)
          go_wp2
          exact ⟨⟨k + 1, m + nq, by omega, rfl, HQ2.out, by simp [World.drewN]⟩, by simp [intOf]; omega⟩
        | false =>
          have HNE2 := hidd (HNE.out (by decide))
          clear HQ HNE
          go_wp2
          go_quiet (fail)
          go_wp2
          go_ret
          exact ⟨bel_drewN (bel_drewN (Below.refl _ _) _) _, false, rfl, ⟨(fun q => by cases q), fun q => absurd q HNE2.out⟩⟩
      | false =>
        cases y with
        | false =>
          have HQ2 := hidd (HQ.out rfl)
          clear HQ HNE
          go_wp2
          go_quiet (fail)
          go_wp2
          exact ⟨⟨k + 1, m + nq, by omega, rfl, HQ2.out, by simp [World.drewN]⟩, by simp [intOf]; omega⟩
        | true =>
          have HNE2 := hidd (HNE.out (by decide))
          clear HQ HNE
          go_wp2
          go_quiet (fail)
          go_wp2
          go_ret
          exact ⟨bel_drewN (bel_drewN (Below.refl _ _) _) _, false, rfl, ⟨(fun q => by cases q), fun q => absurd q HNE2.out⟩⟩
    · have hkn : k = n := by omega
      subst hkn
      go_wp2
      go_ret
      exact ⟨bel_drewN (Below.refl _ _) _, true, rfl, ⟨fun _ => HP.out, fun _ => rfl⟩⟩
theorem own_thaw {w : World} {b n c g : Nat} {xs : List Value} {e : TypeId} {sz : Nat} (h : w.ownsRow b e sz (.slice (some ⟨g, 0, none⟩) n c) n xs) (k : Nat) : w.frozen? ⟨g, k, none⟩ = false := by
  obtain ⟨cur, hc⟩ := own_blk h (k := g) rfl
  simp [World.frozen?, hc]
/-- What the reference's calls tell: places, in memory. -/
def BlR (n : Nat) (w : World) (X : Nat → Prop) (e : Ending) (w' : World) : Prop := Below w.heap.size w w' ∧ ∃ A c f, e = .returned (.slice A n c) ∧ Bls w' w'.heap.size A n f ∧ ∀ j, j < n → (f j = true ↔ X j)
set_option maxHeartbeats 1000000 in
theorem or_any (A A2 : Option Addr) (c c2 n : Nat) (f h : Nat → Bool) (w : World) (hx : Bls w w.heap.size A n f) (hy : Bls w w.heap.size A2 n h) (hn : 0 < n) (hl : n ≤ 1000) :
    Calls Try.prog 46 #[.slice A n c, .slice A2 n c2] w fun e w' => BlR n w (fun j => f j = true ∨ h j = true) e w' := by
  obtain ⟨i0, hi0, hz0, hz1, hz2⟩ := info_parts bool_info6
  obtain ⟨g1, o1, rfl, hg1, hc1⟩ := hx
  obtain ⟨g2, o2, rfl, hg2, hc2⟩ := hy
  go_enter Try.func46, Try.ntmps46
  have hown := World.ownsRow_lit (e := 4) (size := 1) w #[] 0 (Nat.le_refl _) (by unfold maxLen; omega) rfl
  have hbA : Below w.heap.size w (w.alloc (.cells #[] 4)) := (Below.refl _ _).alloc (Nat.le_refl _) _
  have hH : (w.alloc (.cells #[] 4)).heap.size = w.heap.size + 1 := World.size_alloc ..
  have hbase : w.heap.size ≤ (w.alloc (.cells #[] 4)).heap.size := by rw [hH]; omega
  have hnews : ∀ j u, (bls f n)[j]? = some u → (w.alloc (.cells #[] 4)).cell? ((⟨g1, o1, none⟩ : Addr).add j) = some u := fun j u hu => by
    have hj : j < n := by
      rcases Nat.lt_or_ge j n with q | q
      · exact q
      · rw [List.getElem?_eq_none (by rw [bls_len]; exact q)] at hu; cases hu
    rw [bls_at f n j hj] at hu
    obtain rfl := Option.some.inj hu
    rw [addr_addO, hbA.cell hg1]
    exact hc1 j hj
  have HC2 := hidd hc2
  clear hc1 hc2
  go_upto_region 2 with (at_builtin; refine wpList_append_lies _ rfl _ _ _ rfl w.heap.size 4 i0 (.bool false) 1 1 Try.underlying58 hi0 hz0 hz1 hz2 rfl (by omega) _ 0 [] rfl hown ⟨g1, o1, none⟩ n c (bls f n) rfl (by rw [bls_len]; omega) hnews (bls_one f n) hn (by simp only [maxLen]; omega) (by omega) hbase (w.heap.size + 1) hH ?_; intro g7 cap7 w7 hown7 hgrow hat hlt7; rw [Nat.zero_add] at hown7; rw [Nat.zero_add]; refine Hid.out ?_)
  have HS0 : Hid (w7.ownsRow w.heap.size 4 1 (.slice (some ⟨g7, 0, none⟩) n cap7) n (bls f n) ∧ Below w.heap.size w w7) := ⟨hown7, bel_row hbA hbase hgrow (fun q hq => by cases hq; exact Nat.le_refl _)⟩
  have hg7 := (hown7.lt g7 rfl).1
  clear hown hbA hH hbase hnews hown7 hgrow hat hlt7
  refine Lib.hid ?_
  go_wp2
  go_loopw [6] (fun s6 wr => ∃ (k : Nat) (p : Nat → Bool), k ≤ n ∧ s6 = .int .i64 (k : Int) ∧ wr.ownsRow w.heap.size 4 1 (.slice (some ⟨g7, 0, none⟩) n cap7) n (bls p n) ∧ Below w.heap.size w wr ∧ ∀ j, p j = if j < k then (f j || h j) else f j) (fun s6 _ => n - (intOf s6).toNat)
  case atStart => exact ⟨0, f, Nat.zero_le _, rfl, HS0.out.1, HS0.out.2, fun j => by simp⟩
  case round =>
    clear HS0
    obtain ⟨k, p, hk0, rfl, hO, hb, hp⟩ := hrel
    by_cases hlt : k < n
    · have hki : (k : Int) < (n : Int) := by omega
      have hkz : (k : Int) < ((n : Nat) : Int) := hki
      have y1 : wr.cell? ⟨g7, k, none⟩ = some (.bool (p k)) := by
        have := hO.cellAt k (by omega)
        rw [bls_at p n k hlt] at this
        exact this
      have y2 : wr.cell? ⟨g2, o2 + k, none⟩ = some (.bool (h k)) := by rw [hb.cell hg2]; exact HC2.out k hlt
      have hth : wr.frozen? ⟨g7, k, none⟩ = false := own_thaw hO k
      have hpk : p k = f k := by rw [hp k, if_neg (by omega)]
      have HN7 : Hid (∀ z : Bool, z = (f k || h k) → (wr.setCell ⟨g7, k, none⟩ (.bool z)).ownsRow w.heap.size 4 1 (.slice (some ⟨g7, 0, none⟩) n cap7) n (bls (fun j => if j = k then z else p j) n) ∧ Below w.heap.size w (wr.setCell ⟨g7, k, none⟩ (.bool z)) ∧ ∀ j, (if j = k then z else p j) = if j < k + 1 then (f j || h j) else f j) := fun z hz => by
        refine ⟨?_, bel_set hb _ _ hg7, fun j => ?_⟩
        · have := own_put (j := k) hO (by rw [bls_len]; exact hlt) (.bool z)
          rw [bls_set p n k z hlt] at this
          exact this
        · by_cases e : j = k
          · subst e
            rw [if_pos rfl, if_pos (by omega), hz]
          · rw [if_neg e, hp j]
            by_cases q : j < k
            · rw [if_pos q, if_pos (by omega)]
            · rw [if_neg q, if_neg (by omega)]
      rw [hpk] at y1
      clear hO hb hp hpk
      generalize f k = x at *
      generalize h k = y at *
      cases x with
      | true =>
        have HN8 := hidd (HN7.out true rfl)
        clear HN7
        go_wp2
        exact ⟨⟨k + 1, _, by omega, rfl, HN8.out.1, HN8.out.2.1, HN8.out.2.2⟩, by simp [intOf]; omega⟩
      | false =>
        have HN8 := hidd (HN7.out y (by cases y <;> rfl))
        clear HN7
        go_wp2
        exact ⟨⟨k + 1, _, by omega, rfl, HN8.out.1, HN8.out.2.1, HN8.out.2.2⟩, by simp [intOf]; omega⟩
    · have hkn : k = n := by omega
      subst hkn
      have HF : Hid (BlR k w (fun j => f j = true ∨ h j = true) (.returned (.slice (some ⟨g7, 0, none⟩) k cap7)) wr) := ⟨hb, _, _, p, rfl, Bls.of_own hO hn, fun j hj => by rw [hp j, if_pos hj, Bool.or_eq_true]⟩
      clear hO hb hp
      go_wp2
      go_ret
      exact HF.out
end Go.Proofs.Ytdaaigkmlbpbgaa.Sy.Lg.Rn

namespace Go.Proofs.Ytdaaigkmlbpbgaa.Sy.Lg.En
open Go.RowKit Go.Proofs.Ytdaaigkmlbpbgaa.Sy.Ap Go.Proofs.Ytdaaigkmlbpbgaa.Sy.Ap.Wk
set_option maxRecDepth 100000
set_option linter.unusedVariables false

section
variable {gx gy : List Gd} {ns ms : List Nd}
end
/-! ### Two rows of bools that the law writes -/
structure RwS (w : World) (qa qc n : Nat) (fa fc : Nat → Bool) (u : World) : Prop where
  a : RowF u qa 4 n (fun i => .bool (fa i))
  c : RowF u qc 4 n (fun i => .bool (fc i))
  ne : qa ≠ qc
  la : w.heap.size ≤ qa
  lc : w.heap.size ≤ qc
  bel : Below w.heap.size w u
section
variable {w : World} {qa qc n : Nat} {fa fc : Nat → Bool} {u u' : World}
theorem RwS.below (h : RwS w qa qc n fa fc u) (hb : Below u.heap.size u u') : RwS w qa qc n fa fc u' :=
  ⟨h.a.below hb h.a.lt, h.c.below hb h.c.lt, h.ne, h.la, h.lc, h.bel.trans (hb.mono h.bel.size)⟩
end
theorem take_mem_snoc {l : List Nat} {k : Nat} (hk : k < l.length) (x : Nat) : x ∈ l.take (k + 1) ↔ x ∈ l.take k ∨ x = l.getD k 0 := by
  rw [List.take_add_one, List.getElem?_eq_getElem hk, List.getD_eq_getElem?_getD, List.getElem?_eq_getElem hk, List.mem_append]
  show _ ∨ x ∈ [l[k]] ↔ _ ∨ x = l[k]
  rw [List.mem_singleton]
end Go.Proofs.Ytdaaigkmlbpbgaa.Sy.Lg.En

/- A repetition of a tree: the tree, where it ends; as often as a text is long is enough. -/
import Derived.Test.YtcgondjekpcpgaaDoorPGl
import Derived.Test.YtcgondjekpcpgaaDoorPRs
namespace Go.Proofs.YtcgondjekpcpgaaDoor.Sy.Lg.En
open Go.RowKit Go.Proofs.YtcgondjekpcpgaaDoor.Sy.Ap Go.Proofs.YtcgondjekpcpgaaDoor.Sy.Ap.Wk
set_option maxRecDepth 100000
set_option linter.unusedVariables false

theorem img_one (R : Rel) (f j : Nat) : img R (fun i => i = f) j ↔ R f j := by
  constructor
  · rintro ⟨i, rfl, h⟩; exact h
  · intro h; exact ⟨f, rfl, h⟩
theorem img_in {R : Rel} {N : Nat} {X : Nat → Prop} (hX : ∀ j, X j → j ≤ N) (hR : ∀ i j, R i j → i ≤ N → j ≤ N) (t j : Nat) (h : img (upR R t) X j) : j ≤ N := by
  obtain ⟨i, hi, s, _, q⟩ := h
  exact powR_le hR s i j q (hX i hi)
open Classical in
/-- Some time up to N nothing new is found. -/
theorem up_stop {R : Rel} {N : Nat} {X : Nat → Prop} (hX : ∀ j, X j → j ≤ N) (hR : ∀ i j, R i j → i ≤ N → j ≤ N) : ∀ (s : Nat), (∃ s', s' < s ∧ ∀ j, img R (img (upR R s') X) j → img (upR R s') X j) ∨ s ≤ cnt (fun j => decide (img (upR R s) X j)) N
  | 0 => .inr (Nat.zero_le _)
  | s + 1 => by
    rcases up_stop hX hR s with ⟨s', h1, h2⟩ | h
    · exact .inl ⟨s', by omega, h2⟩
    · by_cases hst : ∀ j, img R (img (upR R s) X) j → img (upR R s) X j
      · exact .inl ⟨s, by omega, hst⟩
      · right
        obtain ⟨x, hx⟩ := Classical.not_forall.1 hst
        rw [Classical.not_imp] at hx
        have hx2 : img (upR R (s + 1)) X x := (img_up R X s x).2 (.inr hx.1)
        have := cnt_more (p := fun j => decide (img (upR R s) X j)) (q := fun j => decide (img (upR R (s + 1)) X j)) (N := N) (fun i h => by
          rw [decide_eq_true_iff] at h ⊢
          exact img_up_more h) (img_in hX hR _ x hx2) (by simpa using hx.2) (by simpa using hx2)
        omega
open Classical in
theorem up_all {R : Rel} {N : Nat} {X : Nat → Prop} (hX : ∀ j, X j → j ≤ N) (hR : ∀ i j, R i j → i ≤ N → j ≤ N) (t j : Nat) (h : img (upR R t) X j) : img (upR R (N + 1)) X j := by
  have hsame : ∃ s', s' ≤ N + 1 ∧ ∀ j, img R (img (upR R s') X) j → img (upR R s') X j := by
    rcases up_stop hX hR (N + 1) with ⟨s', h1, h2⟩ | hc
    · exact ⟨s', by omega, h2⟩
    · refine ⟨N + 1, Nat.le_refl _, fun j q => ?_⟩
      have hf := cnt_full hc j (img_in hX hR (N + 2) j ((img_up R X (N + 1) j).2 (.inr q)))
      rw [decide_eq_true_iff] at hf
      exact hf
  obtain ⟨s', h1, h2⟩ := hsame
  have key := img_up_same h2
  rcases Nat.le_total t s' with q | q
  · have : img (upR R s') X j := by
      obtain ⟨i, hi, s, hs, r⟩ := h
      exact ⟨i, hi, s, by omega, r⟩
    have := (key (N + 1 - s') j).2 this
    rw [show s' + (N + 1 - s') = N + 1 from by omega] at this
    exact this
  · rw [show t = s' + (t - s') from by omega, key] at h
    have := (key (N + 1 - s') j).2 h
    rw [show s' + (N + 1 - s') = N + 1 from by omega] at this
    exact this
/-- Without an end it is as with one as great as the text is long. -/
theorem rep_end {R : Rel} {N : Nat} (hR : ∀ i j, R i j → i ≤ N → j ≤ N) (lo : Nat) {hi : Int} (hn : hi < 0) {f : Nat} (hf : f ≤ N) (j : Nat) : repR R (lo : Int) hi f j ↔ repR R (lo : Int) ((lo + (N + 1) : Nat) : Int) f j := by
  have e1 := img_rep_end (R := R) (X := fun i => i = f) (lo := lo) hn j
  have e2 := img_rep (R := R) (X := fun i => i = f) (lo := lo) (hi := lo + (N + 1)) (by omega) j
  rw [img_one] at e1 e2
  rw [e1, e2, show lo + (N + 1) - lo = N + 1 from by omega]
  have hX : ∀ j, img (powR R lo) (fun i => i = f) j → j ≤ N := by
    rintro j ⟨i, rfl, q⟩
    exact powR_le hR lo i j q hf
  constructor
  · rintro ⟨t, h⟩
    exact up_all hX hR t j h
  · intro h
    exact ⟨_, h⟩
/-! ### The tree -/
section
variable {gx : List Gd} {ns : List Nd}
theorem wrap_tree (hx : GN gx ns) (tx : TreeN ns) (px : PlainN ns) (h1 : gx.length ≤ 100) {lo hi : Int} (q0 : 0 ≤ lo) (q1 : lo ≤ 4096) (q2 : hi = -1 ∨ (1 ≤ hi ∧ hi ≤ 4096 ∧ lo ≤ hi)) :
    GN (gx ++ [repG ((gx.length : Int) - 1) lo hi]) (ns ++ [ndRep (ns.length - 1) lo hi]) ∧ TreeN (ns ++ [ndRep (ns.length - 1) lo hi]) ∧ PlainN (ns ++ [ndRep (ns.length - 1) lo hi]) := by
  have l1 := hx.1
  have p1 := tx.pos
  have e : ((gx.length : Int) - 1) = ((ns.length - 1 : Nat) : Int) := by omega
  rw [e]
  exact ⟨gn_snoc hx (gn_rep _ _ _), one_tree tx (by omega) (shape_rep q0 q1 q2) rfl, plain_one px (by show (5 : Nat) ≠ 6; omega)⟩
theorem ends_rep (tx : TreeN ns) {lo hi : Int} (hT : TreeN (ns ++ [ndRep (ns.length - 1) lo hi])) (s : ByteArray) {f : Nat} (hf : f ≤ s.size) (j : Nat) :
    j ∈ endL (ns ++ [ndRep (ns.length - 1) lo hi]) (bs s) f ↔ repR (Mt ns (bs s) (ns.length - 1)) lo hi f j := by
  rw [mem_endL hT.low (by rw [bs_len]; exact hf)]
  exact one_rep tx hT.low rfl rfl (bs s) f j
theorem mt_le (tx : TreeN ns) (s : ByteArray) (i j : Nat) (h : Mt ns (bs s) (ns.length - 1) i j) (hi : i ≤ s.size) : j ≤ s.size := by
  have := (Mt_in tx.low _ _ _ _ h).2
  rw [bs_len] at this
  exact this hi
theorem times_all (tx : TreeN ns) {lo hi : Nat} (hT : TreeN (ns ++ [ndRep (ns.length - 1) lo hi])) (s : ByteArray) {f : Nat} (hf : f ≤ s.size) {fa : Nat → Bool} (h : ∀ k, fa k = true ↔ ∃ t, lo ≤ t ∧ t < hi + 1 ∧ powR (Mt ns (bs s) (ns.length - 1)) t f k) :
    endL (ns ++ [ndRep (ns.length - 1) lo hi]) (bs s) f = someL fa (s.size + 1) := by
  refine rise_filter (endL_rise _ _ _) fun x => ?_
  rw [ends_rep tx hT s hf, h]
  constructor
  · rintro ⟨t, q1, q2, q3⟩
    have := powR_le (mt_le tx s) t f x q3 hf
    exact ⟨by omega, t, by omega, by omega, q3⟩
  · rintro ⟨_, t, q1, q2, q3⟩
    exact ⟨t, by omega, .inr (by omega), q3⟩
theorem times_end (tx : TreeN ns) {lo : Nat} (s : ByteArray) (hT : TreeN (ns ++ [ndRep (ns.length - 1) lo (-1)])) (hT2 : TreeN (ns ++ [ndRep (ns.length - 1) lo ((lo + (s.size + 1) : Nat) : Int)])) {f : Nat} (hf : f ≤ s.size) :
    endL (ns ++ [ndRep (ns.length - 1) lo (-1)]) (bs s) f = endL (ns ++ [ndRep (ns.length - 1) lo ((lo + (s.size + 1) : Nat) : Int)]) (bs s) f := by
  refine rise_ext (endL_rise _ _ _) (endL_rise _ _ _) fun x => ?_
  rw [ends_rep tx hT s hf, ends_rep tx hT2 s hf]
  exact rep_end (mt_le tx s) lo (by omega) hf x
theorem some_mem (f : Nat → Bool) (n x : Nat) : x ∈ someL f n ↔ x < n ∧ f x = true := by
  unfold someL
  rw [List.mem_filter, List.mem_range]
end
end Go.Proofs.YtcgondjekpcpgaaDoor.Sy.Lg.En

namespace Go.Proofs.YtcgondjekpcpgaaDoor.Sy.Lg.En
open Go.RowKit Go.Proofs.YtcgondjekpcpgaaDoor.Sy.Ap Go.Proofs.YtcgondjekpcpgaaDoor.Sy.Ap.Wk
set_option maxRecDepth 100000
set_option linter.unusedVariables false

theorem PrS.below {w : World} {gx gy : List Gd} {i : Nat} {ov : Value} {l : List NR} {wr u : World} (h : PrS w gx gy i ov l wr) (hb : Below wr.heap.size wr u) : PrS w gx gy i ov l u :=
  ⟨own_below h.own hb (Nat.le_refl _), h.map, fun x hx => by
    rcases h.kid x hx with q | q
    · exact .inl (q.below (hb.mono h.bel.size))
    · exact .inr (own_below q hb (Nat.le_refl _)), h.bel.trans (hb.mono h.bel.size)⟩
def repC (lo hi : Int) (q : Nat) : List Value := [.int .u8 5, .int .u64 0, .int .u64 0, .int .u64 0, .int .u64 0, .slice (some ⟨q, 0, none⟩) 1 1, .int .i64 lo, .int .i64 hi, .string { data := #[] }]
theorem repC_eq (k lo hi : Int) (q : Nat) : gdL (repG k lo hi) (some ⟨q, 0, none⟩) 1 = repC lo hi q := by
  simp only [gdL, repG, repC, W_zero, List.length_cons, List.length_nil, Nat.zero_add]
/-- Memory while both are joined: the node in its box, its kids' row. -/
structure WpS (w : World) (k : Int) (lo hi : Int) (qb qk : Nat) (u : World) : Prop where
  box : RowA u qb 43 (repC lo hi qk).toArray
  kid : u.ownsRow w.heap.size 3 1 (.slice (some ⟨qk, 0, none⟩) 1 1) 1 (ints [k])
  bel : Below w.heap.size w u
theorem WpS.below {w : World} {k lo hi : Int} {qb qk : Nat} {u u' : World} (h : WpS w k lo hi qb qk u) (hb : Below u.heap.size u u') : WpS w k lo hi qb qk u' :=
  ⟨h.box.below hb h.box.lt, own_below h.kid hb (Nat.le_refl _), h.bel.trans (hb.mono h.bel.size)⟩
def EmpN (z : Value) (u : World) : Prop := ∃ b, z = .slice (some ⟨b, 0, none⟩) 0 0
def NewN (cs : Array Value) (z : Value) (u : World) : Prop := ∃ g, z = .slice (some ⟨g, 0, none⟩) 1 1 ∧ RowA u g 43 cs
section
set_option linter.unusedVariables false in
def WrGV (w : World) (A : Option Addr) (n c : Nat) (gx : List Gd) (lx : List NR) (qb qk : Nat) (lo hi : Int) (t : Nat) : Option Value :=
  match t with
  | 0 => some (.slice A n c)
  | 3 => some (.pointer (some ⟨qb, 0, none⟩))
  | 11 => some (.slice A n c)
  | 13 => some (.agg #[.int .u8 5, .int .u64 0, .int .u64 0, .int .u64 0, .int .u64 0, .slice (some ⟨qk, 0, none⟩) 1 1, .int .i64 lo, .int .i64 hi, .string { data := #[] }])
  | _ => none
set_option linter.unusedVariables false in
def WrGP (w : World) (A : Option Addr) (n c : Nat) (gx : List Gd) (lx : List NR) (qb qk : Nat) (lo hi : Int) (t : Nat) : Option (Value → World → Prop) :=
  match t with
  | 10 => some (EmpN)
  | 12 => some (fun v u => PrS w gx [] 0 v lx u)
  | 14 => some (NewN (repC lo hi qk).toArray)
  | _ => none
def WrG (w : World) (A : Option Addr) (n c : Nat) (gx : List Gd) (lx : List NR) (qb qk : Nat) (lo hi : Int) (t : Nat) (v : Value) (u : World) : Prop := (∀ z9, WrGV w A n c gx lx qb qk lo hi t = some z9 → v = z9) ∧ ∀ R, WrGP w A n c gx lx qb qk lo hi t = some R → R v u
set_option maxHeartbeats 2000000 in
theorem wrap_any (lo hi : Int) (A : Option Addr) (c : Nat) (gx : List Gd) (ns : List Nd) (w : World) (NX : Nds w w.heap.size A gx) (hgx : GN gx ns) (htx : TreeN ns) (hk2 : gx.length ≤ 100) :
    Calls Tryd.prog 24 #[.slice A gx.length c, .agg #[.int .u8 5, .int .u64 0, .int .u64 0, .int .u64 0, .int .u64 0, .slice none 0 0, .int .i64 lo, .int .i64 hi, .string { data := #[] }]] w fun e w' => Below w.heap.size w w' ∧ ∃ A' c', e = .returned (.slice A' (gx.length + 1) c') ∧ Nds w' w'.heap.size A' (gx ++ [repG ((gx.length : Int) - 1) lo hi]) := by
  obtain ⟨i0, hi0, hz0, hz1, hz2⟩ := info_parts node_info
  have hpos0 : 0 < gx.length := by have := htx.pos; have := hgx.1; omega
  obtain ⟨bx, ox, lx, rfl, hbx, hmapx, hcx, hix⟩ := nds_cells NX (fun q => by rw [q] at hpos0; simp at hpos0)
  obtain ⟨n, hn⟩ : ∃ n, gx.length = n := ⟨_, rfl⟩
  have HNL := hidd hn
  rw [hn] at hk2 hpos0
  rw [hn]
  have hlx : lx.length = n := by have := congrArg List.length hmapx; rw [List.length_map] at this; rw [this]; exact hn
  have HL9 : Hid ((nodesC lx).length = n * 9) := by show _ = _; rw [nodesC_len, hlx]
  have HLX := hidd hlx
  have HCX : Hid (∀ u, Below w.heap.size w u → ∀ j v, (nodesC lx)[j]? = some v → u.cell? ((⟨bx, ox, none⟩ : Addr).add j) = some v) := fun u hu j v h => by
    have e := hcx j v h
    rw [addr_addO] at e ⊢
    rw [hu.cell hbx]
    exact e
  have HPR : Hid (∀ u v1 u1, Below w.heap.size w u → Below u.heap.size u u1 → u1.ownsRow w.heap.size 43 9 v1 n (nodesC lx) → PrS w gx [] 0 v1 lx u1) := fun u v1 u1 hu h1 ho =>
    PrS.first hmapx hix (by rw [HLX.out]; exact ho) (hu.trans (h1.mono hu.size))
  have hpos : 0 < n := hpos0
  clear NX hgx htx hmapx hcx hix hlx hn hbx hpos0
  go_enter Tryd.func24, Tryd.ntmps24
  go_upto_region 2 with fail
  have R1 := (RowA.new w 43 (repC lo hi (w.heap.size + 1)).toArray).alloc (.cells #[.int .i64 ((n : Int) - 1)] 3)
  have s1 : (w.alloc (.cells (repC lo hi (w.heap.size + 1)).toArray 43)).heap.size = w.heap.size + 1 := World.size_alloc ..
  have K1 := World.ownsRow_lit (e := 3) (size := 1) (base := w.heap.size) (w.alloc (.cells (repC lo hi (w.heap.size + 1)).toArray 43)) #[.int .i64 ((n : Int) - 1)] 1 (by rw [s1]; omega) (by unfold maxLen; omega) rfl
  rw [s1] at K1
  have B1 : Below w.heap.size w ((w.alloc (.cells (repC lo hi (w.heap.size + 1)).toArray 43)).alloc (.cells #[.int .i64 ((n : Int) - 1)] 3)) := ((Below.refl _ _).alloc (Nat.le_refl _) _).alloc (by rw [s1]; omega) _
  have S1 : WpS w ((n : Int) - 1) lo hi w.heap.size (w.heap.size + 1) ((w.alloc (.cells (repC lo hi (w.heap.size + 1)).toArray 43)).alloc (.cells #[.int .i64 ((n : Int) - 1)] 3)) := ⟨R1, K1, B1⟩
  change Code.wp Tryd.prog _ _ _ ((w.alloc (.cells (repC lo hi (w.heap.size + 1)).toArray 43)).alloc (.cells #[.int .i64 ((n : Int) - 1)] 3))
  generalize (w.alloc (.cells (repC lo hi (w.heap.size + 1)).toArray 43)).alloc (.cells #[.int .i64 ((n : Int) - 1)] 3) = w1 at *
  obtain ⟨qb, hqb⟩ : ∃ qb, qb = w.heap.size := ⟨_, rfl⟩
  obtain ⟨qk, hqk⟩ : ∃ qk, qk = w.heap.size + 1 := ⟨_, rfl⟩
  rw [← hqk, ← hqb] at S1
  rw [← hqk, ← hqb]
  clear R1 K1 B1 s1 hqb hqk
  refine wp_region_slotsH 5 (by decide) (by kernel_rfl) (by kernel_rfl) (fun _ _ => true) (WpS w ((n : Int) - 1) lo hi qb qk) (WrG w (some ⟨bx, ox, none⟩) n c gx lx qb qk lo hi) EbL (by kernel_rfl) (by kernel_rfl) (by kernel_rfl) (by kernel_rfl) ?_ (S1.below (bel_drew (Below.refl _ _))) [0, 3] (by kernel_rfl) ?_ ?_ ?_
  · intro t dd v u u' _ _ h hE
    refine ⟨h.1, fun R hR => ?_⟩
    have h2 := h.2 R hR
    unfold WrGP at hR
    split at hR
    · cases hR; exact h2
    · cases hR; exact PrS.below h2 hE
    · cases hR
      obtain ⟨g, e1, e2⟩ := h2
      exact ⟨g, e1, e2.below hE e2.lt⟩
    · cases hR
  · intro u _
    refine ⟨⟨_, rfl, ?_⟩, ⟨_, rfl, ?_⟩, trivial⟩ <;> exact ⟨fun _ h => Option.some.inj h, fun _ h => no_some h⟩
  · refine ⟨?_, ?_, ?_, ?_, ?_, trivial⟩
    · intro a u hS hr K hK
      rw [if_pos (want_none rfl)]
      unfold Oper.wp
      go_simp
      exact hK _ _ ⟨fun _ h => no_some h, fun _ h => spec_ok h ⟨_, rfl⟩⟩ (hS.below ((Below.refl _ _).alloc (Nat.le_refl _) _)) (eby rfl ((Below.refl _ _).alloc (Nat.le_refl _) _))
    · intro a u hS hr K hK
      obtain ⟨⟨vl0, e0, g0⟩, -⟩ := hr
      obtain rfl := g0.1 _ rfl
      clear g0
      rw [if_pos (want_none rfl)]
      unfold Oper.wp
      go_simp
      exact hK _ _ ⟨fun _ h => Option.some.inj h, fun _ h => no_some h⟩ hS (eby rfl (Below.refl _ _))
    · intro a u hS hr K hK
      obtain ⟨⟨vl0, e0, g0⟩, ⟨vl1, e1, g1⟩, -⟩ := hr
      replace g0 := g0.2 _ rfl
      obtain rfl := g1.1 _ rfl
      clear g1
      rw [if_pos (want_none rfl)]
      obtain ⟨b0, rfl⟩ := g0
      refine wp_append_full (.tmp 10) (.tmp 11) 22 rfl 43 i0 (.agg zeroC) 9 96 Tryd.underlying22 hi0 hz0 hz1 hz2 rfl (by omega) ⟨b0, 0, none⟩ 0 [] (eval_at e0) rfl (fun j v h => by cases h) ⟨bx, ox, none⟩ n c (nodesC lx) (eval_at e1) HL9.out (HCX.out u hS.bel) hpos (by simp only [maxLen]; omega) (by omega) ?_
      intro v1 u1 hown hgr
      rw [Nat.zero_add, List.nil_append] at hown
      exact hK _ _ ⟨fun _ h => no_some h, fun _ h => spec_ok h (HPR.out u v1 u1 hS.bel (grown_none hgr) (own_less hown hS.bel.size))⟩ (hS.below (grown_none hgr)) (eby rfl (grown_none hgr))
    · intro a u hS hr K hK
      obtain ⟨⟨vl0, e0, g0⟩, -⟩ := hr
      obtain rfl := g0.1 _ rfl
      clear g0
      rw [if_pos (want_none rfl)]
      have d0 : u.cell? ⟨qb, 0, none⟩ = some (.int .u8 5) := hS.box.at_ rfl
      have d1 : u.cell? ⟨qb, 1, none⟩ = some (.int .u64 0) := hS.box.at_ rfl
      have d2 : u.cell? ⟨qb, 2, none⟩ = some (.int .u64 0) := hS.box.at_ rfl
      have d3 : u.cell? ⟨qb, 3, none⟩ = some (.int .u64 0) := hS.box.at_ rfl
      have d4 : u.cell? ⟨qb, 4, none⟩ = some (.int .u64 0) := hS.box.at_ rfl
      have d5 : u.cell? ⟨qb, 5, none⟩ = some (.slice (some ⟨qk, 0, none⟩) 1 1) := hS.box.at_ rfl
      have d6 : u.cell? ⟨qb, 6, none⟩ = some (.int .i64 lo) := hS.box.at_ rfl
      have d7 : u.cell? ⟨qb, 7, none⟩ = some (.int .i64 hi) := hS.box.at_ rfl
      have d8 : u.cell? ⟨qb, 8, none⟩ = some (.string { data := #[] }) := hS.box.at_ rfl
      unfold Oper.wp
      go_simp
      exact hK _ _ ⟨fun _ h => Option.some.inj h, fun _ h => no_some h⟩ hS (eby rfl (Below.refl _ _))
    · intro a u hS hr K hK
      obtain ⟨⟨vl0, e0, g0⟩, -⟩ := hr
      obtain rfl := g0.1 _ rfl
      clear g0
      rw [if_pos (want_none rfl)]
      unfold Oper.wp
      go_simp
      exact hK _ _ ⟨fun _ h => no_some h, fun _ h => spec_ok h ⟨_, rfl, RowA.new _ _ _⟩⟩ (hS.below ((Below.refl _ _).alloc (Nat.le_refl _) _)) (eby rfl ((Below.refl _ _).alloc (Nat.le_refl _) _))
  intro a u2 hS2 hts hd hkn hf
  obtain ⟨v10, e10, g10⟩ := hf 0 _ 10 (by decide) rfl rfl (fun _ => rfl)
  obtain ⟨v11, e11, g11⟩ := hf 1 _ 11 (by decide) rfl rfl (fun _ => rfl)
  obtain ⟨v12, e12, g12⟩ := hf 2 _ 12 (by decide) rfl rfl (fun _ => rfl)
  obtain ⟨v13, e13, g13⟩ := hf 3 _ 13 (by decide) rfl rfl (fun _ => rfl)
  obtain ⟨v14, e14, g14⟩ := hf 4 _ 14 (by decide) rfl rfl (fun _ => rfl)
  have hA := act_putsH [(10, v10), (11, v11), (12, v12), (13, v13), (14, v14)] hts hd hkn (by kernel_rfl) (by simp [e10, e11, e12, e13, e14])
  clear hf hts hd hkn e10 e11 e12 e13 e14
  replace g10 := g10.2 _ rfl
  obtain rfl := g11.1 _ rfl
  clear g11
  replace g12 := g12.2 _ rfl
  obtain rfl := g13.1 _ rfl
  clear g13
  replace g14 := g14.2 _ rfl
  subst hA
  simp only [List.foldl, List.setIfInBounds_toArray, List.set_cons_zero, List.set_cons_succ]
  simp only [List.drop_succ_cons, List.drop_zero]
  obtain ⟨A12, c12, rfl⟩ := own_form g12.own
  obtain ⟨q14, rfl, R14⟩ := g14
  have HP := hidd g12
  have hown := g12.own
  rw [HLX.out] at hown
  rw [HLX.out]
  have HS2 := hidd hS2
  have hnews := World.news_of_block R14
  have hbase := hS2.bel.size
  have hho := hS2.kid
  clear g12 g10 hS2 R14
  refine wpList_append_lies _ rfl _ _ _ rfl w.heap.size 43 i0 (.agg zeroC) 9 96 Tryd.underlying22 hi0 hz0 hz1 hz2 rfl (by omega) _ n (nodesC lx) rfl hown ⟨q14, 0, none⟩ 1 1 (repC lo hi qk) rfl rfl (by simpa using hnews) (by simp [repC, Value.oneCell']) (by omega) (by simp only [maxLen]; omega) (by omega) hbase _ rfl ?_
  intro g8 cap8 w8 hown8 hgrow hat hlt8
  have hfin := pr_last (g := repG ((n : Int) - 1) lo hi) (A := some ⟨qk, 0, none⟩) (c := 1) (k := n) HP.out (Below.refl _ _) hho HLX.out (by rw [HLX.out]; exact hgrow) (by rw [repC_eq]; exact hown8)
  have HF : Hid (Below w.heap.size w w8 ∧ ∃ A' c', Value.slice (some ⟨g8, 0, none⟩) (n + 1) cap8 = .slice A' (n + 1) c' ∧ Nds w8 w8.heap.size A' (gx ++ [repG ((n : Int) - 1) lo hi])) := by
    obtain ⟨b8, A8, c8, hv8, hN8⟩ := hfin
    have hm := HP.out.map
    simp only [List.take_nil, List.map_nil, List.append_nil] at hm
    rw [hm] at hN8
    exact ⟨b8, A8, c8, hv8, hN8⟩
  clear hfin hown hown8 hgrow hat hlt8 hnews hbase hho
  go_wp2
  go_ret
  obtain ⟨b8, A8, c8, hv8, hN8⟩ := HF.out
  exact ⟨b8, A8, c8, congrArg _ hv8, hN8⟩
end
end Go.Proofs.YtcgondjekpcpgaaDoor.Sy.Lg.En

/- Places: copied. -/
import Derived.Test.YtcgondjekpcpgaaDoorPCg
import Derived.Lib.SliceRun
namespace Go.Proofs.YtcgondjekpcpgaaDoor.Sy.Lg.Cp
open Go.RowKit Go.Proofs.YtcgondjekpcpgaaDoor.Sy.Ap Go.Proofs.YtcgondjekpcpgaaDoor.Sy.Ap.Wk Go.Proofs.YtcgondjekpcpgaaDoor.Sy.Lg.Pt
set_option maxRecDepth 100000
set_option linter.unusedVariables false

/-- The words of places, copied. -/
def ClR (u : World) (p : Nat → Bool) (v : Value) (u' : World) : Prop := (v = .slice none 0 0 ∧ noneB p) ∨ ((∃ i, p i = true) ∧ u'.ownsRow u.heap.size 39 1 v 1 [.int .u64 (W p 0)])
theorem ClR.below {u : World} {p : Nat → Bool} {v : Value} {u1 u2 : World} (h : ClR u p v u1) (hb : Below u1.heap.size u1 u2) : ClR u p v u2 := by
  rcases h with h | ⟨h1, h2⟩
  · exact .inl h
  · exact .inr ⟨h1, own_below h2 hb (Nat.le_refl _)⟩
theorem ClR.form {u : World} {p : Nat → Bool} {v : Value} {u1 : World} (h : ClR u p v u1) : ∃ A n c, v = .slice A n c := by
  rcases h with ⟨h, _⟩ | ⟨_, h⟩
  · exact ⟨_, _, _, h⟩
  · obtain ⟨A, c, h2⟩ := own_form h
    exact ⟨_, _, _, h2⟩
set_option maxHeartbeats 1000000 in
theorem clone_any (ts : Value) (p : Nat → Bool) (u : World) (h : Pl u (.agg #[.int .i64 0, ts]) p) :
    Calls Tryd.prog 84 #[ts] u fun e u' => Below u.heap.size u u' ∧ ∃ v, e = .returned v ∧ ClR u p v u' := by
  obtain ⟨j0, hj0i, hy0, hy1, hy2⟩ := info_parts u64_info
  have q22 : ∀ (w : World) (a : Option Addr) (n c n' c' : Nat), (binOp .eql 56 (.slice a n c) (.slice none n' c')).run Tryd.prog w = .ok (.bool a.isNone) w := fun w a n c n' c' => Lib.run_eql_slice_nil w _ _ a n c n' c' Tryd.underlying56
  rcases h.2 with ⟨h1, hnone⟩ | ⟨g2, c2, i2, h1, hc2, hg2, hcell, hi2⟩
  · have e1 : ts = .slice none 0 0 := by
      injection h1 with h1
      injection h1 with h1
      injection h1 with _ h1
      injection h1 with h1 _
    subst e1
    go_enter Tryd.func84, Tryd.ntmps84
    go_wp2
    go_ret
    exact ⟨Below.refl _ _, _, rfl, .inl ⟨rfl, hnone⟩⟩
  · have e1 : ts = .slice (some ⟨g2, 0, none⟩) 1 c2 := by
      injection h1 with h1
      injection h1 with h1
      injection h1 with _ h1
      injection h1 with h1 _
    subst e1
    have hown := World.ownsRow_lit (e := 39) (size := 1) u #[] 0 (Nat.le_refl _) (by unfold maxLen; omega) rfl
    have hbA : Below u.heap.size u (u.alloc (.cells #[] 39)) := (Below.refl _ _).alloc (Nat.le_refl _) _
    have hH : (u.alloc (.cells #[] 39)).heap.size = u.heap.size + 1 := World.size_alloc ..
    have hbase : u.heap.size ≤ (u.alloc (.cells #[] 39)).heap.size := by rw [hH]; omega
    have hnews : ∀ j v, ([.int .u64 (W p 0)] : List Value)[j]? = some v → (u.alloc (.cells #[] 39)).cell? ((⟨g2, 0, none⟩ : Addr).add j) = some v := fun j v hv => by
      cases j with
      | zero =>
        cases hv
        rw [addr_addO, hbA.cell (by exact hg2)]
        exact hcell
      | succ j => cases hv
    have HI : Hid (∃ i, p i = true) := ⟨i2, hi2⟩
    clear hcell hi2 h h1
    go_enter Tryd.func84, Tryd.ntmps84
    go_wp2_with (at_builtin; refine wpList_append_lies _ rfl _ _ _ rfl u.heap.size 39 j0 (.int .u64 0) 1 8 Tryd.underlying56 hj0i hy0 hy1 hy2 rfl (by omega) _ 0 [] rfl hown ⟨g2, 0, none⟩ 1 c2 [.int .u64 (W p 0)] rfl rfl hnews (by simp [Value.oneCell']) (by omega) (by simp only [maxLen]; omega) (by omega) hbase (u.heap.size + 1) hH ?_; intro g8 cap8 w8 hown8 hgrow hat hlt8; refine Hid.out ?_)
    have HFIN : Hid (Below u.heap.size u w8 ∧ w8.ownsRow u.heap.size 39 1 (.slice (some ⟨g8, 0, none⟩) 1 cap8) 1 [.int .u64 (W p 0)]) := ⟨bel_row hbA hbase hgrow (fun k hk => (hown.lt k hk).1), hown8⟩
    clear hown hbA hH hbase hnews hown8 hgrow hat hlt8
    refine Lib.hid ?_
    go_wp2
    go_ret
    exact ⟨HFIN.out.1, _, rfl, .inr ⟨HI.out, HFIN.out.2⟩⟩
structure CpS (w : World) (q : Nat) (ts : Value) (p : Nat → Bool) (u : World) : Prop where
  box : RowA u q 58 #[.int .i64 0, ts]
  pl : Pl u (.agg #[.int .i64 0, ts]) p
  bel : Below w.heap.size w u
  res : RowA u (q + 1) 58 #[.int .i64 0, .slice none 0 0]
theorem CpS.below {w : World} {q : Nat} {ts : Value} {p : Nat → Bool} {u u' : World} (h : CpS w q ts p u) (hb : Below u.heap.size u u') : CpS w q ts p u' := ⟨h.box.below hb h.box.lt, h.pl.below hb, h.bel.trans (hb.mono h.bel.size), h.res.below hb h.res.lt⟩
def CpA (w : World) (p : Nat → Bool) (v : Value) (u : World) : Prop := ∃ sv, v = .agg #[.int .i64 0, sv] ∧ ClR w p sv u
theorem CpA.below {w : World} {p : Nat → Bool} {v : Value} {u1 u2 : World} (h : CpA w p v u1) (hb : Below u1.heap.size u1 u2) : CpA w p v u2 := by
  obtain ⟨sv, h1, h2⟩ := h
  exact ⟨sv, h1, h2.below hb⟩
theorem ClR.less {w u : World} {p : Nat → Bool} {v : Value} {u1 : World} (h : ClR u p v u1) (hs : w.heap.size ≤ u.heap.size) : ClR w p v u1 := by
  rcases h with h | ⟨h1, h2⟩
  · exact .inl h
  · exact .inr ⟨h1, own_less h2 hs⟩
theorem eby {d : Option Nat} {u u' : World} (_ : true = true) (h : Below u.heap.size u u') : EbL d u u' := h
set_option linter.unusedVariables false in
def CpGV (w : World) (q : Nat) (ts : Value) (p : Nat → Bool) (t : Nat) : Option Value :=
  match t with
  | 1 => some (.pointer (some ⟨q, 0, none⟩))
  | 3 => some (.pointer (some ⟨q, 0, none⟩))
  | 4 => some (.int .i64 0)
  | 5 => some (.pointer (some ⟨q, 1, none⟩))
  | 6 => some (ts)
  | _ => none
set_option linter.unusedVariables false in
def CpGP (w : World) (q : Nat) (ts : Value) (p : Nat → Bool) (t : Nat) : Option (Value → World → Prop) :=
  match t with
  | 7 => some (ClR w p)
  | 8 => some (CpA w p)
  | _ => none
def CpG (w : World) (q : Nat) (ts : Value) (p : Nat → Bool) (t : Nat) (v : Value) (u : World) : Prop := (∀ z9, CpGV w q ts p t = some z9 → v = z9) ∧ ∀ R, CpGP w q ts p t = some R → R v u
theorem own_setRow {u : World} {base : Nat} {e : TypeId} {sz n b : Nat} {z : Value} {xs : List Value} (h : u.ownsRow base e sz z n xs) (hb : z.ownBlock ≠ some b) (cs : Array Value) : (u.setRow b cs).ownsRow base e sz z n xs := by
  obtain ⟨h1, h2⟩ := h
  refine ⟨h1, ?_⟩
  rcases h2 with h2 | ⟨g, cap, cur, hv, hg, hh, r⟩
  · exact .inl h2
  · exact .inr ⟨g, cap, cur, hv, hg, (setRow_other u b g cs (fun q => hb (by rw [hv, ← q]; rfl))).trans hh, r⟩
set_option maxHeartbeats 1000000 in
theorem copied_any (v : Value) (p : Nat → Bool) (u : World) (h : Pl u v p) : Calls Tryd.prog 74 #[v] u fun e u' => Below u.heap.size u u' ∧ ∃ sv, e = .returned (.agg #[.int .i64 0, sv]) ∧ ClR u p sv u' := by
  obtain ⟨ts, hts⟩ : ∃ ts, v = .agg #[.int .i64 0, ts] := by
    rcases h.2 with ⟨h1, _⟩ | ⟨b, c, i, h1, _⟩
    · exact ⟨_, h1⟩
    · exact ⟨_, h1⟩
  subst hts
  have R1 := RowA.new u 58 #[.int .i64 0, ts]
  have hs : (u.alloc (.cells #[.int .i64 0, ts] 58)).heap.size = u.heap.size + 1 := World.size_alloc ..
  have R2 := RowA.new (u.alloc (.cells #[.int .i64 0, ts] 58)) 58 #[.int .i64 0, .slice none 0 0]
  rw [hs] at R2
  have R1' := R1.alloc (.cells #[.int .i64 0, .slice none 0 0] 58)
  have B2 : Below u.heap.size u ((u.alloc (.cells #[.int .i64 0, ts] 58)).alloc (.cells #[.int .i64 0, .slice none 0 0] 58)) := ((Below.refl _ _).alloc (Nat.le_refl _) _).alloc (by omega) _
  have P2 := h.below B2
  clear R1 h
  go_enter Tryd.func74, Tryd.ntmps74
  go_upto_region 1 with fail
  obtain ⟨u2, hu2⟩ : ∃ u2, u2 = (u.alloc (.cells #[.int .i64 0, ts] 58)).alloc (.cells #[.int .i64 0, .slice none 0 0] 58) := ⟨_, rfl⟩
  rw [← hu2] at R2 R1' B2 P2
  rw [← hu2]
  clear hu2 hs
  have S2 : CpS u u.heap.size ts p u2 := ⟨R1', P2, B2, R2⟩
  refine wp_region_slotsH 6 (by decide) (by kernel_rfl) (by kernel_rfl) (fun _ _ => true) (CpS u u.heap.size ts p) (CpG u u.heap.size ts p) EbL (by kernel_rfl) (by kernel_rfl) (by kernel_rfl) (by kernel_rfl) ?_ (S2.below (bel_drew (Below.refl _ _))) [1] (by kernel_rfl) ?_ ?_ ?_
  · intro t dd v u u' _ _ h hE
    refine ⟨h.1, fun R hR => ?_⟩
    have hh := h.2 R hR
    unfold CpGP at hR
    split at hR
    · cases hR; exact hh.below hE
    · cases hR; exact hh.below hE
    · cases hR
  · intro u _
    refine ⟨⟨_, rfl, ?_⟩, trivial⟩
    exact ⟨fun _ h => Option.some.inj h, fun _ h => no_some h⟩
  · refine ⟨?_, ?_, ?_, ?_, ?_, ?_, trivial⟩
    · intro a u hS hr K hK
      obtain ⟨⟨vl0, e0, g0⟩, -⟩ := hr
      obtain rfl := g0.1 _ rfl
      clear g0
      rw [if_pos (want_none rfl)]
      unfold Oper.wp
      go_simp
      exact hK _ _ ⟨fun _ h => Option.some.inj h, fun _ h => no_some h⟩ hS (eby rfl (Below.refl _ _))
    · intro a u hS hr K hK
      obtain ⟨⟨vl0, e0, g0⟩, -⟩ := hr
      obtain rfl := g0.1 _ rfl
      clear g0
      rw [if_pos (want_none rfl)]
      have d0 := hS.box.at_ (k := 0) rfl
      unfold Oper.wp
      go_simp
      exact hK _ _ ⟨fun _ h => Option.some.inj h, fun _ h => no_some h⟩ hS (eby rfl (Below.refl _ _))
    · intro a u hS hr K hK
      obtain ⟨⟨vl0, e0, g0⟩, -⟩ := hr
      obtain rfl := g0.1 _ rfl
      clear g0
      rw [if_pos (want_none rfl)]
      unfold Oper.wp
      go_simp
      exact hK _ _ ⟨fun _ h => Option.some.inj h, fun _ h => no_some h⟩ hS (eby rfl (Below.refl _ _))
    · intro a u hS hr K hK
      obtain ⟨⟨vl0, e0, g0⟩, -⟩ := hr
      obtain rfl := g0.1 _ rfl
      clear g0
      rw [if_pos (want_none rfl)]
      have d1 := hS.box.at_ (k := 1) rfl
      unfold Oper.wp
      go_simp
      exact hK _ _ ⟨fun _ h => Option.some.inj h, fun _ h => no_some h⟩ hS (eby rfl (Below.refl _ _))
    · intro a u hS hr K hK
      obtain ⟨⟨vl0, e0, g0⟩, -⟩ := hr
      obtain rfl := g0.1 _ rfl
      clear g0
      rw [if_pos (want_none rfl)]
      unfold Oper.wp
      go_simp
      refine (clone_any _ p u hS.pl).mono ?_
      rintro e u1 ⟨hb, v1, rfl, hv1⟩
      exact hK _ _ ⟨fun _ h => no_some h, fun _ h => spec_ok h (hv1.less hS.bel.size)⟩ (hS.below hb) (eby rfl hb)
    · intro a u hS hr K hK
      obtain ⟨⟨vl0, e0, g0⟩, ⟨vl1, e1, g1⟩, -⟩ := hr
      obtain rfl := g0.1 _ rfl
      clear g0
      replace g1 := g1.2 _ rfl
      rw [if_pos (want_none rfl)]
      obtain ⟨A9, n9, c9, rfl⟩ := g1.form
      unfold Oper.wp
      go_simp
      exact hK _ _ ⟨fun _ h => no_some h, fun _ h => spec_ok h ⟨_, rfl, g1⟩⟩ hS (eby rfl (Below.refl _ _))
  intro a u4 hS4 hts hd hkn hf
  obtain ⟨v3, e3, g3⟩ := hf 0 _ 3 (by decide) rfl rfl (fun _ => rfl)
  obtain ⟨v4, e4, g4⟩ := hf 1 _ 4 (by decide) rfl rfl (fun _ => rfl)
  obtain ⟨v5, e5, g5⟩ := hf 2 _ 5 (by decide) rfl rfl (fun _ => rfl)
  obtain ⟨v6, e6, g6⟩ := hf 3 _ 6 (by decide) rfl rfl (fun _ => rfl)
  obtain ⟨v7, e7, g7⟩ := hf 4 _ 7 (by decide) rfl rfl (fun _ => rfl)
  obtain ⟨v8, e8, g8⟩ := hf 5 _ 8 (by decide) rfl rfl (fun _ => rfl)
  have hA := act_putsH [(3, v3), (4, v4), (5, v5), (6, v6), (7, v7), (8, v8)] hts hd hkn (by kernel_rfl) (by simp [e3, e4, e5, e6, e7, e8])
  clear hf hts hd hkn e3 e4 e5 e6 e7 e8
  obtain rfl := g3.1 _ rfl
  clear g3
  obtain rfl := g4.1 _ rfl
  clear g4
  obtain rfl := g5.1 _ rfl
  clear g5
  obtain rfl := g6.1 _ rfl
  clear g6
  replace g7 := g7.2 _ rfl
  replace g8 := g8.2 _ rfl
  subst hA
  simp only [List.foldl, List.setIfInBounds_toArray, List.set_cons_zero, List.set_cons_succ]
  simp only [List.drop_succ_cons, List.drop_zero]
  obtain ⟨sv, rfl, hcl⟩ := g8
  have hone : sv.oneCell' = true := by
    rcases hcl with ⟨h, _⟩ | ⟨_, h⟩
    · rw [h]; rfl
    · obtain ⟨A, c, h2⟩ := own_form h
      rw [h2]; rfl
  have Rr := hS4.res
  have HRF := hidd (Rr.row #[.int .i64 0, sv])
  have HFIN : Hid (Below u.heap.size u (u4.setRow (u.heap.size + 1) #[.int .i64 0, sv]) ∧ ClR u p sv (u4.setRow (u.heap.size + 1) #[.int .i64 0, sv])) := by
    refine ⟨bel_setRow hS4.bel _ _ (by omega), ?_⟩
    rcases hcl with h | ⟨h1, h2⟩
    · exact .inl h
    · exact .inr ⟨h1, own_setRow h2 (own_neR h2 Rr (by decide)) _⟩
  clear hS4 S2 hcl g7
  go_wp2_with (refine wpList_store_row rfl 58 (.tmp 2) (.tmp 8) rfl (u.heap.size + 1) #[.int .i64 0, sv] rfl rfl 58 #[.int .i64 0, .slice none 0 0] Rr (pl_info _ _) rfl (ones2 rfl hone) ?_)
  exact ret_places Tryd.results74 rfl HRF.out rfl ⟨HFIN.out.1, sv, rfl, HFIN.out.2⟩
end Go.Proofs.YtcgondjekpcpgaaDoor.Sy.Lg.Cp

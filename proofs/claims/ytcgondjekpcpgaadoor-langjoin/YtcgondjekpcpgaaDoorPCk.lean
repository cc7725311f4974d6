/- Places: copied. -/
import Derived.Test.YtcgondjekpcpgaaDoorPCg
import Derived.Lib.SliceRun
namespace Go.Proofs.YtcgondjekpcpgaaDoor.Sy.Lg.Cp
open Go.RowKit Go.Proofs.YtcgondjekpcpgaaDoor.Sy.Ap Go.Proofs.YtcgondjekpcpgaaDoor.Sy.Ap.Wk Go.Proofs.YtcgondjekpcpgaaDoor.Sy.Lg.Pt
set_option maxRecDepth 100000
set_option linter.unusedVariables false

/-- The words of places, copied. -/
def ClR (u : World) (p : Nat → Bool) (v : Value) (u' : World) : Prop := (v = .slice none 0 0 ∧ noneB p) ∨ ((∃ i, p i = true) ∧ u'.ownsRow u.heap.size 39 1 v 1 [.int .u64 (W p 0)])
theorem ClR.below {u : World} {p : Nat → Bool} {v : Value} {u1 u2 : World} (h : ClR u p v u1) (hb : Below u1.heap.size u1 u2) : ClR u p v u2 := by
  rcases h with h | ⟨h1, h2⟩
  · exact .inl h
  · exact .inr ⟨h1, own_below h2 hb (Nat.le_refl _)⟩
theorem ClR.form {u : World} {p : Nat → Bool} {v : Value} {u1 : World} (h : ClR u p v u1) : ∃ A n c, v = .slice A n c := by
  rcases h with ⟨h, _⟩ | ⟨_, h⟩
  · exact ⟨_, _, _, h⟩
  · obtain ⟨A, c, h2⟩ := own_form h
    exact ⟨_, _, _, h2⟩
set_option maxHeartbeats 1000000 in
theorem clone_any (ts : Value) (p : Nat → Bool) (u : World) (h : Pl u (.agg #[.int .i64 0, ts]) p) :
    Calls Tryd.prog 84 #[ts] u fun e u' => Below u.heap.size u u' ∧ ∃ v, e = .returned v ∧ ClR u p v u' := by
  obtain ⟨j0, hj0i, hy0, hy1, hy2⟩ := info_parts u64_info
  have q22 : ∀ (w : World) (a : Option Addr) (n c n' c' : Nat), (binOp .eql 56 (.slice a n c) (.slice none n' c')).run Tryd.prog w = .ok (.bool a.isNone) w := fun w a n c n' c' => Lib.run_eql_slice_nil w _ _ a n c n' c' Tryd.underlying56
  rcases h.2 with ⟨h1, hnone⟩ | ⟨g2, c2, i2, h1, hc2, hg2, hcell, hi2⟩
  · have e1 : ts = .slice none 0 0 := by
      injection h1 with h1
      injection h1 with h1
      injection h1 with _ h1
      injection h1 with h1 _
    subst e1
    go_enter Tryd.func84, Tryd.ntmps84
    go_wp2
    go_ret
    exact ⟨Below.refl _ _, _, rfl, .inl ⟨rfl, hnone⟩⟩
  · have e1 : ts = .slice (some ⟨g2, 0, none⟩) 1 c2 := by
      injection h1 with h1
      injection h1 with h1
      injection h1 with _ h1
      injection h1 with h1 _
    subst e1
    have hown := World.ownsRow_lit (e := 39) (size := 1) u #[] 0 (Nat.le_refl _) (by unfold maxLen; omega) rfl
    have hbA : Below u.heap.size u (u.alloc (.cells #[] 39)) := (Below.refl _ _).alloc (Nat.le_refl _) _
    have hH : (u.alloc (.cells #[] 39)).heap.size = u.heap.size + 1 := World.size_alloc ..
    have hbase : u.heap.size ≤ (u.alloc (.cells #[] 39)).heap.size := by rw [hH]; omega
    have hnews : ∀ j v, ([.int .u64 (W p 0)] : List Value)[j]? = some v → (u.alloc (.cells #[] 39)).cell? ((⟨g2, 0, none⟩ : Addr).add j) = some v := fun j v hv => by
      cases j with
      | zero =>
        cases hv
        rw [addr_addO, hbA.cell (by exact hg2)]
        exact hcell
      | succ j => cases hv
    have HI : Hid (∃ i, p i = true) := ⟨i2, hi2⟩
    clear hcell hi2 h h1
    go_enter Tryd.func84, Tryd.ntmps84
    go_wp2_with (at_builtin; refine wpList_append_lies _ rfl _ _ _ rfl u.heap.size 39 j0 (.int .u64 0) 1 8 Tryd.underlying56 hj0i hy0 hy1 hy2 rfl (by omega) _ 0 [] rfl hown ⟨g2, 0, none⟩ 1 c2 [.int .u64 (W p 0)] rfl rfl hnews (by simp [Value.oneCell']) (by omega) (by simp only [maxLen]; omega) (by omega) hbase (u.heap.size + 1) hH ?_; intro g8 cap8 w8 hown8 hgrow hat hlt8; refine Hid.out ?_)
    have HFIN : Hid (Below u.heap.size u w8 ∧ w8.ownsRow u.heap.size 39 1 (.slice (some ⟨g8, 0, none⟩) 1 cap8) 1 [.int .u64 (W p 0)]) := ⟨bel_row hbA hbase hgrow (fun k hk => (hown.lt k hk).1), hown8⟩
    clear hown hbA hH hbase hnews hown8 hgrow hat hlt8
    refine Lib.hid ?_
    go_wp2
    go_ret
    exact ⟨HFIN.out.1, _, rfl, .inr ⟨HI.out, HFIN.out.2⟩⟩
structure CpS (w : World) (q : Nat) (ts : Value) (p : Nat → Bool) (u : World) : Prop where
  box : RowA u q 58 #[.int .i64 0, ts]
  pl : Pl u (.agg #[.int .i64 0, ts]) p
  bel : Below w.heap.size w u
  res : RowA u (q + 1) 58 #[.int .i64 0, .slice none 0 0]
theorem CpS.below {w : World} {q : Nat} {ts : Value} {p : Nat → Bool} {u u' : World} (h : CpS w q ts p u) (hb : Below u.heap.size u u') : CpS w q ts p u' := ⟨h.box.below hb h.box.lt, h.pl.below hb, h.bel.trans (hb.mono h.bel.size), h.res.below hb h.res.lt⟩
def CpA (w : World) (p : Nat → Bool) (v : Value) (u : World) : Prop := ∃ sv, v = .agg #[.int .i64 0, sv] ∧ ClR w p sv u
theorem CpA.below {w : World} {p : Nat → Bool} {v : Value} {u1 u2 : World} (h : CpA w p v u1) (hb : Below u1.heap.size u1 u2) : CpA w p v u2 := by
  obtain ⟨sv, h1, h2⟩ := h
  exact ⟨sv, h1, h2.below hb⟩
theorem ClR.less {w u : World} {p : Nat → Bool} {v : Value} {u1 : World} (h : ClR u p v u1) (hs : w.heap.size ≤ u.heap.size) : ClR w p v u1 := by
  rcases h with h | ⟨h1, h2⟩
  · exact .inl h
  · exact .inr ⟨h1, own_less h2 hs⟩
theorem eby {d : Option Nat} {u u' : World} (_ : true = true) (h : Below u.heap.size u u') : EbL d u u' := h
set_option linter.unusedVariables false in
def CpGV (w : World) (q : Nat) (ts : Value) (p : Nat → Bool) (t : Nat) : Option Value :=
  match t with
  | 1 => some (.pointer (some ⟨q, 0, none⟩))
  | 3 => some (.pointer (some ⟨q, 0, none⟩))
  | 4 => some (.int .i64 0)
  | 5 => some (.pointer (some ⟨q, 1, none⟩))
  | 6 => some (ts)
  | _ => none
set_option linter.unusedVariables false in
def CpGP (w : World) (q : Nat) (ts : Value) (p : Nat → Bool) (t : Nat) : Option (Value → World → Prop) :=
  match t with
  | 7 => some (ClR w p)
  | 8 => some (CpA w p)
  | _ => none
def CpG (w : World) (q : Nat) (ts : Value) (p : Nat → Bool) (t : Nat) (v : Value) (u : World) : Prop := (∀ z9, CpGV w q ts p t = some z9 → v = z9) ∧ ∀ R, CpGP w q ts p t = some R → R v u
theorem own_setRow {u : World} {base : Nat} {e : TypeId} {sz n b : Nat} {z : Value} {xs : List Value} (h : u.ownsRow base e sz z n xs) (hb : z.ownBlock ≠ some b) (cs : Array Value) : (u.setRow b cs).ownsRow base e sz z n xs := by
  obtain ⟨h1, h2⟩ := h
  refine ⟨h1, ?_⟩
  rcases h2 with h2 | ⟨g, cap, cur, hv, hg, hh, r⟩
  · exact .inl h2
  · exact .inr ⟨g, cap, cur, hv, hg, (setRow_other u b g cs (fun q => hb (by rw [hv, ← q]; rfl))).trans hh, r⟩
set_option maxHeartbeats 1000000 in
theorem copied_any (v : Value) (p : Nat → Bool) (u : World) (h : Pl u v p) : Calls Tryd.prog 74 #[v] u fun e u' => Below u.heap.size u u' ∧ ∃ sv, e = .returned (.agg #[.int .i64 0, sv]) ∧ ClR u p sv u' := by
  obtain ⟨ts, hts⟩ : ∃ ts, v = .agg #[.int .i64 0, ts] := by
    rcases h.2 with ⟨h1, _⟩ | ⟨b, c, i, h1, _⟩
    · exact ⟨_, h1⟩
    · exact ⟨_, h1⟩
  subst hts
  have R1 := RowA.new u 58 #[.int .i64 0, ts]
  have hs : (u.alloc (.cells #[.int .i64 0, ts] 58)).heap.size = u.heap.size + 1 := World.size_alloc ..
  have R2 := RowA.new (u.alloc (.cells #[.int .i64 0, ts] 58)) 58 #[.int .i64 0, .slice none 0 0]
  rw [hs] at R2
  have R1' := R1.alloc (.cells #[.int .i64 0, .slice none 0 0] 58)
  have B2 : Below u.heap.size u ((u.alloc (.cells #[.int .i64 0, ts] 58)).alloc (.cells #[.int .i64 0, .slice none 0 0] 58)) := ((Below.refl _ _).alloc (Nat.le_refl _) _).alloc (by omega) _
  have P2 := h.below B2
  clear R1 h
  go_enter Tryd.func74, Tryd.ntmps74
  go_upto_region 1 with fail
  obtain ⟨u2, hu2⟩ : ∃ u2, u2 = (u.alloc (.cells #[.int .i64 0, ts] 58)).alloc (.cells #[.int .i64 0, .slice none 0 0] 58) := ⟨_, rfl⟩
  rw [← hu2] at R2 R1' B2 P2
  rw [← hu2]
  clear hu2 hs
  have S2 : CpS u u.heap.size ts p u2 := ⟨R1', P2, B2, R2⟩
  refine wp_region_slotsH 6 (by decide) (by kernel_rfl) (by kernel_rfl) (fun _ _ => true) (CpS u u.heap.size ts p) (CpG u u.heap.size ts p) EbL (by kernel_rfl) (by kernel_rfl) (by kernel_rfl) (by kernel_rfl) ?_ (S2.below (bel_drew (Below.refl _ _))) [1] (by kernel_rfl) ?_ ?_ ?_
  · intro t dd v u u' _ _ h hE
    refine ⟨h.1, fun R hR => ?_⟩
    have hh := h.2 R hR
    unfold CpGP at hR
    split at hR
    · cases hR; exact hh.below hE
    · cases hR; exact hh.below hE
    · cases hR
  · intro u _
    refine ⟨⟨_, rfl, ?_⟩, trivial⟩
    exact ⟨fun _ h => Option.some.inj h, fun _ h => no_some h⟩
  · refine ⟨?_, ?_, ?_, ?_, ?_, ?_, trivial⟩
    · intro a u hS hr K hK
      obtain ⟨⟨vl0, e0, g0⟩, -⟩ := hr
      obtain rfl := g0.1 _ rfl
      clear g0
      rw [if_pos (want_none rfl)]
      unfold Oper.wp
      go_simp
      exact hK _ _ ⟨fun _ h => Option.some.inj h, fun _ h => no_some h⟩ hS (eby rfl (Below.refl _ _))
    · intro a u hS hr K hK
      obtain ⟨⟨vl0, e0, g0⟩, -⟩ := hr
      obtain rfl := g0.1 _ rfl
      clear g0
      rw [if_pos (want_none rfl)]
      have d0 := hS.box.at_ (k := 0) rfl
      unfold Oper.wp
      go_simp
      exact hK _ _ ⟨fun _ h => Option.some.inj h, fun _ h => no_some h⟩ hS (eby rfl (Below.refl _ _))
    · intro a u hS hr K hK
      obtain ⟨⟨vl0, e0, g0⟩, -⟩ := hr
      obtain rfl := g0.1 _ rfl
      clear g0
      rw [if_pos (want_none rfl)]
      unfold Oper.wp
      go_simp
      exact hK _ _ ⟨fun _ h => Option.some.inj h, fun _ h => no_some h⟩ hS (eby rfl (Below.refl _ _))
    · intro a u hS hr K hK
      obtain ⟨⟨vl0, e0, g0⟩, -⟩ := hr
      obtain rfl := g0.1 _ rfl
      clear g0
      rw [if_pos (want_none rfl)]
      have d1 := hS.box.at_ (k := 1) rfl
      unfold Oper.wp
      go_simp
      exact hK _ _ ⟨fun _ h => Option.some.inj h, fun _ h => no_some h⟩ hS (eby rfl (Below.refl _ _))
    · intro a u hS hr K hK
      obtain ⟨⟨vl0, e0, g0⟩, -⟩ := hr
      obtain rfl := g0.1 _ rfl
      clear g0
      rw [if_pos (want_none rfl)]
      unfold Oper.wp
      go_simp
      refine (clone_any _ p u hS.pl).mono ?_
      rintro e u1 ⟨hb, v1, rfl, hv1⟩
      exact hK _ _ ⟨fun _ h => no_some h, fun _ h => spec_ok h (hv1.less hS.bel.size)⟩ (hS.below hb) (eby rfl hb)
    · intro a u hS hr K hK
      obtain ⟨⟨vl0, e0, g0⟩, ⟨vl1, e1, g1⟩, -⟩ := hr
      obtain rfl := g0.1 _ rfl
      clear g0
      replace g1 := g1.2 _ rfl
      rw [if_pos (want_none rfl)]
      obtain ⟨A9, n9, c9, rfl⟩ := g1.form
      unfold Oper.wp
      go_simp
      exact hK _ _ ⟨fun _ h => no_some h, fun _ h => spec_ok h ⟨_, rfl, g1⟩⟩ hS (eby rfl (Below.refl _ _))
  intro a u4 hS4 hts hd hkn hf
  obtain ⟨v3, e3, g3⟩ := hf 0 _ 3 (by decide) rfl rfl (fun _ => rfl)
  obtain ⟨v4, e4, g4⟩ := hf 1 _ 4 (by decide) rfl rfl (fun _ => rfl)
  obtain ⟨v5, e5, g5⟩ := hf 2 _ 5 (by decide) rfl rfl (fun _ => rfl)
  obtain ⟨v6, e6, g6⟩ := hf 3 _ 6 (by decide) rfl rfl (fun _ => rfl)
  obtain ⟨v7, e7, g7⟩ := hf 4 _ 7 (by decide) rfl rfl (fun _ => rfl)
  obtain ⟨v8, e8, g8⟩ := hf 5 _ 8 (by decide) rfl rfl (fun _ => rfl)
  have hA := act_putsH [(3, v3), (4, v4), (5, v5), (6, v6), (7, v7), (8, v8)] hts hd hkn (by kernel_rfl) (by simp [e3, e4, e5, e6, e7, e8])
  clear hf hts hd hkn e3 e4 e5 e6 e7 e8
  obtain rfl := g3.1 _ rfl
  clear g3
  obtain rfl := g4.1 _ rfl
  clear g4
  obtain rfl := g5.1 _ rfl
  clear g5
  obtain rfl := g6.1 _ rfl
  clear g6
  replace g7 := g7.2 _ rfl
  replace g8 := g8.2 _ rfl
  subst hA
  simp only [List.foldl, List.setIfInBounds_toArray, List.set_cons_zero, List.set_cons_succ]
  simp only [List.drop_succ_cons, List.drop_zero]
  obtain ⟨sv, rfl, hcl⟩ := g8
  have hone : sv.oneCell' = true := by
    rcases hcl with ⟨h, _⟩ | ⟨_, h⟩
    · rw [h]; rfl
    · obtain ⟨A, c, h2⟩ := own_form h
      rw [h2]; rfl
  have Rr := hS4.res
  have HRF := hidd (Rr.row #[.int .i64 0, sv])
  have HFIN : Hid (Below u.heap.size u (u4.setRow (u.heap.size + 1) #[.int .i64 0, sv]) ∧ ClR u p sv (u4.setRow (u.heap.size + 1) #[.int .i64 0, sv])) := by
    refine ⟨bel_setRow hS4.bel _ _ (by omega), ?_⟩
    rcases hcl with h | ⟨h1, h2⟩
    · exact .inl h
    · exact .inr ⟨h1, own_setRow h2 (own_neR h2 Rr (by decide)) _⟩
  clear hS4 S2 hcl g7
  go_wp2_with (refine wpList_store_row rfl 58 (.tmp 2) (.tmp 8) rfl (u.heap.size + 1) #[.int .i64 0, sv] rfl rfl 58 #[.int .i64 0, .slice none 0 0] Rr (pl_info _ _) rfl (ones2 rfl hone) ?_)
  exact ret_places Tryd.results74 rfl HRF.out rfl ⟨HFIN.out.1, sv, rfl, HFIN.out.2⟩
end Go.Proofs.YtcgondjekpcpgaaDoor.Sy.Lg.Cp

namespace Go.Proofs.YtcgondjekpcpgaaDoor.Sy.Lg
open Go.RowKit Go.Proofs.YtcgondjekpcpgaaDoor.Sy.Ap Go.Proofs.YtcgondjekpcpgaaDoor.Sy.Ap.Wk
set_option maxRecDepth 100000
set_option linter.unusedVariables false

theorem agg2_inj {x y : Value} (h : Value.agg #[.int .i64 0, x] = Value.agg #[.int .i64 0, y]) : x = y := by
  injection h with h
  injection h with h
  injection h with _ h
  injection h with h _
def SamR (p r : Nat → Bool) (w : World) (e : Ending) (w' : World) : Prop := ∃ z, e = .returned (.bool z) ∧ (z = true ↔ ∀ i, p i = r i) ∧ Below w.heap.size w w'
theorem W_all {p r : Nat → Bool} (hp : ∀ i, p i = true → i < 64) (hr : ∀ i, r i = true → i < 64) (h : W p 0 = W r 0) : ∀ i, p i = r i := by
  intro i
  rcases Nat.lt_or_ge i 64 with q | q
  · have := W_inj h i q
    simpa using this
  · have h1 : p i = false := by
      cases e : p i with
      | false => rfl
      | true => have := hp i e; omega
    have h2 : r i = false := by
      cases e : r i with
      | false => rfl
      | true => have := hr i e; omega
    rw [h1, h2]
set_option maxHeartbeats 1000000 in
theorem equal_any (ts ss : Value) (p r : Nat → Bool) (u : World) (hp : Pl u (.agg #[.int .i64 0, ts]) p) (hr : Pl u (.agg #[.int .i64 0, ss]) r) :
    Calls Tryd.prog 86 #[ts, ss] u fun e u' => SamR p r u e u' := by
  rcases hp.2 with ⟨h1, hn1⟩ | ⟨g1, c1, i1, h1, hc1, hg1, hw1, hi1⟩
  · have e1 := agg2_inj h1
    subst e1
    rcases hr.2 with ⟨h2, hn2⟩ | ⟨g2, c2, i2, h2, hc2, hg2, hw2, hi2⟩
    · have e2 := agg2_inj h2
      subst e2
      go_enter Tryd.func86, Tryd.ntmps86
      go_wp2
      go_loopw [13] (fun s13 wr => s13 = .int .i64 0 ∧ u = wr) (fun _ _ => 0)
      case atStart => exact ⟨rfl, rfl⟩
      case round =>
        obtain ⟨rfl, rfl⟩ := hrel
        go_wp2
        go_ret
        exact ⟨true, rfl, ⟨fun _ i => by rw [hn1 i, hn2 i], fun _ => rfl⟩, Below.refl _ _⟩
    · have e2 := agg2_inj h2
      subst e2
      go_enter Tryd.func86, Tryd.ntmps86
      go_wp2
      go_ret
      exact ⟨false, rfl, ⟨(fun q => by cases q), fun q => by have := q i2; rw [hn1 i2, hi2] at this; cases this⟩, Below.refl _ _⟩
  · have e1 := agg2_inj h1
    subst e1
    rcases hr.2 with ⟨h2, hn2⟩ | ⟨g2, c2, i2, h2, hc2, hg2, hw2, hi2⟩
    · have e2 := agg2_inj h2
      subst e2
      go_enter Tryd.func86, Tryd.ntmps86
      go_wp2
      go_ret
      exact ⟨false, rfl, ⟨(fun q => by cases q), fun q => by have := q i1; rw [hn2 i1, hi1] at this; cases this⟩, Below.refl _ _⟩
    · have e2 := agg2_inj h2
      subst e2
      have HP := hidd hp.1
      have HR := hidd hr.1
      clear hp hr h1 h2
      go_enter Tryd.func86, Tryd.ntmps86
      go_wp2
      go_loopw [13] (fun s13 wr => ∃ m, wr = u.drewN m ∧ (s13 = .int .i64 0 ∨ (s13 = .int .i64 1 ∧ W p 0 = W r 0))) (fun s13 _ => 1 - (intOf s13).toNat)
      case atStart => exact ⟨0, rfl, .inl rfl⟩
      case round =>
        obtain ⟨m, rfl, h | ⟨h, he⟩⟩ := hrel
        · subst h
          have y1 : (u.drewN m).cell? ⟨g1, 0, none⟩ = some (.int .u64 (W p 0)) := hw1
          have y2 : (u.drewN m).cell? ⟨g2, 0, none⟩ = some (.int .u64 (W r 0)) := hw2
          by_cases he : W p 0 = W r 0
          · have hb1 : (W p 0 != W r 0) = false := by simp [he]
            have HE := hidd he
            clear he
            go_wp2
            go_quiet (fail)
            go_wp2
            refine ⟨⟨m + nq, ?_, .inr ⟨rfl, HE.out⟩⟩, by simp [intOf]⟩
            simp [World.drewN]
          · have hb1 : (W p 0 != W r 0) = true := by simp [he]
            have HE := hidd he
            clear he
            go_wp2
            go_quiet (fail)
            go_wp2
            go_ret
            refine ⟨false, rfl, ⟨(fun q => by cases q), fun q => absurd (W_congr fun j _ => q _) HE.out⟩, bel_drewN (bel_drewN (Below.refl _ _) m) nq⟩
        · subst h
          have HE := hidd he
          clear he
          go_wp2
          go_ret
          exact ⟨true, rfl, ⟨fun _ => W_all HP.out HR.out HE.out, fun _ => rfl⟩, bel_drewN (Below.refl _ _) m⟩
theorem pl_form {u : World} {v : Value} {p : Nat → Bool} (h : Pl u v p) : ∃ A n c, v = .agg #[.int .i64 0, .slice A n c] := by
  rcases h.2 with ⟨h1, _⟩ | ⟨b, c, i, h1, _⟩
  · exact ⟨_, _, _, h1⟩
  · exact ⟨_, _, _, h1⟩
set_option maxHeartbeats 1000000 in
theorem same_any (v v' : Value) (p r : Nat → Bool) (u : World) (hp : Pl u v p) (hr : Pl u v' r) : Calls Tryd.prog 76 #[v, v'] u fun e u' => SamR p r u e u' := by
  obtain ⟨A, n, c, rfl⟩ := pl_form hp
  obtain ⟨A', n', c', rfl⟩ := pl_form hr
  have R1 := RowA.new u 58 #[.int .i64 0, .slice A n c]
  have hs : (u.alloc (.cells #[.int .i64 0, .slice A n c] 58)).heap.size = u.heap.size + 1 := World.size_alloc ..
  have R2 := RowA.new (u.alloc (.cells #[.int .i64 0, .slice A n c] 58)) 58 #[.int .i64 0, .slice A' n' c']
  rw [hs] at R2
  have R1' := R1.alloc (.cells #[.int .i64 0, .slice A' n' c'] 58)
  have B2 : Below u.heap.size u ((u.alloc (.cells #[.int .i64 0, .slice A n c] 58)).alloc (.cells #[.int .i64 0, .slice A' n' c'] 58)) := ((Below.refl _ _).alloc (Nat.le_refl _) _).alloc (by omega) _
  have he := equal_any _ _ p r _ (hp.below B2) (hr.below B2)
  have HB2 := hidd B2
  have x0 : ((u.alloc (.cells #[.int .i64 0, .slice A n c] 58)).alloc (.cells #[.int .i64 0, .slice A' n' c'] 58)).cell? ⟨u.heap.size, 0, none⟩ = some (.int .i64 0) := R1'.at_ rfl
  have x1 : ((u.alloc (.cells #[.int .i64 0, .slice A n c] 58)).alloc (.cells #[.int .i64 0, .slice A' n' c'] 58)).cell? ⟨u.heap.size, 1, none⟩ = some (.slice A n c) := R1'.at_ rfl
  have y0 : ((u.alloc (.cells #[.int .i64 0, .slice A n c] 58)).alloc (.cells #[.int .i64 0, .slice A' n' c'] 58)).cell? ⟨u.heap.size + 1, 0, none⟩ = some (.int .i64 0) := R2.at_ rfl
  have y1 : ((u.alloc (.cells #[.int .i64 0, .slice A n c] 58)).alloc (.cells #[.int .i64 0, .slice A' n' c'] 58)).cell? ⟨u.heap.size + 1, 1, none⟩ = some (.slice A' n' c') := R2.at_ rfl
  clear R1 R2 R1' B2 hs hp hr
  go_enter Tryd.func76, Tryd.ntmps76
  go_wp2_with fail
  refine he.mono ?_
  rintro e u3 ⟨z, rfl, hz, b3⟩
  have HFIN : Hid (Below u.heap.size u u3) := HB2.out.trans (b3.mono HB2.out.size)
  have HZ := hidd hz
  clear he x0 x1 y0 y1 b3 hz
  go_wp2
  go_ret
  exact ⟨z, rfl, HZ.out, HFIN.out⟩
end Go.Proofs.YtcgondjekpcpgaaDoor.Sy.Lg

namespace Go.Proofs.YtcgondjekpcpgaaDoor.Sy.Lg
open Go.RowKit Go.Proofs.YtcgondjekpcpgaaDoor.Sy.Ap Go.Proofs.YtcgondjekpcpgaaDoor.Sy.Ap.Wk
set_option maxRecDepth 100000
set_option linter.unusedVariables false

/-- As Pl, but the word may be 0. -/
def Pz (w : World) (v : Value) (p : Nat → Bool) : Prop :=
  (∀ i, p i = true → i < 64) ∧ ((v = .agg #[.int .i64 0, .slice none 0 0] ∧ ∀ i, p i = false) ∨
    ∃ b c, v = .agg #[.int .i64 0, .slice (some ⟨b, 0, none⟩) 1 c] ∧ 1 ≤ c ∧ b < w.heap.size ∧ w.cell? ⟨b, 0, none⟩ = some (.int .u64 (W p 0)))
def TrmR (w : World) (v : Value) (p : Nat → Bool) (e : Ending) (w' : World) : Prop := Below w.heap.size w w' ∧ ∃ v', e = .returned v' ∧ Pl w' v' p ∧ (v' = v ∨ plB v' = none)
set_option maxHeartbeats 1000000 in
theorem trimmed_any (v : Value) (p : Nat → Bool) (u : World) (h : Pz u v p) : Calls Tryd.prog 85 #[v] u fun e u' => TrmR u v p e u' := by
  rcases h.2 with ⟨rfl, hno⟩ | ⟨b, c, rfl, hc, hb, hcell⟩
  · have HN := hidd hno
    have HZ := hidd h.1
    clear hno h
    have R1 := RowA.new u 58 #[.int .i64 0, .slice none 0 0]
    have hs : (u.alloc (.cells #[.int .i64 0, .slice none 0 0] 58)).heap.size = u.heap.size + 1 := World.size_alloc ..
    have R2 := RowA.new (u.alloc (.cells #[.int .i64 0, .slice none 0 0] 58)) 58 #[.int .i64 0, .slice none 0 0]
    rw [hs] at R2
    have R1' := R1.alloc (.cells #[.int .i64 0, .slice none 0 0] 58)
    have B2 : Below u.heap.size u ((u.alloc (.cells #[.int .i64 0, .slice none 0 0] 58)).alloc (.cells #[.int .i64 0, .slice none 0 0] 58)) := ((Below.refl _ _).alloc (Nat.le_refl _) _).alloc (by omega) _
    clear R1 hs
    go_enter Tryd.func85, Tryd.ntmps85
    go_upto_region 1 with fail
    generalize (u.alloc (.cells #[.int .i64 0, .slice none 0 0] 58)).alloc (.cells #[.int .i64 0, .slice none 0 0] 58) = u2 at *
    have x0 : u2.cell? ⟨u.heap.size, 0, none⟩ = some (.int .i64 0) := R1'.at_ rfl
    have x1 : u2.cell? ⟨u.heap.size, 1, none⟩ = some (.slice none 0 0) := R1'.at_ rfl
    go_wp2
    go_quiet (fail)
    have R3 : RowA (u2.drewN nq) (u.heap.size + 1) 58 #[.int .i64 0, .slice none 0 0] := R2.drewN nq
    have B3 : Below u.heap.size u (u2.drewN nq) := bel_drewN B2 nq
    clear x0 x1 R1' R2 B2
    generalize u2.drewN nq = u3 at *
    have HRF := hidd (R3.row #[.int .i64 0, .slice none 0 0])
    have HB3 := hidd (bel_setRow B3 (u.heap.size + 1) #[.int .i64 0, .slice none 0 0] (by omega))
    go_wp2
    go_loopw [3, 4] (fun s3 s4 wr => s3 = .slice none 0 0 ∧ s4 = .int .i64 0 ∧ u3 = wr) (fun _ _ _ => 0)
    case atStart => exact ⟨rfl, rfl, rfl⟩
    case round =>
      obtain ⟨rfl, rfl, rfl⟩ := hrel
      go_wp2
      go_loopw [3] (fun s3 wr => s3 = .slice none 0 0 ∧ u3 = wr) (fun _ _ => 0)
      case atStart => exact ⟨rfl, rfl⟩
      case round =>
        obtain ⟨rfl, rfl⟩ := hrel
        go_wp2_with (refine wpList_store_row rfl 58 (.tmp 2) (.tmp 42) rfl (u.heap.size + 1) #[.int .i64 0, .slice none 0 0] rfl rfl 58 #[.int .i64 0, .slice none 0 0] R3 (pl_info _ _) rfl (ones2 rfl rfl) ?_)
        exact ret_places Tryd.results85 rfl HRF.out rfl ⟨HB3.out, _, rfl, ⟨HZ.out, .inl ⟨rfl, HN.out⟩⟩, .inl rfl⟩
  · by_cases hz : W p 0 = 0
    · have HNO : Hid (∀ i, p i = false) := fun i => by
        cases e : p i with
        | false => rfl
        | true => exact absurd hz (W_ne (h.1 i e) e)
      have HZ := hidd h.1
      rw [hz] at hcell
      clear h hz
      have R1 := RowA.new u 58 #[.int .i64 0, .slice (some ⟨b, 0, none⟩) 1 c]
      have hs : (u.alloc (.cells #[.int .i64 0, .slice (some ⟨b, 0, none⟩) 1 c] 58)).heap.size = u.heap.size + 1 := World.size_alloc ..
      have R2 := RowA.new (u.alloc (.cells #[.int .i64 0, .slice (some ⟨b, 0, none⟩) 1 c] 58)) 58 #[.int .i64 0, .slice none 0 0]
      rw [hs] at R2
      have R1' := R1.alloc (.cells #[.int .i64 0, .slice none 0 0] 58)
      have B2 : Below u.heap.size u ((u.alloc (.cells #[.int .i64 0, .slice (some ⟨b, 0, none⟩) 1 c] 58)).alloc (.cells #[.int .i64 0, .slice none 0 0] 58)) := ((Below.refl _ _).alloc (Nat.le_refl _) _).alloc (by omega) _
      clear R1 hs
      go_enter Tryd.func85, Tryd.ntmps85
      go_upto_region 1 with fail
      generalize (u.alloc (.cells #[.int .i64 0, .slice (some ⟨b, 0, none⟩) 1 c] 58)).alloc (.cells #[.int .i64 0, .slice none 0 0] 58) = u2 at *
      have x0 : u2.cell? ⟨u.heap.size, 0, none⟩ = some (.int .i64 0) := R1'.at_ rfl
      have x1 : u2.cell? ⟨u.heap.size, 1, none⟩ = some (.slice (some ⟨b, 0, none⟩) 1 c) := R1'.at_ rfl
      go_wp2
      go_quiet (fail)
      have R3 : RowA (u2.drewN nq) (u.heap.size + 1) 58 #[.int .i64 0, .slice none 0 0] := R2.drewN nq
      have B3 : Below u.heap.size u (u2.drewN nq) := bel_drewN B2 nq
      clear x0 x1 R1' R2 B2
      generalize u2.drewN nq = u3 at *
      have HRF := hidd (R3.row #[.int .i64 0, .slice none 0 0])
      have HB3 := hidd (bel_setRow B3 (u.heap.size + 1) #[.int .i64 0, .slice none 0 0] (by omega))
      have hc3 : u3.cell? ⟨b, 0, none⟩ = some (.int .u64 0) := by rw [B3.cell (by exact hb)]; exact hcell
      have hci : (1 : Int) ≤ (c : Int) := by omega
      go_wp2
      go_loopw [3, 4] (fun s3 s4 wr => u3 = wr ∧ ((s3 = .slice (some ⟨b, 0, none⟩) 1 c ∧ s4 = .int .i64 0) ∨ ∃ A c', s3 = .slice A 0 c' ∧ s4 = .int .i64 1)) (fun _ s4 _ => 1 - (intOf s4).toNat)
      case atStart => exact ⟨rfl, .inl ⟨rfl, rfl⟩⟩
      case round =>
        obtain ⟨rfl, ⟨rfl, rfl⟩ | ⟨A, c', rfl, rfl⟩⟩ := hrel
        · go_wp2
          exact ⟨⟨trivial, .inr ⟨_, _, rfl, rfl⟩⟩, by simp [intOf]⟩
        · go_wp2
          go_loopw [3] (fun s3 wr => s3 = .slice A 0 c' ∧ u3 = wr) (fun _ _ => 0)
          case atStart => exact ⟨rfl, rfl⟩
          case round =>
            obtain ⟨rfl, rfl⟩ := hrel
            go_wp2_with (refine wpList_store_row rfl 58 (.tmp 2) (.tmp 42) rfl (u.heap.size + 1) #[.int .i64 0, .slice none 0 0] rfl rfl 58 #[.int .i64 0, .slice none 0 0] R3 (pl_info _ _) rfl (ones2 rfl rfl) ?_)
            exact ret_places Tryd.results85 rfl HRF.out rfl ⟨HB3.out, _, rfl, ⟨HZ.out, .inl ⟨rfl, HNO.out⟩⟩, .inr rfl⟩
    · obtain ⟨k, hF⟩ := fst_some hz
      have HZ := hidd h.1
      have HK := hidd hF.2.1
      have hzb : (W p 0 == 0) = false := by simp [hz]
      have hzd : decide (W p 0 = 0) = false := by simp [hz]
      clear h hF
      have R1 := RowA.new u 58 #[.int .i64 0, .slice (some ⟨b, 0, none⟩) 1 c]
      have hs : (u.alloc (.cells #[.int .i64 0, .slice (some ⟨b, 0, none⟩) 1 c] 58)).heap.size = u.heap.size + 1 := World.size_alloc ..
      have R2 := RowA.new (u.alloc (.cells #[.int .i64 0, .slice (some ⟨b, 0, none⟩) 1 c] 58)) 58 #[.int .i64 0, .slice none 0 0]
      rw [hs] at R2
      have R1' := R1.alloc (.cells #[.int .i64 0, .slice none 0 0] 58)
      have B2 : Below u.heap.size u ((u.alloc (.cells #[.int .i64 0, .slice (some ⟨b, 0, none⟩) 1 c] 58)).alloc (.cells #[.int .i64 0, .slice none 0 0] 58)) := ((Below.refl _ _).alloc (Nat.le_refl _) _).alloc (by omega) _
      clear R1 hs
      go_enter Tryd.func85, Tryd.ntmps85
      go_upto_region 1 with fail
      generalize (u.alloc (.cells #[.int .i64 0, .slice (some ⟨b, 0, none⟩) 1 c] 58)).alloc (.cells #[.int .i64 0, .slice none 0 0] 58) = u2 at *
      have x0 : u2.cell? ⟨u.heap.size, 0, none⟩ = some (.int .i64 0) := R1'.at_ rfl
      have x1 : u2.cell? ⟨u.heap.size, 1, none⟩ = some (.slice (some ⟨b, 0, none⟩) 1 c) := R1'.at_ rfl
      go_wp2
      go_quiet (fail)
      have R3 : RowA (u2.drewN nq) (u.heap.size + 1) 58 #[.int .i64 0, .slice none 0 0] := R2.drewN nq
      have B3 : Below u.heap.size u (u2.drewN nq) := bel_drewN B2 nq
      clear x0 x1 R1' R2 B2
      generalize u2.drewN nq = u3 at *
      have HRF := hidd (R3.row #[.int .i64 0, .slice (some ⟨b, 0, none⟩) 1 c])
      have HB3 := hidd (bel_setRow B3 (u.heap.size + 1) #[.int .i64 0, .slice (some ⟨b, 0, none⟩) 1 c] (by omega))
      have hc3 : u3.cell? ⟨b, 0, none⟩ = some (.int .u64 (W p 0)) := by rw [B3.cell (by exact hb)]; exact hcell
      have hb3 : b < u3.heap.size := Nat.lt_of_lt_of_le hb B3.size
      have HCF : Hid ((u3.setRow (u.heap.size + 1) #[.int .i64 0, .slice (some ⟨b, 0, none⟩) 1 c]).cell? ⟨b, 0, none⟩ = some (.int .u64 (W p 0)) ∧ b < (u3.setRow (u.heap.size + 1) #[.int .i64 0, .slice (some ⟨b, 0, none⟩) 1 c]).heap.size) := by
        refine ⟨?_, Nat.lt_of_lt_of_le hb HB3.out.size⟩
        rw [HB3.out.cell (by exact hb)]
        exact hcell
      go_wp2
      go_loopw [3, 4] (fun s3 s4 wr => s3 = .slice (some ⟨b, 0, none⟩) 1 c ∧ s4 = .int .i64 0 ∧ u3 = wr) (fun _ _ _ => 0)
      case atStart => exact ⟨rfl, rfl, rfl⟩
      case round =>
        obtain ⟨rfl, rfl, rfl⟩ := hrel
        go_wp2
        go_loopw [3] (fun s3 wr => s3 = .slice (some ⟨b, 0, none⟩) 1 c ∧ u3 = wr) (fun _ _ => 0)
        case atStart => exact ⟨rfl, rfl⟩
        case round =>
          obtain ⟨rfl, rfl⟩ := hrel
          go_wp2_with (refine wpList_store_row rfl 58 (.tmp 2) (.tmp 45) rfl (u.heap.size + 1) #[.int .i64 0, .slice (some ⟨b, 0, none⟩) 1 c] rfl rfl 58 #[.int .i64 0, .slice none 0 0] R3 (pl_info _ _) rfl (ones2 rfl rfl) ?_)
          exact ret_places Tryd.results85 rfl HRF.out rfl ⟨HB3.out, _, rfl, ⟨HZ.out, .inr ⟨b, c, k, rfl, hc, HCF.out.2, HCF.out.1, HK.out⟩⟩, .inl rfl⟩
end Go.Proofs.YtcgondjekpcpgaaDoor.Sy.Lg

namespace Go.Proofs.YtcgondjekpcpgaaDoor.Sy.Lg.Wo
open Go.RowKit Go.Proofs.YtcgondjekpcpgaaDoor.Sy.Ap Go.Proofs.YtcgondjekpcpgaaDoor.Sy.Ap.Wk Go.Proofs.YtcgondjekpcpgaaDoor.Sy.Lg.Pt Go.Proofs.YtcgondjekpcpgaaDoor.Sy.Lg.Cp
set_option maxRecDepth 100000
set_option linter.unusedVariables false

def subB (p r : Nat → Bool) : Nat → Bool := fun i => p i && !r i
theorem W_sub (p r : Nat → Bool) : bits .andNot .u64 (W p 0) (W r 0) = W (subB p r) 0 := by
  rw [W_eq p, W_eq r, u64_andNot_nat _ _ (wN_lt _ _) (wN_lt _ _), W_eq]
  congr 1
  apply wN_ext
  · exact Nat.lt_of_le_of_lt Nat.and_le_left (wN_lt p 0)
  · intro j hj
    have hlt := wN_lt r 0
    rw [Nat.testBit_and, show 18446744073709551615 - wN r 0 = 2 ^ 64 - (wN r 0 + 1) from by omega, Nat.testBit_two_pow_sub_succ (by omega), wN_bit, wN_bit]
    simp [hj, subB]
end Go.Proofs.YtcgondjekpcpgaaDoor.Sy.Lg.Wo

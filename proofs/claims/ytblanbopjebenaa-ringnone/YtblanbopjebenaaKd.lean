/- Put. -/
import Derived.Test.YtblanbopjebenaaKc
import Derived.Test.YtblanbopjebenaaRk
namespace Go.Proofs.Ytblanbopjebenaa.Pu
open Go.RowKit

theorem place_bel {w : World} {g h n now old k : Nat} {f : Nat → Int} {C : List Nat} (r : Raw w g h n now old k f C) (i : Nat) (hi : i ≤ 4096) :
    Calls Try.prog 28 #[.pointer (some ⟨g, 0, none⟩), .int .i64 (i : Int)] w fun e w' => e = .returned (.int .i64 (((old + i) % n : Nat) : Int)) ∧ Below w.heap.size w w' := by
  refine (place_any r i hi).mono ?_
  rintro e w' ⟨rfl, m, rfl⟩
  exact ⟨rfl, bel_drewN (Below.refl _ _) m⟩

/-- Memory while the time is written. -/
structure PuS (w : World) (g h n now old k : Nat) (f : Nat → Int) (C : List Nat) (v : World) : Prop where
  box : Raw v g h n now old k f C
  tch : Touch g h w v
theorem PuS.below {w v v' : World} {g h n now old k : Nat} {f : Nat → Int} {C : List Nat} (s : PuS w g h n now old k f C v) (hb : Below v.heap.size v v') : PuS w g h n now old k f C v' := ⟨s.box.belw hb, s.tch.below hb⟩
def Eb (_ : Option Nat) (u u' : World) : Prop := Below u.heap.size u u'
theorem eby {d : Option Nat} {u u' : World} (_ : true = true) (h : Below u.heap.size u u') : Eb d u u' := h

def PuGV (g h n now L j : Nat) (t : Nat) : Option Value :=
  match t with
  | 0 => some (.pointer (some ⟨g, 0, none⟩))
  | 28 => some (.pointer (some ⟨g, 0, none⟩))
  | 29 => some (.pointer (some ⟨g, 0, none⟩))
  | 30 => some (.pointer (some ⟨g, 2, none⟩))
  | 31 => some (.slice (some ⟨h, 0, none⟩) n n)
  | 32 => some (.pointer (some ⟨g, 0, none⟩))
  | 33 => some (.pointer (some ⟨g, 0, none⟩))
  | 34 => some (.pointer (some ⟨g, 0, none⟩))
  | 35 => some (.pointer (some ⟨g, 4, none⟩))
  | 36 => some (.int .i64 (L : Int))
  | 37 => some (.int .i64 (j : Int))
  | 38 => some (.pointer (some ⟨g, 0, none⟩))
  | 39 => some (.pointer (some ⟨g, 0, none⟩))
  | 40 => some (.pointer (some ⟨g, 1, none⟩))
  | 41 => some (.int .i64 (now : Int))
  | 42 => some (.pointer (some ⟨h, j, none⟩))
  | _ => none
set_option linter.unusedVariables false in
def PuGP (g h n now L j : Nat) (t : Nat) : Option (Value → World → Prop) :=
  match t with
  | _ => none
def PuG (g h n now L j : Nat) (t : Nat) (v : Value) (u : World) : Prop := (∀ z9, PuGV g h n now L j t = some z9 → v = z9) ∧ ∀ R, PuGP g h n now L j t = some R → R v u

theorem Raw.put {w : World} {g h n now old k : Nat} {f : Nat → Int} {C : List Nat} (r : Raw w g h n now old k f C) (hl : C.length < n) :
    Raw ((w.setCell ⟨h, (old + C.length) % n, none⟩ (.int .i64 (now : Int))).setCell ⟨g, 4, none⟩ (.int .i64 ((C.length : Int) + 1))) g h n now old k (fun i => if i = (old + C.length) % n then (now : Int) else f i) (1 :: C) := by
  refine ⟨?_, ((r.row.put _ _).far (fun e => r.far e.symm) _).congr (fun i _ => ?_), r.far, r.n1, r.n2, r.hold, r.hnow, r.hk, hl, fun x hx => ?_, rep_put r.rep hl⟩
  · have h1 : (w.setCell ⟨h, (old + C.length) % n, none⟩ (.int .i64 (now : Int))).heap[g]? = _ := (Below.heap_setCell _ _ _ _ r.far).trans r.blk
    simp [World.setCell, Array.getElem?_modify] at h1 ⊢
    simp [h1]
  · split <;> rfl
  · rcases List.mem_cons.1 hx with rfl | hx
    · omega
    · exact r.le x hx

set_option maxRecDepth 100000 in
set_option maxHeartbeats 2000000 in
theorem put_any {w : World} {g h n k : Nat} {C : List Nat} (r : RingS w g h n C k) (hk : k + 1 ≤ 1000000) :
    Calls Try.prog 24 #[.pointer (some ⟨g, 0, none⟩)] w fun e w' => e = .returned (.tuple #[]) ∧ RingS w' g h n (putL C) (k + 1) ∧ Touch g h w w' := by
  obtain ⟨hr, now, old, f, r⟩ := r
  have hn1 := r.n1
  have hn2 := r.n2
  have hrp := rise_put hn1 hr
  obtain ⟨c0, c1, c2, c3, c4, c5⟩ := r.cells
  have ht := r.thawed
  have hk0 := r.hk
  have hn0 : ¬ (n : Int) < 1 := by omega
  go_enter Try.func24, Try.ntmps24
  go_wp2_with fail
  have R := r.work hk
  have T := (Touch.refl g h w).set1 5 (.int .i64 ((k : Int) + 1))
  generalize w.setCell ⟨g, 5, none⟩ (.int .i64 ((k : Int) + 1)) = w1 at *
  clear c0 c1 c2 c3 c4 c5 ht
  refine (min_any R).mono ?_
  rintro e w2 ⟨rfl, m, rfl⟩
  replace R := R.drewN m
  replace T := T.drewN m
  generalize w1.drewN m = w2 at *
  by_cases hc : C.head? = some 1
  · have h1 : headN C = 1 := by
      cases C with
      | nil => cases hc
      | cons x r => simpa [headN] using hc
    have hs : someN C = true := someN_yes (by cases C; cases hc; simp)
    have HP : Hid (putL C = C) := by show putL C = C; unfold putL; rw [if_pos hc]
    rw [h1, hs]
    go_wp2
    refine bodyPost_ret (results_none rfl _ _ _) rfl ?_
    exact ⟨rfl, by rw [HP.out]; exact ⟨hr, _, _, _, R⟩, T⟩
  · have HP : Hid (putL C = 1 :: C) := by show putL C = 1 :: C; unfold putL; rw [if_neg hc]
    have hl : C.length < n := by
      have := rise_len hrp
      rw [HP.out] at this
      exact this
    have hcase : (someN C = false) ∨ (someN C = true ∧ ¬ ((headN C : Nat) : Int) = 1) := by
      cases C with
      | nil => exact .inl rfl
      | cons x r =>
        refine .inr ⟨rfl, fun e => hc ?_⟩
        simp [headN] at e ⊢
        omega
    have hj : (old + C.length) % n < n := Nat.mod_lt _ hn1
    have hpl : ∀ u, Raw u g h n now old (k + 1) f C → Calls Try.prog 28 #[.pointer (some ⟨g, 0, none⟩), .int .i64 (C.length : Int)] u fun e w' => e = .returned (.int .i64 (((old + C.length) % n : Nat) : Int)) ∧ Below u.heap.size u w' := fun u ru => place_bel ru _ (by omega)
    have hfin : ∀ (u : World), PuS w g h n now old (k + 1) f C u → RingS ((u.setCell ⟨h, (old + C.length) % n, none⟩ (.int .i64 (now : Int))).setCell ⟨g, 4, none⟩ (.int .i64 ((C.length : Int) + 1))) g h n (putL C) (k + 1) ∧ Touch g h w ((u.setCell ⟨h, (old + C.length) % n, none⟩ (.int .i64 (now : Int))).setCell ⟨g, 4, none⟩ (.int .i64 ((C.length : Int) + 1))) := fun u s =>
      ⟨⟨hrp, by rw [HP.out]; exact ⟨_, _, _, Raw.put s.box hl⟩⟩, (s.tch.set2 _ _).set1 _ _⟩
    generalize hLe : (old + C.length) % n = j at *
    have hji : (j : Int) < (n : Int) := by omega
    clear hLe hrp hr r hc
    rcases hcase with hs | ⟨hs, h1⟩
    all_goals
      rw [hs]
      go_wp2
      refine wp_region_slotsT 15 (by decide) (by kernel_rfl) (by kernel_rfl) (fun _ _ => true) (PuS w g h n now old (k + 1) f C) (PuG g h n now C.length j) Eb (by kernel_rfl) (by kernel_rfl) (by kernel_rfl) (by kernel_rfl) ?_ ⟨R.drew, T.drew⟩ [0] (by kernel_rfl) ?_ ?_ ?_
      · intro t d v u u' _ _ h hE
        exact ⟨h.1, fun R hR => by unfold PuGP at hR; cases hR⟩
      · intro u _
        refine ⟨⟨_, rfl, ?_⟩, trivial⟩
        exact ⟨fun _ h => Option.some.inj h, fun _ h => no_some h⟩
      · refine ⟨?_, ?_, ?_, ?_, ?_, ?_, ?_, ?_, ?_, ?_, ?_, ?_, ?_, ?_, ?_, trivial⟩
        · intro a u hS hr K hK
          obtain ⟨⟨vl0, e0, g0⟩, -⟩ := hr
          obtain rfl := g0.1 _ rfl
          clear g0
          rw [if_pos (want_none rfl)]
          unfold Oper.wp
          go_simp
          exact hK _ _ ⟨fun _ h => Option.some.inj h, fun _ h => no_some h⟩ hS (eby rfl (Below.refl _ _))
        · intro a u hS hr K hK
          obtain ⟨⟨vl0, e0, g0⟩, -⟩ := hr
          obtain rfl := g0.1 _ rfl
          clear g0
          rw [if_pos (want_none rfl)]
          unfold Oper.wp
          go_simp
          exact hK _ _ ⟨fun _ h => Option.some.inj h, fun _ h => no_some h⟩ hS (eby rfl (Below.refl _ _))
        · intro a u hS hr K hK
          obtain ⟨⟨vl0, e0, g0⟩, -⟩ := hr
          obtain rfl := g0.1 _ rfl
          clear g0
          rw [if_pos (want_none rfl)]
          unfold Oper.wp
          go_simp
          exact hK _ _ ⟨fun _ h => Option.some.inj h, fun _ h => no_some h⟩ hS (eby rfl (Below.refl _ _))
        · intro a u hS hr K hK
          obtain ⟨⟨vl0, e0, g0⟩, -⟩ := hr
          obtain rfl := g0.1 _ rfl
          clear g0
          rw [if_pos (want_none rfl)]
          obtain ⟨c0, c1, c2, c3, c4, c5⟩ := hS.box.cells
          unfold Oper.wp
          go_simp
          exact hK _ _ ⟨fun _ h => Option.some.inj h, fun _ h => no_some h⟩ hS (eby rfl (Below.refl _ _))
        · intro a u hS hr K hK
          obtain ⟨⟨vl0, e0, g0⟩, -⟩ := hr
          obtain rfl := g0.1 _ rfl
          clear g0
          rw [if_pos (want_none rfl)]
          unfold Oper.wp
          go_simp
          exact hK _ _ ⟨fun _ h => Option.some.inj h, fun _ h => no_some h⟩ hS (eby rfl (Below.refl _ _))
        · intro a u hS hr K hK
          obtain ⟨⟨vl0, e0, g0⟩, -⟩ := hr
          obtain rfl := g0.1 _ rfl
          clear g0
          rw [if_pos (want_none rfl)]
          unfold Oper.wp
          go_simp
          exact hK _ _ ⟨fun _ h => Option.some.inj h, fun _ h => no_some h⟩ hS (eby rfl (Below.refl _ _))
        · intro a u hS hr K hK
          obtain ⟨⟨vl0, e0, g0⟩, -⟩ := hr
          obtain rfl := g0.1 _ rfl
          clear g0
          rw [if_pos (want_none rfl)]
          unfold Oper.wp
          go_simp
          exact hK _ _ ⟨fun _ h => Option.some.inj h, fun _ h => no_some h⟩ hS (eby rfl (Below.refl _ _))
        · intro a u hS hr K hK
          obtain ⟨⟨vl0, e0, g0⟩, -⟩ := hr
          obtain rfl := g0.1 _ rfl
          clear g0
          rw [if_pos (want_none rfl)]
          unfold Oper.wp
          go_simp
          exact hK _ _ ⟨fun _ h => Option.some.inj h, fun _ h => no_some h⟩ hS (eby rfl (Below.refl _ _))
        · intro a u hS hr K hK
          obtain ⟨⟨vl0, e0, g0⟩, -⟩ := hr
          obtain rfl := g0.1 _ rfl
          clear g0
          rw [if_pos (want_none rfl)]
          obtain ⟨c0, c1, c2, c3, c4, c5⟩ := hS.box.cells
          unfold Oper.wp
          go_simp
          exact hK _ _ ⟨fun _ h => Option.some.inj h, fun _ h => no_some h⟩ hS (eby rfl (Below.refl _ _))
        · intro a u hS hr K hK
          obtain ⟨⟨vl0, e0, g0⟩, ⟨vl1, e1, g1⟩, -⟩ := hr
          obtain rfl := g0.1 _ rfl
          clear g0
          obtain rfl := g1.1 _ rfl
          clear g1
          rw [if_pos (want_none rfl)]
          unfold Oper.wp
          go_simp
          refine (hpl u hS.box).mono ?_
          rintro e u1 ⟨rfl, hb⟩
          exact hK _ _ ⟨fun _ h => Option.some.inj h, fun _ h => no_some h⟩ (hS.below hb) (eby rfl hb)
        · intro a u hS hr K hK
          obtain ⟨⟨vl0, e0, g0⟩, -⟩ := hr
          obtain rfl := g0.1 _ rfl
          clear g0
          rw [if_pos (want_none rfl)]
          unfold Oper.wp
          go_simp
          exact hK _ _ ⟨fun _ h => Option.some.inj h, fun _ h => no_some h⟩ hS (eby rfl (Below.refl _ _))
        · intro a u hS hr K hK
          obtain ⟨⟨vl0, e0, g0⟩, -⟩ := hr
          obtain rfl := g0.1 _ rfl
          clear g0
          rw [if_pos (want_none rfl)]
          unfold Oper.wp
          go_simp
          exact hK _ _ ⟨fun _ h => Option.some.inj h, fun _ h => no_some h⟩ hS (eby rfl (Below.refl _ _))
        · intro a u hS hr K hK
          obtain ⟨⟨vl0, e0, g0⟩, -⟩ := hr
          obtain rfl := g0.1 _ rfl
          clear g0
          rw [if_pos (want_none rfl)]
          unfold Oper.wp
          go_simp
          exact hK _ _ ⟨fun _ h => Option.some.inj h, fun _ h => no_some h⟩ hS (eby rfl (Below.refl _ _))
        · intro a u hS hr K hK
          obtain ⟨⟨vl0, e0, g0⟩, -⟩ := hr
          obtain rfl := g0.1 _ rfl
          clear g0
          rw [if_pos (want_none rfl)]
          obtain ⟨c0, c1, c2, c3, c4, c5⟩ := hS.box.cells
          unfold Oper.wp
          go_simp
          exact hK _ _ ⟨fun _ h => Option.some.inj h, fun _ h => no_some h⟩ hS (eby rfl (Below.refl _ _))
        · intro a u hS hr K hK
          obtain ⟨⟨vl0, e0, g0⟩, ⟨vl1, e1, g1⟩, -⟩ := hr
          obtain rfl := g0.1 _ rfl
          clear g0
          obtain rfl := g1.1 _ rfl
          clear g1
          rw [if_pos (want_none rfl)]
          unfold Oper.wp
          go_simp
          exact hK _ _ ⟨fun _ h => Option.some.inj h, fun _ h => no_some h⟩ hS (eby rfl (Below.refl _ _))
      intro a u hS hts hd hkn hf
      obtain ⟨v28, e28, g28⟩ := hf 0 _ 28 (by decide) rfl rfl (fun _ => rfl)
      obtain ⟨v29, e29, g29⟩ := hf 1 _ 29 (by decide) rfl rfl (fun _ => rfl)
      obtain ⟨v30, e30, g30⟩ := hf 2 _ 30 (by decide) rfl rfl (fun _ => rfl)
      obtain ⟨v31, e31, g31⟩ := hf 3 _ 31 (by decide) rfl rfl (fun _ => rfl)
      obtain ⟨v32, e32, g32⟩ := hf 4 _ 32 (by decide) rfl rfl (fun _ => rfl)
      obtain ⟨v33, e33, g33⟩ := hf 5 _ 33 (by decide) rfl rfl (fun _ => rfl)
      obtain ⟨v34, e34, g34⟩ := hf 6 _ 34 (by decide) rfl rfl (fun _ => rfl)
      obtain ⟨v35, e35, g35⟩ := hf 7 _ 35 (by decide) rfl rfl (fun _ => rfl)
      obtain ⟨v36, e36, g36⟩ := hf 8 _ 36 (by decide) rfl rfl (fun _ => rfl)
      obtain ⟨v37, e37, g37⟩ := hf 9 _ 37 (by decide) rfl rfl (fun _ => rfl)
      obtain ⟨v38, e38, g38⟩ := hf 10 _ 38 (by decide) rfl rfl (fun _ => rfl)
      obtain ⟨v39, e39, g39⟩ := hf 11 _ 39 (by decide) rfl rfl (fun _ => rfl)
      obtain ⟨v40, e40, g40⟩ := hf 12 _ 40 (by decide) rfl rfl (fun _ => rfl)
      obtain ⟨v41, e41, g41⟩ := hf 13 _ 41 (by decide) rfl rfl (fun _ => rfl)
      obtain ⟨v42, e42, g42⟩ := hf 14 _ 42 (by decide) rfl rfl (fun _ => rfl)
      have hA := act_puts [(28, v28), (29, v29), (30, v30), (31, v31), (32, v32), (33, v33), (34, v34), (35, v35), (36, v36), (37, v37), (38, v38), (39, v39), (40, v40), (41, v41), (42, v42)] hts hd hkn (by kernel_rfl) (by simp [e28, e29, e30, e31, e32, e33, e34, e35, e36, e37, e38, e39, e40, e41, e42])
      clear hf hts hd hkn e28 e29 e30 e31 e32 e33 e34 e35 e36 e37 e38 e39 e40 e41 e42
      obtain rfl := g28.1 _ rfl
      clear g28
      obtain rfl := g29.1 _ rfl
      clear g29
      obtain rfl := g30.1 _ rfl
      clear g30
      obtain rfl := g31.1 _ rfl
      clear g31
      obtain rfl := g32.1 _ rfl
      clear g32
      obtain rfl := g33.1 _ rfl
      clear g33
      obtain rfl := g34.1 _ rfl
      clear g34
      obtain rfl := g35.1 _ rfl
      clear g35
      obtain rfl := g36.1 _ rfl
      clear g36
      obtain rfl := g37.1 _ rfl
      clear g37
      obtain rfl := g38.1 _ rfl
      clear g38
      obtain rfl := g39.1 _ rfl
      clear g39
      obtain rfl := g40.1 _ rfl
      clear g40
      obtain rfl := g41.1 _ rfl
      clear g41
      obtain rfl := g42.1 _ rfl
      clear g42
      subst hA
      simp only [List.foldl, List.setIfInBounds_toArray, List.set_cons_zero, List.set_cons_succ]
      simp only [List.drop_succ_cons, List.drop_zero]
      obtain ⟨c0, c1, c2, c3, c4, c5⟩ := hS.box.cells
      have ht := hS.box.thawed
      have hth := hS.box.row.thawed
      have hrow := hS.box.row.at_ j (by omega)
      have hfar := hS.box.far
      have HF := hidd (hfin u hS)
      clear R T
      go_wp2
      go_end0
      exact ⟨rfl, HF.out.1, HF.out.2⟩
end Go.Proofs.Ytblanbopjebenaa.Pu

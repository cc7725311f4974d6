/- The reference's one: where a set's byte may end. -/
import Derived.Test.YtdaaigkmlbpbgaaPGl
namespace Go.Proofs.Ytdaaigkmlbpbgaa.Sy.Lg.Rn
open Go.RowKit Go.Proofs.Ytdaaigkmlbpbgaa.Sy.Ap Go.Proofs.Ytdaaigkmlbpbgaa.Sy.Ap.Wk Go.Proofs.Ytdaaigkmlbpbgaa.Sy.Lg.En
set_option maxRecDepth 100000
set_option linter.unusedVariables false

/-- The set's box, and the row that is made. -/
structure OnR (w : World) (qb q n : Nat) (p : Nat → Bool) (g : Nat → Bool) (u : World) : Prop where
  box : Row4 u qb p
  out : RowF u q 4 n (fun i => .bool (g i))
  ne : qb ≠ q
  lo : w.heap.size ≤ q
  bel : Below w.heap.size w u
theorem OnR.below {w : World} {qb q n : Nat} {p g : Nat → Bool} {u u' : World} (h : OnR w qb q n p g u) (hb : Below u.heap.size u u') : OnR w qb q n p g u' :=
  ⟨h.box.below hb h.box.lt, h.out.below hb h.out.lt, h.ne, h.lo, h.bel.trans (hb.mono h.bel.size)⟩
theorem OnR.set {w : World} {qb q n : Nat} {p g : Nat → Bool} {u : World} (h : OnR w qb q n p g u) (i : Nat) : OnR w qb q n p (fun j => if j = i then true else g j) (u.setCell ⟨q, i, none⟩ (.bool true)) := by
  have h1 := h.out.put i (.bool true)
  have e : (fun j => if j = i then Value.bool true else .bool (g j)) = fun j => .bool (if j = i then true else g j) := by
    funext j
    split <;> rfl
  rw [e] at h1
  exact ⟨h.box.far (a := ⟨q, i, none⟩) (by show qb ≠ q; exact h.ne) _, h1, h.ne, h.lo, bel_set h.bel _ _ h.lo⟩
section
set_option linter.unusedVariables false in
def O1GV (qb k n c g1 o1 : Nat) (p : Nat → Bool) (s : ByteArray) (b : Int) (z : Bool) (t : Nat) : Option Value :=
  match t with
  | 1 => some (.string s)
  | 2 => some (.slice (some ⟨g1, o1, none⟩) n c)
  | 3 => some (.pointer (some ⟨qb, 0, none⟩))
  | 8 => some (.int .i64 (k : Int))
  | 17 => some (.slice (some ⟨g1, o1, none⟩) n c)
  | 18 => some (.int .i64 (k : Int))
  | 19 => some (.pointer (some ⟨g1, o1 + k, none⟩))
  | 20 => some (.bool true)
  | 21 => some (.bool true)
  | 22 => some (.agg #[.int .u64 (W (p) 0), .int .u64 (W (p) 1), .int .u64 (W (p) 2), .int .u64 (W (p) 3)])
  | 23 => some (.string s)
  | 24 => some (.int .i64 (k : Int))
  | 25 => some (.int .u8 b)
  | 26 => some (.bool z)
  | 27 => some (.bool z)
  | _ => none
set_option linter.unusedVariables false in
def O1GP (qb k n c g1 o1 : Nat) (p : Nat → Bool) (s : ByteArray) (b : Int) (z : Bool) (t : Nat) : Option (Value → World → Prop) :=
  match t with
  | _ => none
def O1G (qb k n c g1 o1 : Nat) (p : Nat → Bool) (s : ByteArray) (b : Int) (z : Bool) (t : Nat) (v : Value) (u : World) : Prop := (∀ z9, O1GV qb k n c g1 o1 p s b z t = some z9 → v = z9) ∧ ∀ R, O1GP qb k n c g1 o1 p s b z t = some R → R v u
set_option linter.unusedVariables false in
def O0GV (qb k n c g1 o1 : Nat) (s : ByteArray) (t : Nat) : Option Value :=
  match t with
  | 1 => some (.string s)
  | 2 => some (.slice (some ⟨g1, o1, none⟩) n c)
  | 3 => some (.pointer (some ⟨qb, 0, none⟩))
  | 8 => some (.int .i64 (k : Int))
  | 17 => some (.slice (some ⟨g1, o1, none⟩) n c)
  | 18 => some (.int .i64 (k : Int))
  | 19 => some (.pointer (some ⟨g1, o1 + k, none⟩))
  | 20 => some (.bool false)
  | 21 => some (.bool false)
  | 27 => some (.bool false)
  | _ => none
set_option linter.unusedVariables false in
def O0GP (qb k n c g1 o1 : Nat) (s : ByteArray) (t : Nat) : Option (Value → World → Prop) :=
  match t with
  | 22 => some (fun _ _ => True)
  | 23 => some (fun _ _ => True)
  | 24 => some (fun _ _ => True)
  | 25 => some (fun _ _ => True)
  | 26 => some (fun _ _ => True)
  | _ => none
def O0G (qb k n c g1 o1 : Nat) (s : ByteArray) (t : Nat) (v : Value) (u : World) : Prop := (∀ z9, O0GV qb k n c g1 o1 s t = some z9 → v = z9) ∧ ∀ R, O0GP qb k n c g1 o1 s t = some R → R v u
set_option maxHeartbeats 2000000 in
theorem one_any (p : Nat → Bool) (s : ByteArray) (A : Option Addr) (c n : Nat) (f : Nat → Bool) (w : World) (hx : Bls w w.heap.size A n f) (hn : s.size + 1 = n) (hl : n ≤ 1000) :
    Calls Try.prog 45 #[.agg #[.int .u64 (W (p) 0), .int .u64 (W (p) 1), .int .u64 (W (p) 2), .int .u64 (W (p) 3)], .string s, .slice A n c] w fun e w' => BlR n w (fun j => ∃ i, f i = true ∧ i < s.size ∧ p ((bs s).getD i 0) = true ∧ j = i + 1) e w' := by
  obtain ⟨g1, o1, rfl, hg1, hc1⟩ := hx
  have HC1 := hidd hc1
  clear hc1
  go_enter Try.func45, Try.ntmps45
  have hpl := places_any s n hn hl (w.alloc (.cells #[.int .u64 (W (p) 0), .int .u64 (W (p) 1), .int .u64 (W (p) 2), .int .u64 (W (p) 3)] 35))
  have r4 : Row4 (w.alloc (.cells #[.int .u64 (W (p) 0), .int .u64 (W (p) 1), .int .u64 (W (p) 2), .int .u64 (W (p) 3)] 35)) w.heap.size p := Row4.new w p
  have hbA : Below w.heap.size w (w.alloc (.cells #[.int .u64 (W (p) 0), .int .u64 (W (p) 1), .int .u64 (W (p) 2), .int .u64 (W (p) 3)] 35)) := (Below.refl _ _).alloc (Nat.le_refl _) _
  have hsA : (w.alloc (.cells #[.int .u64 (W (p) 0), .int .u64 (W (p) 1), .int .u64 (W (p) 2), .int .u64 (W (p) 3)] 35)).heap.size = w.heap.size + 1 := World.size_alloc ..
  go_wp2_with fail
  generalize w.alloc (.cells #[.int .u64 (W (p) 0), .int .u64 (W (p) 1), .int .u64 (W (p) 2), .int .u64 (W (p) 3)] 35) = w1 at *
  refine hpl.mono ?_
  rintro e w2 ⟨b2, q, hq, rfl, rq⟩
  have HS0 : Hid (OnR w w.heap.size q n p (fun _ => false) w2) := ⟨r4.below b2 r4.lt, rq, by omega, by omega, hbA.trans (b2.mono hbA.size)⟩
  obtain ⟨qb, hqb⟩ : ∃ qb, qb = w.heap.size := ⟨_, rfl⟩
  rw [← hqb] at HS0
  rw [← hqb]
  clear hpl b2 rq hq r4 hbA hsA hqb
  go_wp2
  go_loopw [8] (fun s8 wr => ∃ (k : Nat) (g : Nat → Bool), k ≤ s.size ∧ s8 = .int .i64 (k : Int) ∧ OnR w qb q n p g wr ∧ ∀ j, g j = true ↔ ∃ i, i < k ∧ f i = true ∧ p ((bs s).getD i 0) = true ∧ j = i + 1) (fun s8 _ => s.size - (intOf s8).toNat)
  case atStart => exact ⟨0, _, Nat.zero_le _, rfl, HS0.out, fun j => ⟨(fun q => by cases q), fun ⟨i, h, _⟩ => absurd h (Nat.not_lt_zero _)⟩⟩
  case round =>
    clear HS0
    obtain ⟨k, g, hk0, rfl, hS, hg⟩ := hrel
    by_cases hlt : k < s.size
    · have hki : (k : Int) < (s.size : Int) := by omega
      have hkn : k < n := by omega
      have hkni : (k : Int) < (n : Int) := by omega
      have HG := hidd hg
      have HCL : Hid (∀ u, Below w.heap.size w u → u.cell? ⟨g1, o1 + k, none⟩ = some (.bool (f k))) := fun u hu => by rw [hu.cell hg1]; exact HC1.out k hkn
      have HNO : Hid (f k = false ∨ p ((bs s).getD k 0) = false → ∀ j, g j = true ↔ ∃ i, i < k + 1 ∧ f i = true ∧ p ((bs s).getD i 0) = true ∧ j = i + 1) := fun h j => by
        rw [HG.out]
        constructor
        · rintro ⟨i, q1, q2⟩
          exact ⟨i, by omega, q2⟩
        · rintro ⟨i, q1, q2, q3, q4⟩
          by_cases e : i = k
          · subst e
            rcases h with h | h
            · rw [h] at q2; cases q2
            · rw [h] at q3; cases q3
          · exact ⟨i, by omega, q2, q3, q4⟩
      have HYES : Hid (f k = true → p ((bs s).getD k 0) = true → ∀ j, (if j = k + 1 then true else g j) = true ↔ ∃ i, i < k + 1 ∧ f i = true ∧ p ((bs s).getD i 0) = true ∧ j = i + 1) := fun h1 h2 j => by
        by_cases e : j = k + 1
        · rw [if_pos e]
          exact ⟨fun _ => ⟨k, by omega, h1, h2, e⟩, fun _ => rfl⟩
        · rw [if_neg e, HG.out]
          constructor
          · rintro ⟨i, q1, q2⟩
            exact ⟨i, by omega, q2⟩
          · rintro ⟨i, q1, q2, q3, q4⟩
            exact ⟨i, by omega, q2, q3, q4⟩
      have hat : at_ (bs s) k = (s[k]'hlt).toNat := at_bs s k hlt
      obtain ⟨b, hb⟩ : ∃ b : Nat, (s[k]'hlt).toNat = b := ⟨_, rfl⟩
      have hb255 : b ≤ 255 := by rw [← hb]; have := (s[k]'hlt).toNat_lt; omega
      have hbs : (bs s).getD k 0 = b := by rw [← hb, ← hat]; rfl
      rw [hbs] at HNO HYES
      have hhas : ∀ u, _ := fun u => rhas_any p (b : Int) u (by omega) (by omega)
      simp only [Int.toNat_natCast] at hhas
      have hidx : ((s[k]'hlt).toNat : Int) = (b : Int) := by rw [hb]
      clear hg hat hb hbs
      obtain ⟨x, hfx⟩ : ∃ x, f k = x := ⟨_, rfl⟩
      obtain ⟨z, hpz⟩ : ∃ z, p b = z := ⟨_, rfl⟩
      rw [hfx] at HCL HNO HYES
      rw [hpz] at HNO HYES hhas
      clear hfx hpz
      go_upto_region 5 with fail
      cases x with
      | false =>
        have HNO := hidd (HNO.out (.inl rfl))
        clear HYES hhas
        refine wp_region_slotsH 11 (by decide) (by kernel_rfl) (by kernel_rfl) (fun _ _ => true) (OnR w qb q n p g) (O0G qb k n c g1 o1 s) EbL (by kernel_rfl) (by kernel_rfl) (by kernel_rfl) (by kernel_rfl) ?_ (hS.below (bel_drew (Below.refl _ _))) [1, 2, 3, 8] (by kernel_rfl) ?_ ?_ ?_
        · intro t dd v u u' _ _ h hE
          refine ⟨h.1, fun R hR => ?_⟩
          have h2 := h.2 R hR
          unfold O0GP at hR
          split at hR
          · cases hR; exact h2
          · cases hR; exact h2
          · cases hR; exact h2
          · cases hR; exact h2
          · cases hR; exact h2
          · cases hR
        · intro u _
          refine ⟨⟨_, rfl, ?_⟩, ⟨_, rfl, ?_⟩, ⟨_, rfl, ?_⟩, ⟨_, rfl, ?_⟩, trivial⟩ <;> exact ⟨fun _ h => Option.some.inj h, fun _ h => no_some h⟩
        · refine ⟨?_, ?_, ?_, ?_, ?_, ?_, ?_, ?_, ?_, ?_, ?_, trivial⟩
          · intro a u hS hr K hK
            obtain ⟨⟨vl0, e0, g0⟩, -⟩ := hr
            obtain rfl := g0.1 _ rfl
            clear g0
            rw [if_pos (want_none rfl)]
            unfold Oper.wp
            go_simp
            exact hK _ _ ⟨fun _ h => Option.some.inj h, fun _ h => no_some h⟩ hS (eby rfl (Below.refl _ _))
          · intro a u hS hr K hK
            obtain ⟨⟨vl0, e0, g0⟩, -⟩ := hr
            obtain rfl := g0.1 _ rfl
            clear g0
            rw [if_pos (want_none rfl)]
            unfold Oper.wp
            go_simp
            exact hK _ _ ⟨fun _ h => Option.some.inj h, fun _ h => no_some h⟩ hS (eby rfl (Below.refl _ _))
          · intro a u hS hr K hK
            obtain ⟨⟨vl0, e0, g0⟩, ⟨vl1, e1, g1⟩, -⟩ := hr
            obtain rfl := g0.1 _ rfl
            clear g0
            obtain rfl := g1.1 _ rfl
            clear g1
            rw [if_pos (want_none rfl)]
            unfold Oper.wp
            go_simp
            exact hK _ _ ⟨fun _ h => Option.some.inj h, fun _ h => no_some h⟩ hS (eby rfl (Below.refl _ _))
          · intro a u hS hr K hK
            obtain ⟨⟨vl0, e0, g0⟩, -⟩ := hr
            obtain rfl := g0.1 _ rfl
            clear g0
            rw [if_pos (want_none rfl)]
            have d0 := HCL.out u hS.bel
            unfold Oper.wp
            go_simp
            exact hK _ _ ⟨fun _ h => Option.some.inj h, fun _ h => no_some h⟩ hS (eby rfl (Below.refl _ _))
          · intro a u hS hr K hK
            obtain ⟨⟨vl0, e0, g0⟩, -⟩ := hr
            obtain rfl := g0.1 _ rfl
            clear g0
            rw [if_pos (want_none rfl)]
            unfold Oper.wp
            go_simp
            exact hK _ _ ⟨fun _ h => Option.some.inj h, fun _ h => no_some h⟩ hS (eby rfl (Below.refl _ _))
          · intro a u hS hr K hK
            obtain ⟨⟨vl0, e0, g0⟩, ⟨vl1, e1, g1⟩, -⟩ := hr
            obtain rfl := g0.1 _ rfl
            clear g0
            obtain rfl := g1.1 _ rfl
            clear g1
            rw [if_neg (unwant rfl rfl rfl e1 (by decide))]
            exact hK _ _ ⟨fun _ h => no_some h, fun _ h => spec_ok h trivial⟩ hS (eby rfl (Below.refl _ _))
          · intro a u hS hr K hK
            obtain ⟨⟨vl0, e0, g0⟩, ⟨vl1, e1, g1⟩, -⟩ := hr
            obtain rfl := g0.1 _ rfl
            clear g0
            obtain rfl := g1.1 _ rfl
            clear g1
            rw [if_neg (unwant rfl rfl rfl e1 (by decide))]
            exact hK _ _ ⟨fun _ h => no_some h, fun _ h => spec_ok h trivial⟩ hS (eby rfl (Below.refl _ _))
          · intro a u hS hr K hK
            obtain ⟨⟨vl0, e0, g0⟩, ⟨vl1, e1, g1⟩, -⟩ := hr
            obtain rfl := g0.1 _ rfl
            clear g0
            obtain rfl := g1.1 _ rfl
            clear g1
            rw [if_neg (unwant rfl rfl rfl e1 (by decide))]
            exact hK _ _ ⟨fun _ h => no_some h, fun _ h => spec_ok h trivial⟩ hS (eby rfl (Below.refl _ _))
          · intro a u hS hr K hK
            obtain ⟨⟨vl0, e0, g0⟩, ⟨vl1, e1, g1⟩, ⟨vl2, e2, g2⟩, -⟩ := hr
            replace g0 := g0.2 _ rfl
            replace g1 := g1.2 _ rfl
            obtain rfl := g2.1 _ rfl
            clear g2
            rw [if_neg (unwant rfl rfl rfl e2 (by decide))]
            exact hK _ _ ⟨fun _ h => no_some h, fun _ h => spec_ok h trivial⟩ hS (eby rfl (Below.refl _ _))
          · intro a u hS hr K hK
            obtain ⟨⟨vl0, e0, g0⟩, ⟨vl1, e1, g1⟩, ⟨vl2, e2, g2⟩, -⟩ := hr
            replace g0 := g0.2 _ rfl
            replace g1 := g1.2 _ rfl
            obtain rfl := g2.1 _ rfl
            clear g2
            rw [if_neg (unwant rfl rfl rfl e2 (by decide))]
            exact hK _ _ ⟨fun _ h => no_some h, fun _ h => spec_ok h trivial⟩ hS (eby rfl (Below.refl _ _))
          · intro a u hS hr K hK
            obtain ⟨⟨vl0, e0, g0⟩, ⟨vl1, e1, g1⟩, -⟩ := hr
            obtain rfl := g0.1 _ rfl
            clear g0
            replace g1 := g1.2 _ rfl
            rw [if_pos (want_none rfl)]
            unfold Oper.wp
            go_simp
            exact hK _ _ ⟨fun _ h => Option.some.inj h, fun _ h => no_some h⟩ hS (eby rfl (Below.refl _ _))
        intro a u6 hS6 hts hd hkn hf
        obtain ⟨v17, e17, g17⟩ := hf 0 _ 17 (by decide) rfl rfl (fun _ => rfl)
        obtain ⟨v18, e18, g18⟩ := hf 1 _ 18 (by decide) rfl rfl (fun _ => rfl)
        obtain ⟨v19, e19, g19⟩ := hf 2 _ 19 (by decide) rfl rfl (fun _ => rfl)
        obtain ⟨v20, e20, g20⟩ := hf 3 _ 20 (by decide) rfl rfl (fun _ => rfl)
        obtain ⟨v21, e21, g21⟩ := hf 4 _ 21 (by decide) rfl rfl (fun _ => rfl)
        obtain ⟨v22, e22, g22⟩ := hf 5 _ 22 (by decide) rfl rfl (fun _ => rfl)
        obtain ⟨v23, e23, g23⟩ := hf 6 _ 23 (by decide) rfl rfl (fun _ => rfl)
        obtain ⟨v24, e24, g24⟩ := hf 7 _ 24 (by decide) rfl rfl (fun _ => rfl)
        obtain ⟨v25, e25, g25⟩ := hf 8 _ 25 (by decide) rfl rfl (fun _ => rfl)
        obtain ⟨v26, e26, g26⟩ := hf 9 _ 26 (by decide) rfl rfl (fun _ => rfl)
        obtain ⟨v27, e27, g27⟩ := hf 10 _ 27 (by decide) rfl rfl (fun _ => rfl)
        have hA := act_putsH [(17, v17), (18, v18), (19, v19), (20, v20), (21, v21), (22, v22), (23, v23), (24, v24), (25, v25), (26, v26), (27, v27)] hts hd hkn (by kernel_rfl) (by simp [e17, e18, e19, e20, e21, e22, e23, e24, e25, e26, e27])
        clear hf hts hd hkn e17 e18 e19 e20 e21 e22 e23 e24 e25 e26 e27
        obtain rfl := g17.1 _ rfl
        clear g17
        obtain rfl := g18.1 _ rfl
        clear g18
        obtain rfl := g19.1 _ rfl
        clear g19
        obtain rfl := g20.1 _ rfl
        clear g20
        obtain rfl := g21.1 _ rfl
        clear g21
        replace g22 := g22.2 _ rfl
        replace g23 := g23.2 _ rfl
        replace g24 := g24.2 _ rfl
        replace g25 := g25.2 _ rfl
        replace g26 := g26.2 _ rfl
        obtain rfl := g27.1 _ rfl
        clear g27
        subst hA
        simp only [List.foldl, List.setIfInBounds_toArray, List.set_cons_zero, List.set_cons_succ]
        simp only [List.drop_succ_cons, List.drop_zero]
        have HS6 := hidd hS6
        clear hS6 hS g22 g23 g24 g25 g26
        go_wp2
        exact ⟨⟨k + 1, g, by omega, rfl, HS6.out, HNO.out⟩, by simp [intOf]; omega⟩
      | true =>
        refine wp_region_slotsH 11 (by decide) (by kernel_rfl) (by kernel_rfl) (fun _ _ => true) (OnR w qb q n p g) (O1G qb k n c g1 o1 p s (b : Int) z) EbL (by kernel_rfl) (by kernel_rfl) (by kernel_rfl) (by kernel_rfl) ?_ (hS.below (bel_drew (Below.refl _ _))) [1, 2, 3, 8] (by kernel_rfl) ?_ ?_ ?_
        · intro t dd v u u' _ _ h hE
          refine ⟨h.1, fun R hR => ?_⟩
          unfold O1GP at hR
          cases hR
        · intro u _
          refine ⟨⟨_, rfl, ?_⟩, ⟨_, rfl, ?_⟩, ⟨_, rfl, ?_⟩, ⟨_, rfl, ?_⟩, trivial⟩ <;> exact ⟨fun _ h => Option.some.inj h, fun _ h => no_some h⟩
        · refine ⟨?_, ?_, ?_, ?_, ?_, ?_, ?_, ?_, ?_, ?_, ?_, trivial⟩
          · intro a u hS hr K hK
            obtain ⟨⟨vl0, e0, g0⟩, -⟩ := hr
            obtain rfl := g0.1 _ rfl
            clear g0
            rw [if_pos (want_none rfl)]
            unfold Oper.wp
            go_simp
            exact hK _ _ ⟨fun _ h => Option.some.inj h, fun _ h => no_some h⟩ hS (eby rfl (Below.refl _ _))
          · intro a u hS hr K hK
            obtain ⟨⟨vl0, e0, g0⟩, -⟩ := hr
            obtain rfl := g0.1 _ rfl
            clear g0
            rw [if_pos (want_none rfl)]
            unfold Oper.wp
            go_simp
            exact hK _ _ ⟨fun _ h => Option.some.inj h, fun _ h => no_some h⟩ hS (eby rfl (Below.refl _ _))
          · intro a u hS hr K hK
            obtain ⟨⟨vl0, e0, g0⟩, ⟨vl1, e1, g1⟩, -⟩ := hr
            obtain rfl := g0.1 _ rfl
            clear g0
            obtain rfl := g1.1 _ rfl
            clear g1
            rw [if_pos (want_none rfl)]
            unfold Oper.wp
            go_simp
            exact hK _ _ ⟨fun _ h => Option.some.inj h, fun _ h => no_some h⟩ hS (eby rfl (Below.refl _ _))
          · intro a u hS hr K hK
            obtain ⟨⟨vl0, e0, g0⟩, -⟩ := hr
            obtain rfl := g0.1 _ rfl
            clear g0
            rw [if_pos (want_none rfl)]
            have d0 := HCL.out u hS.bel
            unfold Oper.wp
            go_simp
            exact hK _ _ ⟨fun _ h => Option.some.inj h, fun _ h => no_some h⟩ hS (eby rfl (Below.refl _ _))
          · intro a u hS hr K hK
            obtain ⟨⟨vl0, e0, g0⟩, -⟩ := hr
            obtain rfl := g0.1 _ rfl
            clear g0
            rw [if_pos (want_none rfl)]
            unfold Oper.wp
            go_simp
            exact hK _ _ ⟨fun _ h => Option.some.inj h, fun _ h => no_some h⟩ hS (eby rfl (Below.refl _ _))
          · intro a u hS hr K hK
            obtain ⟨⟨vl0, e0, g0⟩, ⟨vl1, e1, g1⟩, -⟩ := hr
            obtain rfl := g0.1 _ rfl
            clear g0
            obtain rfl := g1.1 _ rfl
            clear g1
            rw [if_pos (want_some rfl rfl rfl e1)]
            obtain ⟨c0, c1, c2, c3⟩ := hS.box.cells
            unfold Oper.wp
            go_simp
            exact hK _ _ ⟨fun _ h => Option.some.inj h, fun _ h => no_some h⟩ hS (eby rfl (Below.refl _ _))
          · intro a u hS hr K hK
            obtain ⟨⟨vl0, e0, g0⟩, ⟨vl1, e1, g1⟩, -⟩ := hr
            obtain rfl := g0.1 _ rfl
            clear g0
            obtain rfl := g1.1 _ rfl
            clear g1
            rw [if_pos (want_some rfl rfl rfl e1)]
            unfold Oper.wp
            go_simp
            exact hK _ _ ⟨fun _ h => Option.some.inj h, fun _ h => no_some h⟩ hS (eby rfl (Below.refl _ _))
          · intro a u hS hr K hK
            obtain ⟨⟨vl0, e0, g0⟩, ⟨vl1, e1, g1⟩, -⟩ := hr
            obtain rfl := g0.1 _ rfl
            clear g0
            obtain rfl := g1.1 _ rfl
            clear g1
            rw [if_pos (want_some rfl rfl rfl e1)]
            unfold Oper.wp
            go_simp
            exact hK _ _ ⟨fun _ h => Option.some.inj h, fun _ h => no_some h⟩ hS (eby rfl (Below.refl _ _))
          · intro a u hS hr K hK
            obtain ⟨⟨vl0, e0, g0⟩, ⟨vl1, e1, g1⟩, ⟨vl2, e2, g2⟩, -⟩ := hr
            obtain rfl := g0.1 _ rfl
            clear g0
            obtain rfl := g1.1 _ rfl
            clear g1
            obtain rfl := g2.1 _ rfl
            clear g2
            rw [if_pos (want_some rfl rfl rfl e2)]
            unfold Oper.wp
            go_simp
            exact hK _ _ ⟨fun _ h => Option.some.inj h, fun _ h => no_some h⟩ hS (eby rfl (Below.refl _ _))
          · intro a u hS hr K hK
            obtain ⟨⟨vl0, e0, g0⟩, ⟨vl1, e1, g1⟩, ⟨vl2, e2, g2⟩, -⟩ := hr
            obtain rfl := g0.1 _ rfl
            clear g0
            obtain rfl := g1.1 _ rfl
            clear g1
            obtain rfl := g2.1 _ rfl
            clear g2
            rw [if_pos (want_some rfl rfl rfl e2)]
            unfold Oper.wp
            go_simp
            refine (hhas u).mono ?_
            rintro e u1 ⟨rfl, hb⟩
            exact hK _ _ ⟨fun _ h => Option.some.inj h, fun _ h => no_some h⟩ (hS.below hb) (eby rfl hb)
          · intro a u hS hr K hK
            obtain ⟨⟨vl0, e0, g0⟩, ⟨vl1, e1, g1⟩, -⟩ := hr
            obtain rfl := g0.1 _ rfl
            clear g0
            obtain rfl := g1.1 _ rfl
            clear g1
            rw [if_pos (want_none rfl)]
            unfold Oper.wp
            go_simp
            exact hK _ _ ⟨fun _ h => Option.some.inj h, fun _ h => no_some h⟩ hS (eby rfl (Below.refl _ _))
        intro a u6 hS6 hts hd hkn hf
        obtain ⟨v17, e17, g17⟩ := hf 0 _ 17 (by decide) rfl rfl (fun _ => rfl)
        obtain ⟨v18, e18, g18⟩ := hf 1 _ 18 (by decide) rfl rfl (fun _ => rfl)
        obtain ⟨v19, e19, g19⟩ := hf 2 _ 19 (by decide) rfl rfl (fun _ => rfl)
        obtain ⟨v20, e20, g20⟩ := hf 3 _ 20 (by decide) rfl rfl (fun _ => rfl)
        obtain ⟨v21, e21, g21⟩ := hf 4 _ 21 (by decide) rfl rfl (fun _ => rfl)
        obtain ⟨v22, e22, g22⟩ := hf 5 _ 22 (by decide) rfl rfl (fun _ => rfl)
        obtain ⟨v23, e23, g23⟩ := hf 6 _ 23 (by decide) rfl rfl (fun _ => rfl)
        obtain ⟨v24, e24, g24⟩ := hf 7 _ 24 (by decide) rfl rfl (fun _ => rfl)
        obtain ⟨v25, e25, g25⟩ := hf 8 _ 25 (by decide) rfl rfl (fun _ => rfl)
        obtain ⟨v26, e26, g26⟩ := hf 9 _ 26 (by decide) rfl rfl (fun _ => rfl)
        obtain ⟨v27, e27, g27⟩ := hf 10 _ 27 (by decide) rfl rfl (fun _ => rfl)
        have hA := act_putsH [(17, v17), (18, v18), (19, v19), (20, v20), (21, v21), (22, v22), (23, v23), (24, v24), (25, v25), (26, v26), (27, v27)] hts hd hkn (by kernel_rfl) (by simp [e17, e18, e19, e20, e21, e22, e23, e24, e25, e26, e27])
        clear hf hts hd hkn e17 e18 e19 e20 e21 e22 e23 e24 e25 e26 e27
        obtain rfl := g17.1 _ rfl
        clear g17
        obtain rfl := g18.1 _ rfl
        clear g18
        obtain rfl := g19.1 _ rfl
        clear g19
        obtain rfl := g20.1 _ rfl
        clear g20
        obtain rfl := g21.1 _ rfl
        clear g21
        obtain rfl := g22.1 _ rfl
        clear g22
        obtain rfl := g23.1 _ rfl
        clear g23
        obtain rfl := g24.1 _ rfl
        clear g24
        obtain rfl := g25.1 _ rfl
        clear g25
        obtain rfl := g26.1 _ rfl
        clear g26
        obtain rfl := g27.1 _ rfl
        clear g27
        subst hA
        simp only [List.foldl, List.setIfInBounds_toArray, List.set_cons_zero, List.set_cons_succ]
        simp only [List.drop_succ_cons, List.drop_zero]
        clear hhas
        cases z with
        | false =>
          have HNO := hidd (HNO.out (.inr rfl))
          clear HYES
          have HS6 := hidd hS6
          clear hS6 hS
          go_wp2
          exact ⟨⟨k + 1, g, by omega, rfl, HS6.out, HNO.out⟩, by simp [intOf]; omega⟩
        | true =>
          have HYES := hidd (HYES.out rfl rfl)
          clear HNO
          obtain ⟨k1, hk1⟩ : ∃ k1, k + 1 = k1 := ⟨_, rfl⟩
          rw [hk1] at HYES
          have hk1n : k1 < n := by omega
          have hk1i : (k1 : Int) < (n : Int) := by omega
          have hcast : ((k : Int) + 1) = (k1 : Int) := by omega
          have hwk : IntKind.i64.wrap (k1 : Int) = (k1 : Int) := by rw [IntKind.wrap_i64]; omega
          have tg := hS6.out.thawed k1
          have cg := hS6.out.at_ k1 hk1n
          have HS7 := hidd (hS6.set k1)
          have HK1 := hidd hk1
          clear hS6 hS hk1
          go_wp2
          exact ⟨⟨k1, _, by have := HK1.out; omega, rfl, HS7.out, fun j => by rw [HYES.out, ← HK1.out]⟩, by have := HK1.out; simp [intOf]; omega⟩
    · have hks : s.size = k := by omega
      have HF : Hid (BlR n w (fun j => ∃ i, f i = true ∧ i < s.size ∧ p ((bs s).getD i 0) = true ∧ j = i + 1) (.returned (.slice (some ⟨q, 0, none⟩) n n)) wr) := ⟨hS.bel, _, _, g, rfl, Bls.of_row hS.out, fun j hj => by
        rw [hg]
        constructor
        · rintro ⟨i, q1, q2, q3, q4⟩; exact ⟨i, q2, by omega, q3, q4⟩
        · rintro ⟨i, q1, q2, q3, q4⟩; exact ⟨i, by omega, q1, q3, q4⟩⟩
      have hnlt : ¬ (k : Int) < (s.size : Int) := by omega
      clear hS hg hks
      go_wp2
      go_ret
      exact HF.out
end
end Go.Proofs.Ytdaaigkmlbpbgaa.Sy.Lg.Rn

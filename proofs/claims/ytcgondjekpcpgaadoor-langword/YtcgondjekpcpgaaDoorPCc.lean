/- The places as a rising list. -/
import Derived.Test.YtcgondjekpcpgaaDoorPCb
namespace Go.Proofs.YtcgondjekpcpgaaDoor.Sy.Lg
open Go.RowKit Go.Proofs.YtcgondjekpcpgaaDoor.Sy.Ap
set_option maxRecDepth 100000
set_option linter.unusedVariables false

def bitsL (p : Nat → Bool) : List Nat := (List.range 64).filter p
def lessB (p : Nat → Bool) (k : Nat) : Nat → Bool := fun i => p i && !(i == k)
theorem fst_some {p : Nat → Bool} (h : W p 0 ≠ 0) : ∃ k, Fst p k := by
  cases hf : (List.range 64).find? p with
  | none =>
    exfalso
    apply h
    rw [← W_zero 0]
    apply W_congr
    intro j hj
    have := List.find?_eq_none.1 hf j (List.mem_range.2 hj)
    simp only [Nat.mul_zero, Nat.zero_add]
    simpa [noB] using this
  | some k =>
    obtain ⟨h1, h2, h3⟩ := List.find?_range_eq_some.1 hf
    exact ⟨k, List.mem_range.1 h2, h1, fun j hj => by simpa using h3 j hj⟩
theorem bits_cons {p : Nat → Bool} {k : Nat} (h : Fst p k) : bitsL p = k :: bitsL (lessB p k) := by
  obtain ⟨h1, h2, h3⟩ := h
  have e : List.range 64 = List.range k ++ (k :: List.range' (k + 1) (63 - k)) := by
    have e1 : List.range' k (64 - k) = k :: List.range' (k + 1) (63 - k) := by
      rw [show 64 - k = (63 - k) + 1 from by omega, List.range'_succ]
    rw [← e1, List.range_eq_range', List.range_eq_range']
    have := @List.range'_append 0 k (64 - k) 1
    rw [show 0 + 1 * k = k from by omega, show k + (64 - k) = 64 from by omega] at this
    exact this.symm
  unfold bitsL
  have f1 : (List.range k).filter p = [] := List.filter_eq_nil_iff.2 (fun x hx => by rw [h3 x (List.mem_range.1 hx)]; simp)
  have f2 : (List.range k).filter (lessB p k) = [] := List.filter_eq_nil_iff.2 (fun x hx => by unfold lessB; rw [h3 x (List.mem_range.1 hx)]; simp)
  rw [e, List.filter_append, List.filter_append, f1, f2, List.nil_append, List.nil_append, List.filter_cons_of_pos h2, List.filter_cons_of_neg (by unfold lessB; simp)]
  congr 1
  apply List.filter_congr
  intro x hx
  have := (List.mem_range'_1.1 hx).1
  unfold lessB
  have e2 : (x == k) = false := by simp; omega
  rw [e2]
  simp
theorem bits_nil {p : Nat → Bool} (h : W p 0 = 0) : bitsL p = [] := by
  unfold bitsL
  rw [List.filter_eq_nil_iff]
  intro x hx
  rw [← W_zero 0] at h
  have := W_inj h x (List.mem_range.1 hx)
  simp only [Nat.mul_zero, Nat.zero_add] at this
  rw [this]
  simp [noB]
theorem bits_none {p : Nat → Bool} (h : noneB p) : bitsL p = [] := by
  unfold bitsL
  rw [List.filter_eq_nil_iff]
  intro x _
  rw [h x]
  simp
theorem bits_len (p : Nat → Bool) : (bitsL p).length ≤ 64 := by
  have := List.length_filter_le p (List.range 64)
  rw [List.length_range] at this
  exact this
/-! ### Its loop -/
structure LiS (w : World) (q : Nat) (v : Value) (u : World) : Prop where
  box : RowA u q 58 #[.int .i64 0, v]
  db : DB u
  bel : Below w.heap.size w u
  lt : q < w.heap.size
theorem LiS.below {w : World} {q : Nat} {v : Value} {u u' : World} (h : LiS w q v u) (hb : Below u.heap.size u u') : LiS w q v u' := ⟨h.box.below hb h.box.lt, h.db.below hb, h.bel.trans (hb.mono h.bel.size), h.lt⟩
def NewI (k : Nat) (z : Value) (u : World) : Prop := ∃ g, z = .slice (some ⟨g, 0, none⟩) 1 1 ∧ RowA u g 3 #[.int .i64 (k : Int)]
theorem NewI.below {k : Nat} {z : Value} {u u' : World} (h : NewI k z u) (hb : Below u.heap.size u u') : NewI k z u' := by
  obtain ⟨g, h1, h2⟩ := h
  exact ⟨g, h1, h2.below hb h2.lt⟩
def EbL (d : Option Nat) (u u' : World) : Prop := Below u.heap.size u u'
namespace Li
theorem eby {d : Option Nat} {u u' : World} (_ : true = true) (h : Below u.heap.size u u') : EbL d u u' := h
set_option linter.unusedVariables false in
def LiGV (q k : Nat) (lv v5 : Value) (t : Nat) : Option Value :=
  match t with
  | 1 => some (.pointer (some ⟨q, 0, none⟩))
  | 3 => some (lv)
  | 4 => some (.int .i64 0)
  | 5 => some (v5)
  | 20 => some (lv)
  | 21 => some (.pointer (some ⟨q, 0, none⟩))
  | 22 => some (.int .i64 0)
  | 23 => some (.int .i64 0)
  | 24 => some (.int .i64 0)
  | 25 => some (.int .i64 0)
  | 26 => some (v5)
  | 27 => some (.int .i64 (k : Int))
  | 28 => some (.int .i64 (k : Int))
  | _ => none
set_option linter.unusedVariables false in
def LiGP (q k : Nat) (lv v5 : Value) (t : Nat) : Option (Value → World → Prop) :=
  match t with
  | 29 => some (NewI k)
  | _ => none
def LiG (q k : Nat) (lv v5 : Value) (t : Nat) (v : Value) (u : World) : Prop := (∀ z9, LiGV q k lv v5 t = some z9 → v = z9) ∧ ∀ R, LiGP q k lv v5 t = some R → R v u
end Li
/-- A list of numbers in a row of one's own. -/
def LstR (w : World) (l : List Nat) (e : Ending) (w' : World) : Prop := Below w.heap.size w w' ∧ ∃ A c, e = .returned (.slice A l.length c) ∧ w'.ownsRow w.heap.size 3 1 (.slice A l.length c) l.length (i64s l)
theorem W_down {p : Nat → Bool} {k : Nat} (h : Fst p k) : W (lessB p k) 0 < W p 0 := by
  have e := W_pred h
  have hl := fst_low h
  have hpos : 0 < wN p 0 := by
    rcases Nat.eq_zero_or_pos (wN p 0) with q | q
    · have := hl.1; rw [q] at this; simp at this
    · exact q
  have hlt := wN_lt p 0
  have e2 : W p 0 - 1 = ((wN p 0 - 1 : Nat) : Int) := by rw [W_eq]; omega
  rw [e2, W_eq, u64_and_nat _ _ hlt (by omega)] at e
  show W (fun i => p i && !(i == k)) 0 < _
  rw [← e, W_eq]
  have := Nat.and_le_right (n := wN p 0) (m := wN p 0 - 1)
  omega
namespace Li
set_option maxHeartbeats 2000000 in
theorem list_any (v : Value) (p : Nat → Bool) (w : World) (h : Pl w v p) (hD : DB w) : Calls Tryd.prog 33 #[v] w fun e w' => LstR w (bitsL p) e w' := by
  obtain ⟨j0, hj0i, hy0, hy1, hy2⟩ := info_parts int_info
  rcases h.2 with ⟨rfl, hno⟩ | ⟨b, c, i, rfl, hc, hb, hcell, hi⟩
  · have R := RowA.new w 58 #[.int .i64 0, .slice none 0 0]
    have x1 : (w.alloc (.cells #[.int .i64 0, .slice none 0 0] 58)).cell? ⟨w.heap.size, 1, none⟩ = some (.slice none 0 0) := R.at_ rfl
    have HN := hidd hno
    clear R hno h hD
    go_enter Tryd.func33, Tryd.ntmps33
    go_wp2
    go_loopw [3, 9] (fun s3 s9 wr => s3 = .slice none 0 0 ∧ s9 = .int .i64 0 ∧ wr = w.alloc (.cells #[.int .i64 0, .slice none 0 0] 58)) (fun _ _ _ => 0)
    case atStart => exact ⟨rfl, rfl, rfl⟩
    case round =>
      obtain ⟨rfl, rfl, rfl⟩ := hrel
      go_wp2
      go_ret
      refine ⟨(Below.refl _ _).alloc (Nat.le_refl _) _, none, 0, by rw [bits_none HN.out]; rfl, by rw [bits_none HN.out]; exact World.ownsRow_nil _ _ _ _⟩
  · have R := RowA.new w 58 #[.int .i64 0, .slice (some ⟨b, 0, none⟩) 1 c]
    have B1 : Below w.heap.size w (w.alloc (.cells #[.int .i64 0, .slice (some ⟨b, 0, none⟩) 1 c] 58)) := (Below.refl _ _).alloc (Nat.le_refl _) _
    have D1 := hD.below B1
    have x1 : (w.alloc (.cells #[.int .i64 0, .slice (some ⟨b, 0, none⟩) 1 c] 58)).cell? ⟨w.heap.size, 1, none⟩ = some (.slice (some ⟨b, 0, none⟩) 1 c) := R.at_ rfl
    have x2 : (w.alloc (.cells #[.int .i64 0, .slice (some ⟨b, 0, none⟩) 1 c] 58)).cell? ⟨b, 0, none⟩ = some (.int .u64 (W p 0)) := by rw [B1.cell (by exact hb)]; exact hcell
    have hsz : (w.alloc (.cells #[.int .i64 0, .slice (some ⟨b, 0, none⟩) 1 c] 58)).heap.size = w.heap.size + 1 := World.size_alloc ..
    clear h hD hcell hi
    go_enter Tryd.func33, Tryd.ntmps33
    go_upto_region 1 with fail
    obtain ⟨w1, hw1⟩ : ∃ w1, w1 = w.alloc (.cells #[.int .i64 0, .slice (some ⟨b, 0, none⟩) 1 c] 58) := ⟨_, rfl⟩
    rw [← hw1] at R B1 D1 x1 x2 hsz
    rw [← hw1]
    obtain ⟨q, hq⟩ : ∃ q, q = w.heap.size := ⟨_, rfl⟩
    rw [← hq] at R x1 hsz
    rw [← hq]
    have S1 : LiS w1 q (.slice (some ⟨b, 0, none⟩) 1 c) w1 := ⟨R, D1, Below.refl _ _, by omega⟩
    have HS1 := hidd S1
    have HB1 := hidd B1
    have HQ := hidd hq
    clear R B1 D1 S1 hw1 hq
    go_wp2
    go_loopw [3, 9] (fun s3 s9 wr => (s3 = .slice none 0 0 ∧ s9 = .int .i64 0 ∧ w1 = wr) ∨ (s9 = .int .i64 1 ∧ Below w1.heap.size w1 wr ∧ wr.ownsRow w1.heap.size 3 1 s3 (bitsL p).length (i64s (bitsL p)))) (fun _ s9 _ => 1 - (intOf s9).toNat)
    case atStart => exact .inl ⟨rfl, rfl, rfl⟩
    case round =>
      rcases hrel with ⟨rfl, rfl, rfl⟩ | ⟨rfl, hbe, hown⟩
      · have HI0 : Hid ((w1.ownsRow w1.heap.size 3 1 (.slice none 0 0) 0 (i64s [])) ∧ [] ++ bitsL p = bitsL p) := ⟨World.ownsRow_nil _ _ _ _, rfl⟩
        go_wp2
        go_loopw [3, 5] (fun s3 s5 wr => ∃ (pc : Nat → Bool) (L : List Nat), s5 = .int .u64 (W pc 0) ∧ L ++ bitsL pc = bitsL p ∧ wr.ownsRow w1.heap.size 3 1 s3 L.length (i64s L) ∧ LiS w1 q (.slice (some ⟨b, 0, none⟩) 1 c) wr) (fun _ s5 _ => (intOf s5).toNat)
        case atStart => exact ⟨p, [], rfl, rfl, World.ownsRow_nil _ _ _ _, HS1.out⟩
        case round =>
          clear HI0 x1 x2
          obtain ⟨pc, L, rfl, hL, hown, hS⟩ := hrel
          obtain ⟨A, ca, rfl⟩ := own_form hown
          by_cases hz : W pc 0 = 0
          · rw [bits_nil hz, List.append_nil] at hL
            rw [hz]
            have HOW : Hid (Below w1.heap.size w1 wr ∧ wr.ownsRow w1.heap.size 3 1 (.slice A L.length ca) (bitsL p).length (i64s (bitsL p))) := ⟨hS.bel, by rw [← hL]; exact hown⟩
            clear hown hS hL hz
            go_wp2
            exact ⟨.inr ⟨rfl, HOW.out⟩, by simp [intOf]⟩
          · obtain ⟨k, hF⟩ := fst_some hz
            have hb1 := bits_cons hF
            have hn1 : (W pc 0 != 0) = true := by simp [hz]
            have hn2 : decide (W pc 0 = 0) = false := by simp [hz]
            have hwr : IntKind.u64.wrap (W pc 0 - 1) = W pc 0 - 1 := by
              have h1 := W_nonneg pc 0
              have h2 := W_lt pc 0
              rw [IntKind.wrap_u64]
              omega
            have hpr := W_pred hF
            have hdn := W_down hF
            have hk64 := hF.1
            have hlen : L.length ≤ 64 := by
              have := congrArg List.length hL
              rw [List.length_append] at this
              have := bits_len p
              omega
            have HL := hidd hL
            have HB1' := hidd hb1
            have HO := hidd hown
            have HSS := hidd hS
            clear hL hb1 hown hz
            go_upto_region 7 with fail
            refine wp_region_slotsH 10 (by decide) (by kernel_rfl) (by kernel_rfl) (fun _ _ => true) (LiS wr q (.slice (some ⟨b, 0, none⟩) 1 c)) (LiG q k (.slice A L.length ca) (.int .u64 (W pc 0))) EbL (by kernel_rfl) (by kernel_rfl) (by kernel_rfl) (by kernel_rfl) ?_ (LiS.below ⟨hS.box, hS.db, Below.refl _ _, hS.box.lt⟩ (bel_drew (Below.refl _ _))) [1, 3, 4, 5] (by kernel_rfl) ?_ ?_ ?_
            · intro t dd v u u' _ _ h hE
              refine ⟨h.1, fun R hR => ?_⟩
              have hh := h.2 R hR
              unfold LiGP at hR
              split at hR
              · cases hR; exact hh.below hE
              · cases hR
            · intro u _
              refine ⟨⟨_, rfl, ?_⟩, ⟨_, rfl, ?_⟩, ⟨_, rfl, ?_⟩, ⟨_, rfl, ?_⟩, trivial⟩ <;> exact ⟨fun _ h => Option.some.inj h, fun _ h => no_some h⟩
            · refine ⟨?_, ?_, ?_, ?_, ?_, ?_, ?_, ?_, ?_, ?_, trivial⟩
              · intro a u hS hr K hK
                obtain ⟨⟨vl0, e0, g0⟩, -⟩ := hr
                obtain rfl := g0.1 _ rfl
                clear g0
                rw [if_pos (want_none rfl)]
                unfold Oper.wp
                go_simp
                exact hK _ _ ⟨fun _ h => Option.some.inj h, fun _ h => no_some h⟩ hS (eby rfl (Below.refl _ _))
              · intro a u hS hr K hK
                obtain ⟨⟨vl0, e0, g0⟩, -⟩ := hr
                obtain rfl := g0.1 _ rfl
                clear g0
                rw [if_pos (want_none rfl)]
                unfold Oper.wp
                go_simp
                exact hK _ _ ⟨fun _ h => Option.some.inj h, fun _ h => no_some h⟩ hS (eby rfl (Below.refl _ _))
              · intro a u hS hr K hK
                obtain ⟨⟨vl0, e0, g0⟩, -⟩ := hr
                obtain rfl := g0.1 _ rfl
                clear g0
                rw [if_pos (want_none rfl)]
                have d0 := hS.box.at_ (k := 0) rfl
                unfold Oper.wp
                go_simp
                exact hK _ _ ⟨fun _ h => Option.some.inj h, fun _ h => no_some h⟩ hS (eby rfl (Below.refl _ _))
              · intro a u hS hr K hK
                obtain ⟨⟨vl0, e0, g0⟩, -⟩ := hr
                obtain rfl := g0.1 _ rfl
                clear g0
                rw [if_pos (want_none rfl)]
                unfold Oper.wp
                go_simp
                exact hK _ _ ⟨fun _ h => Option.some.inj h, fun _ h => no_some h⟩ hS (eby rfl (Below.refl _ _))
              · intro a u hS hr K hK
                obtain ⟨⟨vl0, e0, g0⟩, ⟨vl1, e1, g1⟩, -⟩ := hr
                obtain rfl := g0.1 _ rfl
                clear g0
                obtain rfl := g1.1 _ rfl
                clear g1
                rw [if_pos (want_none rfl)]
                unfold Oper.wp
                go_simp
                exact hK _ _ ⟨fun _ h => Option.some.inj h, fun _ h => no_some h⟩ hS (eby rfl (Below.refl _ _))
              · intro a u hS hr K hK
                obtain ⟨⟨vl0, e0, g0⟩, -⟩ := hr
                obtain rfl := g0.1 _ rfl
                clear g0
                rw [if_pos (want_none rfl)]
                unfold Oper.wp
                go_simp
                exact hK _ _ ⟨fun _ h => Option.some.inj h, fun _ h => no_some h⟩ hS (eby rfl (Below.refl _ _))
              · intro a u hS hr K hK
                obtain ⟨⟨vl0, e0, g0⟩, -⟩ := hr
                obtain rfl := g0.1 _ rfl
                clear g0
                rw [if_pos (want_none rfl)]
                unfold Oper.wp
                go_simp
                exact hK _ _ ⟨fun _ h => Option.some.inj h, fun _ h => no_some h⟩ hS (eby rfl (Below.refl _ _))
              · intro a u hS hr K hK
                obtain ⟨⟨vl0, e0, g0⟩, -⟩ := hr
                obtain rfl := g0.1 _ rfl
                clear g0
                rw [if_pos (want_none rfl)]
                unfold Oper.wp
                go_simp
                refine (trail_any pc k hF u hS.db).mono ?_
                rintro e u1 ⟨rfl, rfl⟩
                exact hK _ _ ⟨fun _ h => Option.some.inj h, fun _ h => no_some h⟩ hS (eby rfl (Below.refl _ _))
              · intro a u hS hr K hK
                obtain ⟨⟨vl0, e0, g0⟩, ⟨vl1, e1, g1⟩, -⟩ := hr
                obtain rfl := g0.1 _ rfl
                clear g0
                obtain rfl := g1.1 _ rfl
                clear g1
                rw [if_pos (want_none rfl)]
                have z3 : IntKind.i64.wrap (k : Int) = (k : Int) := IntWalk.i64_in _ (by omega)
                unfold Oper.wp
                go_simp
                exact hK _ _ ⟨fun _ h => Option.some.inj h, fun _ h => no_some h⟩ hS (eby rfl (Below.refl _ _))
              · intro a u hS hr K hK
                obtain ⟨⟨vl0, e0, g0⟩, -⟩ := hr
                obtain rfl := g0.1 _ rfl
                clear g0
                rw [if_pos (want_none rfl)]
                unfold Oper.wp
                go_simp
                exact hK _ _ ⟨fun _ h => no_some h, fun _ h => spec_ok h ⟨_, rfl, RowA.new _ _ _⟩⟩ (hS.below ((Below.refl _ _).alloc (Nat.le_refl _) _)) (eby rfl ((Below.refl _ _).alloc (Nat.le_refl _) _))
            intro a u2 hS2 hts hd hkn hf
            obtain ⟨v20, e20, g20⟩ := hf 0 _ 20 (by decide) rfl rfl (fun _ => rfl)
            obtain ⟨v21, e21, g21⟩ := hf 1 _ 21 (by decide) rfl rfl (fun _ => rfl)
            obtain ⟨v22, e22, g22⟩ := hf 2 _ 22 (by decide) rfl rfl (fun _ => rfl)
            obtain ⟨v23, e23, g23⟩ := hf 3 _ 23 (by decide) rfl rfl (fun _ => rfl)
            obtain ⟨v24, e24, g24⟩ := hf 4 _ 24 (by decide) rfl rfl (fun _ => rfl)
            obtain ⟨v25, e25, g25⟩ := hf 5 _ 25 (by decide) rfl rfl (fun _ => rfl)
            obtain ⟨v26, e26, g26⟩ := hf 6 _ 26 (by decide) rfl rfl (fun _ => rfl)
            obtain ⟨v27, e27, g27⟩ := hf 7 _ 27 (by decide) rfl rfl (fun _ => rfl)
            obtain ⟨v28, e28, g28⟩ := hf 8 _ 28 (by decide) rfl rfl (fun _ => rfl)
            obtain ⟨v29, e29, g29⟩ := hf 9 _ 29 (by decide) rfl rfl (fun _ => rfl)
            have hA := act_putsH [(20, v20), (21, v21), (22, v22), (23, v23), (24, v24), (25, v25), (26, v26), (27, v27), (28, v28), (29, v29)] hts hd hkn (by kernel_rfl) (by simp [e20, e21, e22, e23, e24, e25, e26, e27, e28, e29])
            clear hf hts hd hkn e20 e21 e22 e23 e24 e25 e26 e27 e28 e29
            obtain rfl := g20.1 _ rfl
            clear g20
            obtain rfl := g21.1 _ rfl
            clear g21
            obtain rfl := g22.1 _ rfl
            clear g22
            obtain rfl := g23.1 _ rfl
            clear g23
            obtain rfl := g24.1 _ rfl
            clear g24
            obtain rfl := g25.1 _ rfl
            clear g25
            obtain rfl := g26.1 _ rfl
            clear g26
            obtain rfl := g27.1 _ rfl
            clear g27
            obtain rfl := g28.1 _ rfl
            clear g28
            replace g29 := g29.2 _ rfl
            subst hA
            simp only [List.foldl, List.setIfInBounds_toArray, List.set_cons_zero, List.set_cons_succ]
            simp only [List.drop_succ_cons, List.drop_zero]
            obtain ⟨g9, rfl, R9⟩ := g29
            have hown2 := own_below HO.out hS2.bel (Nat.le_refl _)
            have hnews := World.news_of_block R9
            have hbase : w1.heap.size ≤ u2.heap.size := Nat.le_trans HSS.out.bel.size hS2.bel.size
            have HS2 := hidd hS2
            clear hS2 hS
            go_upto_region 6 with (at_builtin; refine wpList_append_lies _ rfl _ _ _ rfl w1.heap.size 3 j0 (.int .i64 0) 1 8 Tryd.underlying30 hj0i hy0 hy1 hy2 rfl (by omega) _ L.length (i64s L) rfl hown2 ⟨g9, 0, none⟩ 1 1 [.int .i64 (k : Int)] rfl rfl hnews (by simp [Value.oneCell']) (by omega) (by simp only [maxLen]; omega) (by omega) hbase u2.heap.size rfl ?_; intro g8 cap8 w8 hown8 hgrow hat hlt8; refine Hid.out ?_)
            have HFIN : Hid (w8.ownsRow w1.heap.size 3 1 (.slice (some ⟨g8, 0, none⟩) (L.length + 1) cap8) (L ++ [k]).length (i64s (L ++ [k])) ∧ LiS w1 q (.slice (some ⟨b, 0, none⟩) 1 c) w8 ∧ (L ++ [k]) ++ bitsL (lessB pc k) = bitsL p) := by
              refine ⟨?_, ⟨?_, ?_, ?_, HSS.out.lt⟩, ?_⟩
              · rw [List.length_append, List.length_singleton, ← i64s_snoc]
                exact hown8
              · exact (hgrow.block q HS2.out.box.lt (fun e => own_neR hown2 HS2.out.box (by decide) e.symm)).trans HS2.out.box
              · exact HS2.out.db.kept (hgrow.block _ HS2.out.db.lt (fun e => by
                  have h1 := (hown2.lt _ e.symm).1
                  have h2 := HSS.out.lt
                  have h3 : DB w1 := HS1.out.db
                  have h4 := h3.lt
                  omega))
              · exact bel_row (HSS.out.bel.trans (HS2.out.bel.mono HSS.out.bel.size)) hbase hgrow (fun k hk => (hown2.lt k hk).1)
              · rw [List.append_assoc]
                show L ++ (k :: bitsL (lessB pc k)) = _
                rw [← HB1'.out]
                exact HL.out
            clear hown2 hnews hbase hown8 hgrow hat hlt8 R9 HS2 HSS HO
            refine Lib.hid ?_
            have hpr2 : bits BinOp.and IntKind.u64 (W pc 0) (W pc 0 - 1) = W (lessB pc k) 0 := hpr
            clear hpr
            go_wp2
            refine ⟨⟨lessB pc k, L ++ [k], rfl, HFIN.out.2.2, ?_, HFIN.out.2.1⟩, ?_⟩
            · exact HFIN.out.1
            · have h1 := W_nonneg (lessB pc k) 0
              have h2 := W_nonneg pc 0
              simp [intOf]
              omega
      · obtain ⟨A, ca, rfl⟩ := own_form hown
        have HOW := hidd hown
        have HBE := hidd hbe
        clear hown hbe
        go_wp2
        go_ret
        refine ⟨HB1.out.trans (HBE.out.mono HB1.out.size), A, ca, rfl, own_less HOW.out HB1.out.size⟩
end Li
end Go.Proofs.YtcgondjekpcpgaaDoor.Sy.Lg

/- A set as it stands in a pattern: the landed function. -/
import Derived.Test.YtghjkbjpdjlddaaDoorDc
import Derived.Test.YtghjkbjpdjlddaaDoorM1
import Derived.Test.YtghjkbjpdjlddaaDoorRr
import Derived.BigQuiet
namespace Go.Proofs.YtghjkbjpdjlddaaDoor.Sy
open Go.RowKit
set_option maxRecDepth 100000
set_option linter.unusedVariables false

theorem eqB_iff (p q : Nat → Bool) : eqB p q = true ↔ ∀ b, b < 256 → p b = q b := by
  refine ⟨fun h b hb => ?_, eqB_true⟩
  unfold eqB at h
  obtain ⟨h0, h1, h2, h3⟩ := of_decide_eq_true h
  have hb' : b = 64 * (b / 64) + b % 64 := by omega
  have hm : b % 64 < 64 := Nat.mod_lt _ (by omega)
  have hq : b / 64 = 0 ∨ b / 64 = 1 ∨ b / 64 = 2 ∨ b / 64 = 3 := by omega
  rw [hb']
  rcases hq with e | e | e | e <;> rw [e]
  · exact W_inj h0 _ hm
  · exact W_inj h1 _ hm
  · exact W_inj h2 _ hm
  · exact W_inj h3 _ hm
theorem eqDot_eq (p : Nat → Bool) : eqB p (notB (inB [10])) = eqDot p := by
  rw [Bool.eq_iff_iff, eqB_iff]
  unfold eqDot
  rw [List.all_eq_true]
  have e : ∀ x, notB (inB [10]) x = dotS x := fun x => by simp [notB, inB, dotS]
  constructor
  · intro h x hx
    rw [h x (List.mem_range.1 hx), e]
    simp
  · intro h b hb
    have := h b (List.mem_range.2 hb)
    rw [e]
    simpa using this
/-- A row of one byte. -/
def By (xs : List Int) (v : Value) (u : World) : Prop := ∃ A c, v = .slice A xs.length c ∧ Bts u u.heap.size A xs
theorem By.below {xs : List Int} {v : Value} {u u' : World} (h : By xs v u) (hb : Below u.heap.size u u') : By xs v u' := by
  obtain ⟨A, c, e, hB⟩ := h
  exact ⟨A, c, e, (hB.below hb).more hb.size⟩
theorem By.one (c : Int) (h0 : 0 ≤ c) (h1 : c ≤ 255) (u : World) : By [c] (.slice (some ⟨u.heap.size, 0, none⟩) 1 1) (u.alloc (.cells #[.int .u8 c] 5)) := ⟨_, 1, rfl, bts_one u c h0 h1⟩
theorem of_by {xs : List Int} {v : Value} {u : World} (hl : xs.length ≤ 1000000) (h : By xs v u) : Calls Tryd.prog 29 #[v] u fun e w' => e = .returned (.agg #[.int .u64 (W (inB xs) 0), .int .u64 (W (inB xs) 1), .int .u64 (W (inB xs) 2), .int .u64 (W (inB xs) 3)]) ∧ Below u.heap.size u w' := by
  obtain ⟨A, c, rfl, hB⟩ := h
  exact of_any A c xs u hB hl
structure SdS (w : World) (g : Nat) (p : Nat → Bool) (u : World) : Prop where
  box : Row4 u g p
  bel : Below w.heap.size w u
theorem SdS.below {w : World} {g : Nat} {p : Nat → Bool} {u u' : World} (h : SdS w g p u) (hb : Below u.heap.size u u') : SdS w g p u' := ⟨h.box.below hb h.box.lt, h.bel.trans (hb.mono h.bel.size)⟩
set_option linter.unusedVariables false in
def SdGV (g : Nat) (p : Nat → Bool) (t : Nat) : Option Value :=
  match t with
  | 1 => some (.pointer (some ⟨g, 0, none⟩))
  | 28 => some (.agg #[.int .u64 (W (p) 0), .int .u64 (W (p) 1), .int .u64 (W (p) 2), .int .u64 (W (p) 3)])
  | 30 => some (.agg #[.int .u64 (W (inB [10]) 0), .int .u64 (W (inB [10]) 1), .int .u64 (W (inB [10]) 2), .int .u64 (W (inB [10]) 3)])
  | 31 => some (.agg #[.int .u64 (W (notB (inB [10])) 0), .int .u64 (W (notB (inB [10])) 1), .int .u64 (W (notB (inB [10])) 2), .int .u64 (W (notB (inB [10])) 3)])
  | 32 => some (.bool (eqB p (notB (inB [10]))))
  | _ => none
set_option linter.unusedVariables false in
def SdGP (g : Nat) (p : Nat → Bool) (t : Nat) : Option (Value → World → Prop) :=
  match t with
  | 29 => some (By [10])
  | _ => none
def SdG (g : Nat) (p : Nat → Bool) (t : Nat) (v : Value) (u : World) : Prop := (∀ z9, SdGV g p t = some z9 → v = z9) ∧ ∀ R, SdGP g p t = some R → R v u
/-- What a call may turn, as whoever holds nothing of it sees it. -/
theorem fr_bel {b B : Nat} {v v' : Value} {w w' : World} (f : Fr b v v' w w') (hb : B ≤ b) (hv : ∀ k, v.ownBlock = some k → B ≤ k) (hB : B ≤ w.heap.size) : Below B w w' :=
  ⟨f.os, f.tape, f.output, f.size, fun k hk => f.block k (by omega) (by omega) (fun e => by have := hv k e; omega)⟩
theorem WrA_more {w w' : World} {B b : Nat} {v : Value} {t : List Nat} (h : WrA w B b v t) (hb : Below w.heap.size w w') : WrA w' B b v t := by
  obtain ⟨p, hp, h⟩ := h
  exact ⟨p, hp, ⟨own_below h.own hb (Nat.le_refl _), h.far, h.nil⟩, (hb.block b (lt_of_blk h.blk)).trans h.blk⟩
theorem WrA_own {w : World} {B b : Nat} {v : Value} {t : List Nat} (h : WrA w B b v t) : ∀ k, v.ownBlock = some k → B ≤ k := by
  obtain ⟨p, hp, h⟩ := h
  exact fun k hk => (h.own.lt k hk).1
theorem WrA_lt {w : World} {B b : Nat} {v : Value} {t : List Nat} (h : WrA w B b v t) : b < w.heap.size := by
  obtain ⟨p, hp, h⟩ := h
  exact lt_of_blk h.blk
theorem WrA_new {w : World} {B b : Nat} {v : Value} {t : List Nat} (h : WrA w B b v t) : v.ownBlock ≠ some w.heap.size := by
  obtain ⟨p, hp, h⟩ := h
  exact fun e => by have := (h.own.lt _ e).2; omega
set_option maxHeartbeats 4000000 in
theorem pset_any (p : Nat → Bool) (w : World) : Calls Tryd.prog 15 #[.agg #[.int .u64 (W (p) 0), .int .u64 (W (p) 1), .int .u64 (W (p) 2), .int .u64 (W (p) 3)]] w fun e w' => TxtR (setT p) w e w' := by
  have HDQ := hidd (eqDot_eq p)
  go_enter Tryd.func15, Tryd.ntmps15
  go_wp2_with fail
  have R0 := Row4.new w p
  refine (spans_any p _).mono ?_
  rintro e w1 ⟨v, rfl, hown, hb1⟩
  obtain ⟨A, c, rfl, hP⟩ := Prs.of_own hown
  have R1 : Row4 w1 w.heap.size p := R0.below hb1 R0.lt
  have hbel := bel1 hb1
  have HP : Hid (Prs w1 w1.heap.size A (spn p)) := hP
  obtain ⟨n, hn⟩ : ∃ n, (spn p).length = n := ⟨_, rfl⟩
  change (spansL (lstB p 256)).length = n at hn
  rw [hn]
  have HN : Hid ((spn p).length = n) := hn
  have HSP := hidd (spn_at p)
  clear hown hb1 R0 hP hn
  by_cases h1 : n = 1
  · have hn1 : ((n : Int) == 1) = true := by simp; omega
    have hn0 : (0 : Int) < (n : Int) := by omega
    have HN1 := hidd h1
    obtain ⟨g, off, rfl, hg, x0, x1⟩ := HP.out.at_ (k := 0) (by have := HN.out; omega)
    obtain ⟨ab, hab⟩ : ∃ ab, (spn p).getD 0 (0, 0) = ab := ⟨_, rfl⟩
    have hm : ab ∈ spn p := by rw [← hab, List.getD_eq_getElem?_getD, List.getElem?_eq_getElem (by have := HN.out; omega)]; exact List.getElem_mem _
    obtain ⟨q0, q1, q2⟩ := HSP.out ab hm
    rw [hab] at x0 x1
    rw [Nat.zero_mul, Nat.add_zero] at x0 x1
    obtain ⟨a, b⟩ := ab
    obtain ⟨a, rfl⟩ : ∃ a' : Nat, a = (a' : Int) := ⟨a.toNat, by simp at q0; omega⟩
    obtain ⟨b, rfl⟩ : ∃ b' : Nat, b = (b' : Int) := ⟨b.toNat, by simp at q0 q1; omega⟩
    simp only at q0 q1 q2 x0 x1
    have HAB := hidd hab
    clear hm hab h1
    by_cases hq : a = b
    · subst hq
      have HT : Hid (setT p = byteT a) := by
        show _ = _
        unfold setT
        rw [if_pos ⟨HN.out.trans HN1.out, by rw [HAB.out]⟩, HAB.out]
        simp
      have heq : ((a : Int) == (a : Int)) = true := by simp
      go_wp2_with fail
      go_quiet (fail)
      go_wp2_with fail
      refine (pbyte_any a (by omega) _).mono ?_
      rintro e w2 ⟨s, rfl, hs, hb2⟩
      have HS := hidd (hs.trans HT.out.symm)
      have HB := hidd ((bel_drewN hbel _).trans (hb2.mono hbel.size))
      clear hs
      go_wp2
      go_ret
      exact ⟨s, rfl, HS.out, HB.out⟩
    · have heq : ((a : Int) == (b : Int)) = false := by simp; omega
      have HT : Hid (setT p = if eqDot p then [46] else 91 :: ((spn p).flatMap spanT ++ [93])) := by
        show _ = _
        unfold setT
        rw [if_neg (fun h => by rw [HAB.out] at h; simp only at h; omega)]
      clear hq
      go_wp2_with fail
      go_quiet (fail)
      go_wp2_with fail
      refine wp_region_slots (SdS w1 w.heap.size p) (SdG w.heap.size p) (by kernel_rfl) (by kernel_rfl) (by kernel_rfl) ?_ ⟨R1, bel_drew (bel_drewN (Below.refl _ _) _)⟩ [1] (by kernel_rfl) ?_ ?_ ?_
      · intro t v u u' h hb
        refine ⟨h.1, fun R hR => ?_⟩
        have hh := h.2 R hR
        unfold SdGP at hR
        split at hR
        · cases hR; exact hh.below hb
        · cases hR
      · intro u _
        refine ⟨⟨_, rfl, ?_⟩, trivial⟩
        exact ⟨fun _ h => Option.some.inj h, fun _ h => no_some h⟩
      · refine ⟨?_, ?_, ?_, ?_, ?_, trivial⟩
        · intro a u hS hr K hK
          obtain ⟨⟨vl0, e0, g0⟩, -⟩ := hr
          obtain rfl := g0.1 _ rfl
          clear g0
          rw [if_pos (want_none rfl)]
          obtain ⟨r0, r1, r2, r3⟩ := hS.box.cells
          unfold Oper.wp
          go_simp
          exact hK _ _ ⟨fun _ h => Option.some.inj h, fun _ h => no_some h⟩ hS (Below.refl _ _)
        · intro a u hS hr K hK
          rw [if_pos (want_none rfl)]
          unfold Oper.wp
          go_simp
          exact hK _ _ ⟨fun _ h => no_some h, fun _ h => spec_ok h (By.one 10 (by omega) (by omega) _)⟩ (hS.below ((Below.refl _ _).alloc (Nat.le_refl _) _)) ((Below.refl _ _).alloc (Nat.le_refl _) _)
        · intro a u hS hr K hK
          obtain ⟨⟨vl0, e0, g0⟩, -⟩ := hr
          replace g0 := g0.2 _ rfl
          rw [if_pos (want_none rfl)]
          unfold Oper.wp
          go_simp
          refine (of_by (by simp) g0).mono ?_
          rintro e u1 ⟨rfl, hb⟩
          exact hK _ _ ⟨fun _ h => Option.some.inj h, fun _ h => no_some h⟩ (hS.below hb) hb
        · intro a u hS hr K hK
          obtain ⟨⟨vl0, e0, g0⟩, -⟩ := hr
          obtain rfl := g0.1 _ rfl
          clear g0
          rw [if_pos (want_none rfl)]
          unfold Oper.wp
          go_simp
          refine (not_any _ _).mono ?_
          rintro e u1 ⟨rfl, hb⟩
          exact hK _ _ ⟨fun _ h => Option.some.inj h, fun _ h => no_some h⟩ (hS.below hb) hb
        · intro a u hS hr K hK
          obtain ⟨⟨vl0, e0, g0⟩, ⟨vl1, e1, g1⟩, -⟩ := hr
          obtain rfl := g0.1 _ rfl
          clear g0
          obtain rfl := g1.1 _ rfl
          clear g1
          rw [if_pos (want_none rfl)]
          have z1 := set_eql p (notB (inB [10]))
          unfold Oper.wp
          go_simp
          exact hK _ _ ⟨fun _ h => Option.some.inj h, fun _ h => no_some h⟩ hS (Below.refl _ _)
      intro a u hS hts hd hkn hf
      have D2 := hbel.trans (hS.bel.mono hbel.size)
      have HB2 := hidd hS.bel
      obtain ⟨v28, e28, g28⟩ := hf 0 _ 28 rfl rfl
      obtain ⟨v29, e29, g29⟩ := hf 1 _ 29 rfl rfl
      obtain ⟨v30, e30, g30⟩ := hf 2 _ 30 rfl rfl
      obtain ⟨v31, e31, g31⟩ := hf 3 _ 31 rfl rfl
      obtain ⟨v32, e32, g32⟩ := hf 4 _ 32 rfl rfl
      have hA := act_puts [(28, v28), (29, v29), (30, v30), (31, v31), (32, v32)] hts hd hkn (by kernel_rfl) (by simp [e28, e29, e30, e31, e32])
      clear hf hts hd hkn e28 e29 e30 e31 e32
      obtain rfl := g28.1 _ rfl
      clear g28
      replace g29 := g29.2 _ rfl
      obtain rfl := g30.1 _ rfl
      clear g30
      obtain rfl := g31.1 _ rfl
      clear g31
      obtain rfl := g32.1 _ rfl
      clear g32
      subst hA
      simp only [List.foldl, List.setIfInBounds_toArray, List.set_cons_zero, List.set_cons_succ]
      simp only [Exit.then]
      apply_assumption
      rw [HDQ.out]
      cases hdd : eqDot p with
      | true =>
        have HR : Hid (setT p = [46]) := by show _ = _; rw [HT.out, if_pos hdd]
        clear HDQ HT
        go_wp2
        go_ret
        exact ⟨_, rfl, by rw [HR.out]; decide, D2⟩
      | false =>
        have HR : Hid (setT p = 91 :: ((spn p).flatMap spanT ++ [93])) := by show _ = _; rw [HT.out, if_neg (by rw [hdd]; exact Bool.false_ne_true)]
        have hPu := hidd (HP.out.below HB2.out)
        have hsz := HB2.out.size
        have D2' := hidd D2
        clear HDQ HT hdd D2 HB2
        have hW0 : WrA (u.alloc (.cells #[.pointer none, .slice none 0 0] 51)) u.heap.size u.heap.size (.slice none 0 0) [] := ⟨.pointer none, .inl rfl, ⟨World.ownsRow_nil _ _ _ _, nofun, fun _ => rfl⟩, heap_new u _⟩
        have hz0 : u.heap.size ≤ (u.alloc (.cells #[.pointer none, .slice none 0 0] 51)).heap.size := by rw [World.size_alloc]; omega
        have hb0 := (Below.refl u.heap.size u).alloc (Nat.le_refl _) (.cells #[.pointer none, .slice none 0 0] 51)
        go_wp2_with fail
        generalize u.alloc (.cells #[.pointer none, .slice none 0 0] 51) = u2 at *
        refine (byteWA hW0 91 (by simp) hz0).mono ?_
        rintro e u3 ⟨rfl, v3, hW3, f3⟩
        have D3 := hb0.trans (fr_bel f3 (Nat.le_refl _) nofun hz0)
        have hn256 : n ≤ 256 := by rw [← HN.out]; exact spn_len p
        clear hW0 hz0 hb0 f3
        go_wp2
        go_loopw [36] (fun s36 wr => ∃ (i : Nat) (v : Value), s36 = .int .i64 (i : Int) ∧ i ≤ n ∧ WrA wr u.heap.size u.heap.size v (91 :: ((spn p).take i).flatMap spanT) ∧ Below u.heap.size u wr) (fun s36 _ => n - (intOf s36).toNat)
        case atStart => exact ⟨0, v3, rfl, Nat.zero_le _, hW3, D3⟩
        case round =>
          obtain ⟨i, v, rfl, hin, hWr, D4⟩ := hrel
          clear hW3 D3
          by_cases hlt : i < n
          · have hii : (i : Int) < (n : Int) := by omega
            obtain ⟨g4, o4, hA4, hg4, y0, y1⟩ := (hPu.out.below (D4.mono hsz)).at_ (k := i) (by rw [HN.out]; exact hlt)
            cases hA4
            obtain ⟨xy, hxy⟩ : ∃ xy, (spn p).getD i (0, 0) = xy := ⟨_, rfl⟩
            have hmm : xy ∈ spn p := by rw [← hxy, List.getD_eq_getElem?_getD, List.getElem?_eq_getElem (by rw [HN.out]; exact hlt)]; exact List.getElem_mem _
            obtain ⟨z0, z1, z2⟩ := HSP.out xy hmm
            rw [hxy] at y0 y1
            obtain ⟨x, y⟩ := xy
            obtain ⟨x, rfl⟩ : ∃ a' : Nat, x = (a' : Int) := ⟨x.toNat, by simp at z0; omega⟩
            obtain ⟨y, rfl⟩ : ∃ b' : Nat, y = (b' : Int) := ⟨y.toNat, by simp at z0 z1; omega⟩
            simp only at z0 z1 z2 y0 y1
            have HXY := hidd hxy
            clear hmm hxy
            have hs5 : wr.heap.size < (wr.alloc (.cells #[.int .u8 (x : Int), .int .u8 (y : Int)] 60)).heap.size := by rw [World.size_alloc]; omega
            have k0 : (wr.alloc (.cells #[.int .u8 (x : Int), .int .u8 (y : Int)] 60)).heap[wr.heap.size]? = some (.cells #[.int .u8 (x : Int), .int .u8 (y : Int)] 60 (0, 0)) := heap_new wr _
            have hW5 : WrA (wr.alloc (.cells #[.int .u8 (x : Int), .int .u8 (y : Int)] 60)) u.heap.size u.heap.size v (91 :: ((spn p).take i).flatMap spanT) := WrA_more hWr ((Below.refl _ _).alloc (Nat.le_refl _) _)
            have D5 := D4.alloc D4.size (.cells #[.int .u8 (x : Int), .int .u8 (y : Int)] 60)
            have hq5 : v.ownBlock ≠ some wr.heap.size := WrA_new hWr
            have hbl := WrA_lt hWr
            go_wp2_with fail
            generalize wr.alloc (.cells #[.int .u8 (x : Int), .int .u8 (y : Int)] 60) = w5 at *
            generalize hqq : wr.heap.size = q at *
            clear y0 y1 hWr D4
            have HTK : Hid (((spn p).take (i + 1)).flatMap spanT = ((spn p).take i).flatMap spanT ++ spanT ((x : Int), (y : Int))) := by
              show _ = _
              have hil : i < (spn p).length := by rw [HN.out]; exact hlt
              have e := HXY.out
              rw [List.getD_eq_getElem?_getD, List.getElem?_eq_getElem hil, Option.getD_some] at e
              rw [List.take_succ_eq_append_getElem hil, List.flatMap_append, e]
              simp
            have HLEN : Hid ((((spn p).take i).flatMap spanT).length ≤ 9 * 256) := by
              have h1 := flat_len spanT 9 ((spn p).take i) (fun z hz => by have := HSP.out z (List.mem_of_mem_take hz); exact (spanT_fit this.1 this.2.1 this.2.2).2)
              have h2 : ((spn p).take i).length ≤ 256 := by rw [List.length_take]; omega
              show _ ≤ _
              omega
            generalize ((spn p).take i).flatMap spanT = T0 at *
            have hx255 : x ≤ 255 := by omega
            refine (pbyte_any x hx255 _).mono ?_
            rintro e w6 ⟨s6, rfl, hs6, b6⟩
            have hl6 : s6.size ≤ 4 := by rw [← bs_len, hs6]; exact (byteT_fit x (by omega)).2.2
            have k6 := (b6.block q hs5).trans k0
            have hW6 := WrA_more hW5 b6
            have D6 := D5.trans (b6.mono D5.size)
            have hs6' : q < w6.heap.size := Nat.lt_of_lt_of_le hs5 b6.size
            clear hW5 b6 k0 D5 hs5
            go_wp2_with fail
            refine (strWA hW6 s6 (by have := HLEN.out; simp; omega) D6.size).mono ?_
            rintro e w7 ⟨rfl, v7, hW7, f7⟩
            rw [hs6] at hW7
            have k7 := (f7.block q hs6' (by omega) hq5).trans k6
            have D7 := D6.trans (fr_bel f7 (Nat.le_refl _) (WrA_own hW6) D6.size)
            have hq7 : v7.ownBlock ≠ some q := fun e => by
              rcases f7.own q e with h | h
              · exact hq5 h
              · omega
            have hs7 : q < w7.heap.size := Nat.lt_of_lt_of_le hs6' f7.size
            have d0 : w7.cell? ⟨q, 0, none⟩ = some (.int .u8 (x : Int)) := by rw [Lib.cell_of_heap k7]; rfl
            have d1 : w7.cell? ⟨q, 1, none⟩ = some (.int .u8 (y : Int)) := by rw [Lib.cell_of_heap k7]; rfl
            clear hW6 D6 f7 k6 hs6 hs6' hq5
            by_cases hxy2 : x < y
            · have hxi : (x : Int) < (y : Int) := by omega
              have HSP2 : Hid (spanT ((x : Int), (y : Int)) = byteT x ++ 45 :: byteT y) := by
                show _ = _
                unfold spanT
                rw [if_pos hxi]
                simp
              have hbx := (byteT_fit x (by omega)).2.2
              go_wp2_with fail
              refine (byteWA hW7 45 (by have := HLEN.out; simp; omega) D7.size).mono ?_
              rintro e w8 ⟨rfl, v8, hW8, f8⟩
              have k8 := (f8.block q hs7 (by omega) hq7).trans k7
              have D8 := D7.trans (fr_bel f8 (Nat.le_refl _) (WrA_own hW7) D7.size)
              have d1 : w8.cell? ⟨q, 1, none⟩ = some (.int .u8 (y : Int)) := by rw [Lib.cell_of_heap k8]; rfl
              clear hW7 D7 f8 k7 d0 k8
              go_wp2_with fail
              refine (pbyte_any y (by omega) _).mono ?_
              rintro e w9 ⟨s9, rfl, hs9, b9⟩
              have hl9 : s9.size ≤ 4 := by rw [← bs_len, hs9]; exact (byteT_fit y (by omega)).2.2
              have hW9 := WrA_more hW8 b9
              have D9 := D8.trans (b9.mono D8.size)
              clear hW8 b9 D8 d1
              go_wp2_with fail
              refine (strWA hW9 s9 (by have := HLEN.out; simp; omega) D9.size).mono ?_
              rintro e wA ⟨rfl, vA, hWA, fA⟩
              have DA := D9.trans (fr_bel fA (Nat.le_refl _) (WrA_own hW9) D9.size)
              have HREL : Hid (WrA wA u.heap.size u.heap.size vA (91 :: ((spn p).take (i + 1)).flatMap spanT)) := by
                show WrA _ _ _ _ _
                rw [HTK.out, HSP2.out]
                rw [hs9] at hWA
                simpa using hWA
              clear hWA hW9 D9 fA hs9
              go_wp2
              exact ⟨⟨i + 1, vA, rfl, by omega, HREL.out, DA⟩, by simp [intOf]; omega⟩
            · have hxi : decide ((x : Int) < (y : Int)) = false := decide_eq_false (by omega)
              have HREL : Hid (WrA w7 u.heap.size u.heap.size v7 (91 :: ((spn p).take (i + 1)).flatMap spanT)) := by
                show WrA _ _ _ _ _
                have e : spanT ((x : Int), (y : Int)) = byteT x := by
                  unfold spanT
                  rw [if_neg (by simp only; omega)]
                  simp
                rw [HTK.out, e]
                simpa using hW7
              clear hW7
              go_wp2
              exact ⟨⟨i + 1, v7, rfl, by omega, HREL.out, D7⟩, by simp [intOf]; omega⟩
          · have hie : i = n := by omega
            subst hie
            have HTK : Hid ((spn p).take i = spn p) := by show _ = _; rw [List.take_of_length_le (by rw [HN.out]; exact Nat.le_refl _)]
            rw [HTK.out] at hWr
            have HLEN : Hid (((spn p).flatMap spanT).length ≤ 9 * 256) := by
              have h1 := flat_len spanT 9 (spn p) (fun z hz => by have := HSP.out z hz; exact (spanT_fit this.1 this.2.1 this.2.2).2)
              have h2 := spn_len p
              show _ ≤ _
              omega
            go_wp2_with fail
            refine (byteWA hWr 93 (by have := HLEN.out; simp only [List.length_cons]; omega) D4.size).mono ?_
            rintro e w8 ⟨rfl, v8, hW8, f8⟩
            have D8 := D4.trans (fr_bel f8 (Nat.le_refl _) (WrA_own hWr) D4.size)
            have HTT : Hid (91 :: (spn p).flatMap spanT ++ [93] = setT p) := by show _ = _; rw [HR.out]; rfl
            rw [HTT.out] at hW8
            clear hWr D4 f8
            go_wp2_with fail
            refine (getWA hW8 (setT_fit p).1).mono ?_
            rintro e w9 ⟨rfl, b9⟩
            have HEND := hidd (D2'.out.trans ((D8.trans b9).mono D2'.out.size))
            clear D8 b9 hW8
            generalize htx : txt (setT p) = tx at *
            have HTX := hidd htx
            clear htx
            go_wp2
            go_ret
            exact ⟨tx, rfl, by rw [← HTX.out]; exact bs_txt (setT_fit p).1, HEND.out⟩
  · have hn1 : ((n : Int) == 1) = false := by simp; omega
    have HT : Hid (setT p = if eqDot p then [46] else 91 :: ((spn p).flatMap spanT ++ [93])) := by
      show _ = _
      unfold setT
      rw [if_neg (fun h => h1 (by rw [← HN.out]; exact h.1))]
    clear h1
    go_wp2_with fail
    go_quiet (fail)
    go_wp2_with fail
    refine wp_region_slots (SdS w1 w.heap.size p) (SdG w.heap.size p) (by kernel_rfl) (by kernel_rfl) (by kernel_rfl) ?_ ⟨R1, bel_drew (bel_drewN (Below.refl _ _) _)⟩ [1] (by kernel_rfl) ?_ ?_ ?_
    · intro t v u u' h hb
      refine ⟨h.1, fun R hR => ?_⟩
      have hh := h.2 R hR
      unfold SdGP at hR
      split at hR
      · cases hR; exact hh.below hb
      · cases hR
    · intro u _
      refine ⟨⟨_, rfl, ?_⟩, trivial⟩
      exact ⟨fun _ h => Option.some.inj h, fun _ h => no_some h⟩
    · refine ⟨?_, ?_, ?_, ?_, ?_, trivial⟩
      · intro a u hS hr K hK
        obtain ⟨⟨vl0, e0, g0⟩, -⟩ := hr
        obtain rfl := g0.1 _ rfl
        clear g0
        rw [if_pos (want_none rfl)]
        obtain ⟨r0, r1, r2, r3⟩ := hS.box.cells
        unfold Oper.wp
        go_simp
        exact hK _ _ ⟨fun _ h => Option.some.inj h, fun _ h => no_some h⟩ hS (Below.refl _ _)
      · intro a u hS hr K hK
        rw [if_pos (want_none rfl)]
        unfold Oper.wp
        go_simp
        exact hK _ _ ⟨fun _ h => no_some h, fun _ h => spec_ok h (By.one 10 (by omega) (by omega) _)⟩ (hS.below ((Below.refl _ _).alloc (Nat.le_refl _) _)) ((Below.refl _ _).alloc (Nat.le_refl _) _)
      · intro a u hS hr K hK
        obtain ⟨⟨vl0, e0, g0⟩, -⟩ := hr
        replace g0 := g0.2 _ rfl
        rw [if_pos (want_none rfl)]
        unfold Oper.wp
        go_simp
        refine (of_by (by simp) g0).mono ?_
        rintro e u1 ⟨rfl, hb⟩
        exact hK _ _ ⟨fun _ h => Option.some.inj h, fun _ h => no_some h⟩ (hS.below hb) hb
      · intro a u hS hr K hK
        obtain ⟨⟨vl0, e0, g0⟩, -⟩ := hr
        obtain rfl := g0.1 _ rfl
        clear g0
        rw [if_pos (want_none rfl)]
        unfold Oper.wp
        go_simp
        refine (not_any _ _).mono ?_
        rintro e u1 ⟨rfl, hb⟩
        exact hK _ _ ⟨fun _ h => Option.some.inj h, fun _ h => no_some h⟩ (hS.below hb) hb
      · intro a u hS hr K hK
        obtain ⟨⟨vl0, e0, g0⟩, ⟨vl1, e1, g1⟩, -⟩ := hr
        obtain rfl := g0.1 _ rfl
        clear g0
        obtain rfl := g1.1 _ rfl
        clear g1
        rw [if_pos (want_none rfl)]
        have z1 := set_eql p (notB (inB [10]))
        unfold Oper.wp
        go_simp
        exact hK _ _ ⟨fun _ h => Option.some.inj h, fun _ h => no_some h⟩ hS (Below.refl _ _)
    intro a u hS hts hd hkn hf
    have D2 := hbel.trans (hS.bel.mono hbel.size)
    have HB2 := hidd hS.bel
    obtain ⟨v28, e28, g28⟩ := hf 0 _ 28 rfl rfl
    obtain ⟨v29, e29, g29⟩ := hf 1 _ 29 rfl rfl
    obtain ⟨v30, e30, g30⟩ := hf 2 _ 30 rfl rfl
    obtain ⟨v31, e31, g31⟩ := hf 3 _ 31 rfl rfl
    obtain ⟨v32, e32, g32⟩ := hf 4 _ 32 rfl rfl
    have hA := act_puts [(28, v28), (29, v29), (30, v30), (31, v31), (32, v32)] hts hd hkn (by kernel_rfl) (by simp [e28, e29, e30, e31, e32])
    clear hf hts hd hkn e28 e29 e30 e31 e32
    obtain rfl := g28.1 _ rfl
    clear g28
    replace g29 := g29.2 _ rfl
    obtain rfl := g30.1 _ rfl
    clear g30
    obtain rfl := g31.1 _ rfl
    clear g31
    obtain rfl := g32.1 _ rfl
    clear g32
    subst hA
    simp only [List.foldl, List.setIfInBounds_toArray, List.set_cons_zero, List.set_cons_succ]
    simp only [Exit.then]
    apply_assumption
    rw [HDQ.out]
    cases hdd : eqDot p with
    | true =>
      have HR : Hid (setT p = [46]) := by show _ = _; rw [HT.out, if_pos hdd]
      clear HDQ HT
      go_wp2
      go_ret
      exact ⟨_, rfl, by rw [HR.out]; decide, D2⟩
    | false =>
      have HR : Hid (setT p = 91 :: ((spn p).flatMap spanT ++ [93])) := by show _ = _; rw [HT.out, if_neg (by rw [hdd]; exact Bool.false_ne_true)]
      have hPu := hidd (HP.out.below HB2.out)
      have hsz := HB2.out.size
      have D2' := hidd D2
      clear HDQ HT hdd D2 HB2
      have hW0 : WrA (u.alloc (.cells #[.pointer none, .slice none 0 0] 51)) u.heap.size u.heap.size (.slice none 0 0) [] := ⟨.pointer none, .inl rfl, ⟨World.ownsRow_nil _ _ _ _, nofun, fun _ => rfl⟩, heap_new u _⟩
      have hz0 : u.heap.size ≤ (u.alloc (.cells #[.pointer none, .slice none 0 0] 51)).heap.size := by rw [World.size_alloc]; omega
      have hb0 := (Below.refl u.heap.size u).alloc (Nat.le_refl _) (.cells #[.pointer none, .slice none 0 0] 51)
      go_wp2_with fail
      generalize u.alloc (.cells #[.pointer none, .slice none 0 0] 51) = u2 at *
      refine (byteWA hW0 91 (by simp) hz0).mono ?_
      rintro e u3 ⟨rfl, v3, hW3, f3⟩
      have D3 := hb0.trans (fr_bel f3 (Nat.le_refl _) nofun hz0)
      have hn256 : n ≤ 256 := by rw [← HN.out]; exact spn_len p
      clear hW0 hz0 hb0 f3
      go_wp2
      go_loopw [36] (fun s36 wr => ∃ (i : Nat) (v : Value), s36 = .int .i64 (i : Int) ∧ i ≤ n ∧ WrA wr u.heap.size u.heap.size v (91 :: ((spn p).take i).flatMap spanT) ∧ Below u.heap.size u wr) (fun s36 _ => n - (intOf s36).toNat)
      case atStart => exact ⟨0, v3, rfl, Nat.zero_le _, hW3, D3⟩
      case round =>
        obtain ⟨i, v, rfl, hin, hWr, D4⟩ := hrel
        clear hW3 D3
        by_cases hlt : i < n
        · have hii : (i : Int) < (n : Int) := by omega
          obtain ⟨g4, o4, hA4, hg4, y0, y1⟩ := (hPu.out.below (D4.mono hsz)).at_ (k := i) (by rw [HN.out]; exact hlt)
          cases hA4
          obtain ⟨xy, hxy⟩ : ∃ xy, (spn p).getD i (0, 0) = xy := ⟨_, rfl⟩
          have hmm : xy ∈ spn p := by rw [← hxy, List.getD_eq_getElem?_getD, List.getElem?_eq_getElem (by rw [HN.out]; exact hlt)]; exact List.getElem_mem _
          obtain ⟨z0, z1, z2⟩ := HSP.out xy hmm
          rw [hxy] at y0 y1
          obtain ⟨x, y⟩ := xy
          obtain ⟨x, rfl⟩ : ∃ a' : Nat, x = (a' : Int) := ⟨x.toNat, by simp at z0; omega⟩
          obtain ⟨y, rfl⟩ : ∃ b' : Nat, y = (b' : Int) := ⟨y.toNat, by simp at z0 z1; omega⟩
          simp only at z0 z1 z2 y0 y1
          have HXY := hidd hxy
          clear hmm hxy
          have hs5 : wr.heap.size < (wr.alloc (.cells #[.int .u8 (x : Int), .int .u8 (y : Int)] 60)).heap.size := by rw [World.size_alloc]; omega
          have k0 : (wr.alloc (.cells #[.int .u8 (x : Int), .int .u8 (y : Int)] 60)).heap[wr.heap.size]? = some (.cells #[.int .u8 (x : Int), .int .u8 (y : Int)] 60 (0, 0)) := heap_new wr _
          have hW5 : WrA (wr.alloc (.cells #[.int .u8 (x : Int), .int .u8 (y : Int)] 60)) u.heap.size u.heap.size v (91 :: ((spn p).take i).flatMap spanT) := WrA_more hWr ((Below.refl _ _).alloc (Nat.le_refl _) _)
          have D5 := D4.alloc D4.size (.cells #[.int .u8 (x : Int), .int .u8 (y : Int)] 60)
          have hq5 : v.ownBlock ≠ some wr.heap.size := WrA_new hWr
          have hbl := WrA_lt hWr
          go_wp2_with fail
          generalize wr.alloc (.cells #[.int .u8 (x : Int), .int .u8 (y : Int)] 60) = w5 at *
          generalize hqq : wr.heap.size = q at *
          clear y0 y1 hWr D4
          have HTK : Hid (((spn p).take (i + 1)).flatMap spanT = ((spn p).take i).flatMap spanT ++ spanT ((x : Int), (y : Int))) := by
            show _ = _
            have hil : i < (spn p).length := by rw [HN.out]; exact hlt
            have e := HXY.out
            rw [List.getD_eq_getElem?_getD, List.getElem?_eq_getElem hil, Option.getD_some] at e
            rw [List.take_succ_eq_append_getElem hil, List.flatMap_append, e]
            simp
          have HLEN : Hid ((((spn p).take i).flatMap spanT).length ≤ 9 * 256) := by
            have h1 := flat_len spanT 9 ((spn p).take i) (fun z hz => by have := HSP.out z (List.mem_of_mem_take hz); exact (spanT_fit this.1 this.2.1 this.2.2).2)
            have h2 : ((spn p).take i).length ≤ 256 := by rw [List.length_take]; omega
            show _ ≤ _
            omega
          generalize ((spn p).take i).flatMap spanT = T0 at *
          have hx255 : x ≤ 255 := by omega
          refine (pbyte_any x hx255 _).mono ?_
          rintro e w6 ⟨s6, rfl, hs6, b6⟩
          have hl6 : s6.size ≤ 4 := by rw [← bs_len, hs6]; exact (byteT_fit x (by omega)).2.2
          have k6 := (b6.block q hs5).trans k0
          have hW6 := WrA_more hW5 b6
          have D6 := D5.trans (b6.mono D5.size)
          have hs6' : q < w6.heap.size := Nat.lt_of_lt_of_le hs5 b6.size
          clear hW5 b6 k0 D5 hs5
          go_wp2_with fail
          refine (strWA hW6 s6 (by have := HLEN.out; simp; omega) D6.size).mono ?_
          rintro e w7 ⟨rfl, v7, hW7, f7⟩
          rw [hs6] at hW7
          have k7 := (f7.block q hs6' (by omega) hq5).trans k6
          have D7 := D6.trans (fr_bel f7 (Nat.le_refl _) (WrA_own hW6) D6.size)
          have hq7 : v7.ownBlock ≠ some q := fun e => by
            rcases f7.own q e with h | h
            · exact hq5 h
            · omega
          have hs7 : q < w7.heap.size := Nat.lt_of_lt_of_le hs6' f7.size
          have d0 : w7.cell? ⟨q, 0, none⟩ = some (.int .u8 (x : Int)) := by rw [Lib.cell_of_heap k7]; rfl
          have d1 : w7.cell? ⟨q, 1, none⟩ = some (.int .u8 (y : Int)) := by rw [Lib.cell_of_heap k7]; rfl
          clear hW6 D6 f7 k6 hs6 hs6' hq5
          by_cases hxy2 : x < y
          · have hxi : (x : Int) < (y : Int) := by omega
            have HSP2 : Hid (spanT ((x : Int), (y : Int)) = byteT x ++ 45 :: byteT y) := by
              show _ = _
              unfold spanT
              rw [if_pos hxi]
              simp
            have hbx := (byteT_fit x (by omega)).2.2
            go_wp2_with fail
            refine (byteWA hW7 45 (by have := HLEN.out; simp; omega) D7.size).mono ?_
            rintro e w8 ⟨rfl, v8, hW8, f8⟩
            have k8 := (f8.block q hs7 (by omega) hq7).trans k7
            have D8 := D7.trans (fr_bel f8 (Nat.le_refl _) (WrA_own hW7) D7.size)
            have d1 : w8.cell? ⟨q, 1, none⟩ = some (.int .u8 (y : Int)) := by rw [Lib.cell_of_heap k8]; rfl
            clear hW7 D7 f8 k7 d0 k8
            go_wp2_with fail
            refine (pbyte_any y (by omega) _).mono ?_
            rintro e w9 ⟨s9, rfl, hs9, b9⟩
            have hl9 : s9.size ≤ 4 := by rw [← bs_len, hs9]; exact (byteT_fit y (by omega)).2.2
            have hW9 := WrA_more hW8 b9
            have D9 := D8.trans (b9.mono D8.size)
            clear hW8 b9 D8 d1
            go_wp2_with fail
            refine (strWA hW9 s9 (by have := HLEN.out; simp; omega) D9.size).mono ?_
            rintro e wA ⟨rfl, vA, hWA, fA⟩
            have DA := D9.trans (fr_bel fA (Nat.le_refl _) (WrA_own hW9) D9.size)
            have HREL : Hid (WrA wA u.heap.size u.heap.size vA (91 :: ((spn p).take (i + 1)).flatMap spanT)) := by
              show WrA _ _ _ _ _
              rw [HTK.out, HSP2.out]
              rw [hs9] at hWA
              simpa using hWA
            clear hWA hW9 D9 fA hs9
            go_wp2
            exact ⟨⟨i + 1, vA, rfl, by omega, HREL.out, DA⟩, by simp [intOf]; omega⟩
          · have hxi : decide ((x : Int) < (y : Int)) = false := decide_eq_false (by omega)
            have HREL : Hid (WrA w7 u.heap.size u.heap.size v7 (91 :: ((spn p).take (i + 1)).flatMap spanT)) := by
              show WrA _ _ _ _ _
              have e : spanT ((x : Int), (y : Int)) = byteT x := by
                unfold spanT
                rw [if_neg (by simp only; omega)]
                simp
              rw [HTK.out, e]
              simpa using hW7
            clear hW7
            go_wp2
            exact ⟨⟨i + 1, v7, rfl, by omega, HREL.out, D7⟩, by simp [intOf]; omega⟩
        · have hie : i = n := by omega
          subst hie
          have HTK : Hid ((spn p).take i = spn p) := by show _ = _; rw [List.take_of_length_le (by rw [HN.out]; exact Nat.le_refl _)]
          rw [HTK.out] at hWr
          have HLEN : Hid (((spn p).flatMap spanT).length ≤ 9 * 256) := by
            have h1 := flat_len spanT 9 (spn p) (fun z hz => by have := HSP.out z hz; exact (spanT_fit this.1 this.2.1 this.2.2).2)
            have h2 := spn_len p
            show _ ≤ _
            omega
          go_wp2_with fail
          refine (byteWA hWr 93 (by have := HLEN.out; simp only [List.length_cons]; omega) D4.size).mono ?_
          rintro e w8 ⟨rfl, v8, hW8, f8⟩
          have D8 := D4.trans (fr_bel f8 (Nat.le_refl _) (WrA_own hWr) D4.size)
          have HTT : Hid (91 :: (spn p).flatMap spanT ++ [93] = setT p) := by show _ = _; rw [HR.out]; rfl
          rw [HTT.out] at hW8
          clear hWr D4 f8
          go_wp2_with fail
          refine (getWA hW8 (setT_fit p).1).mono ?_
          rintro e w9 ⟨rfl, b9⟩
          have HEND := hidd (D2'.out.trans ((D8.trans b9).mono D2'.out.size))
          clear D8 b9 hW8
          generalize htx : txt (setT p) = tx at *
          have HTX := hidd htx
          clear htx
          go_wp2
          go_ret
          exact ⟨tx, rfl, by rw [← HTX.out]; exact bs_txt (setT_fit p).1, HEND.out⟩
end Go.Proofs.YtghjkbjpdjlddaaDoor.Sy

/- The reference of layer 5: a set. -/
import Derived.Test.YtaagkfiaccmepaaPDj
namespace Go.Proofs.Ytaagkfiaccmepaa.Sy.Pn.Rp
open Go.RowKit
set_option maxRecDepth 100000
set_option linter.unusedVariables false

theorem one_lst : ∀ c, c < 256 → (lstB (oneS c) 256).length = 1 := by decide +kernel
theorem lstB_congr {p q : Nat → Bool} (h : ∀ b, b < 256 → p b = q b) : lstB p 256 = lstB q 256 := by
  unfold lstB
  rw [List.filter_congr (fun x hx => h x (List.mem_range.1 hx))]
theorem set_single {p : Nat → Bool} {x : Int} (h : lstB p 256 = [x]) : ∃ c : Nat, x = (c : Int) ∧ c < 256 ∧ setT p = byteT c := by
  obtain ⟨c, hx, hc, hp⟩ := (lst_mem p 256 x).1 (by rw [h]; simp)
  refine ⟨c, hx, hc, ?_⟩
  rw [← setT_one c hc]
  refine setT_congr fun b hb => ?_
  rw [Bool.eq_iff_iff]
  constructor
  · intro hb2
    have := (lst_mem p 256 (b : Int)).2 ⟨b, rfl, hb, hb2⟩
    rw [h, List.mem_singleton] at this
    have : b = c := by omega
    simp [oneS, this]
  · intro hb2
    have : b = c := by simpa [oneS] using hb2
    rw [this]
    exact hp
theorem set_many {p : Nat → Bool} (h : (lstB p 256).length ≠ 1) : setT p = if eqDot p then [46] else 91 :: ((spn p).flatMap spanT ++ [93]) := by
  unfold setT
  rw [if_neg]
  rintro ⟨h1, h2⟩
  obtain ⟨x, hx⟩ : ∃ x, spn p = [x] := List.length_eq_one_iff.1 h1
  have ha := spn_at p x (by rw [hx]; simp)
  rw [hx] at h2
  simp at h2
  refine h ?_
  have hc : x.1.toNat < 256 := by omega
  rw [lstB_congr (q := oneS x.1.toNat) (fun b hb => ?_), one_lst _ hc]
  have hh := spn_has p b hb
  rw [hx] at hh
  simp at hh
  rw [Bool.eq_iff_iff, ← hh]
  simp [oneS]
  omega
theorem rof_by {xs : List Int} {v : Value} {u : World} (hl : xs.length ≤ 1000000) (h : By xs v u) : Calls Try.prog 66 #[v] u fun e w' => e = .returned (.agg #[.int .u64 (W (inB xs) 0), .int .u64 (W (inB xs) 1), .int .u64 (W (inB xs) 2), .int .u64 (W (inB xs) 3)]) ∧ Below u.heap.size u w' := by
  obtain ⟨A, c, rfl, hB⟩ := h
  exact rof_any A c xs u hB hl
set_option linter.unusedVariables false in
def SrGV (g : Nat) (p : Nat → Bool) (t : Nat) : Option Value :=
  match t with
  | 1 => some (.pointer (some ⟨g, 0, none⟩))
  | 16 => some (.agg #[.int .u64 (W (p) 0), .int .u64 (W (p) 1), .int .u64 (W (p) 2), .int .u64 (W (p) 3)])
  | 18 => some (.agg #[.int .u64 (W (inB [10]) 0), .int .u64 (W (inB [10]) 1), .int .u64 (W (inB [10]) 2), .int .u64 (W (inB [10]) 3)])
  | 19 => some (.agg #[.int .u64 (W (notB (inB [10])) 0), .int .u64 (W (notB (inB [10])) 1), .int .u64 (W (notB (inB [10])) 2), .int .u64 (W (notB (inB [10])) 3)])
  | 20 => some (.bool (eqB p (notB (inB [10]))))
  | _ => none
set_option linter.unusedVariables false in
def SrGP (g : Nat) (p : Nat → Bool) (t : Nat) : Option (Value → World → Prop) :=
  match t with
  | 17 => some (By [10])
  | _ => none
def SrG (g : Nat) (p : Nat → Bool) (t : Nat) (v : Value) (u : World) : Prop := (∀ z9, SrGV g p t = some z9 → v = z9) ∧ ∀ R, SrGP g p t = some R → R v u
set_option maxHeartbeats 4000000 in
theorem rset_any (p : Nat → Bool) (w : World) : Calls Try.prog 57 #[.agg #[.int .u64 (W (p) 0), .int .u64 (W (p) 1), .int .u64 (W (p) 2), .int .u64 (W (p) 3)]] w fun e w' => TxtR (setT p) w e w' := by
  have HDQ := hidd (eqDot_eq p)
  go_enter Try.func57, Try.ntmps57
  go_wp2_with fail
  have R0 := Row4.new w p
  refine (rlist_any p _).mono ?_
  rintro e w1 ⟨v, rfl, hown, hb1⟩
  obtain ⟨A, c, rfl, hB⟩ := Bts.of_own hown (lst_byte p)
  have R1 : Row4 w1 w.heap.size p := R0.below hb1 R0.lt
  have hbel := bel1 hb1
  clear hown hb1 R0
  by_cases h1 : (lstB p 256).length = 1
  · obtain ⟨x, hx⟩ : ∃ x, lstB p 256 = [x] := List.length_eq_one_iff.1 h1
    obtain ⟨m, rfl, hm, hT⟩ := set_single hx
    rw [hx] at hB
    rw [h1]
    obtain ⟨g, off, rfl, hg, ha⟩ := hB.2 (by simp)
    have c0 : w1.cell? ⟨g, off, none⟩ = some (.int .u8 (m : Int)) := ha 0 (by simp)
    have HT := hidd hT
    clear hB ha hx h1 hT HDQ
    go_wp2_with fail
    refine (rbyte_any m (by omega) w1).mono ?_
    rintro e w2 ⟨s, rfl, hs, hb2⟩
    have HS := hidd (hs.trans HT.out.symm)
    have HB := hidd (hbel.trans (hb2.mono hbel.size))
    clear hs hb2 hbel
    go_wp2
    go_ret
    exact ⟨s, rfl, HS.out, HB.out⟩
  · have HT := hidd (set_many h1)
    obtain ⟨n0, hn0⟩ : ∃ n, (lstB p 256).length = n := ⟨_, rfl⟩
    rw [hn0] at h1 ⊢
    have hn1 : ((n0 : Int) == 1) = false := by simp; omega
    clear hB hn0 h1
    go_wp2
    refine wp_region_slots (SdS w1 w.heap.size p) (SrG w.heap.size p) (by kernel_rfl) (by kernel_rfl) (by kernel_rfl) ?_ ⟨R1, bel_drew (Below.refl _ _)⟩ [1] (by kernel_rfl) ?_ ?_ ?_
    · intro t v u u' h hb
      refine ⟨h.1, fun R hR => ?_⟩
      have hh := h.2 R hR
      unfold SrGP at hR
      split at hR
      · cases hR; exact hh.below hb
      · cases hR
    · intro u _
      refine ⟨⟨_, rfl, ?_⟩, trivial⟩
      exact ⟨fun _ h => Option.some.inj h, fun _ h => no_some h⟩
    · refine ⟨?_, ?_, ?_, ?_, ?_, trivial⟩
      · intro a u hS hr K hK
        obtain ⟨⟨vl0, e0, g0⟩, -⟩ := hr
        obtain rfl := g0.1 _ rfl
        clear g0
        rw [if_pos (want_none rfl)]
        obtain ⟨r0, r1, r2, r3⟩ := hS.box.cells
        unfold Oper.wp
        go_simp
        exact hK _ _ ⟨fun _ h => Option.some.inj h, fun _ h => no_some h⟩ hS (Below.refl _ _)
      · intro a u hS hr K hK
        rw [if_pos (want_none rfl)]
        unfold Oper.wp
        go_simp
        exact hK _ _ ⟨fun _ h => no_some h, fun _ h => spec_ok h (By.one 10 (by omega) (by omega) _)⟩ (hS.below ((Below.refl _ _).alloc (Nat.le_refl _) _)) ((Below.refl _ _).alloc (Nat.le_refl _) _)
      · intro a u hS hr K hK
        obtain ⟨⟨vl0, e0, g0⟩, -⟩ := hr
        replace g0 := g0.2 _ rfl
        rw [if_pos (want_none rfl)]
        unfold Oper.wp
        go_simp
        refine (rof_by (by simp) g0).mono ?_
        rintro e u1 ⟨rfl, hb⟩
        exact hK _ _ ⟨fun _ h => Option.some.inj h, fun _ h => no_some h⟩ (hS.below hb) hb
      · intro a u hS hr K hK
        obtain ⟨⟨vl0, e0, g0⟩, -⟩ := hr
        obtain rfl := g0.1 _ rfl
        clear g0
        rw [if_pos (want_none rfl)]
        unfold Oper.wp
        go_simp
        refine (rnot_any _ _).mono ?_
        rintro e u1 ⟨rfl, hb⟩
        exact hK _ _ ⟨fun _ h => Option.some.inj h, fun _ h => no_some h⟩ (hS.below hb) hb
      · intro a u hS hr K hK
        obtain ⟨⟨vl0, e0, g0⟩, ⟨vl1, e1, g1⟩, -⟩ := hr
        obtain rfl := g0.1 _ rfl
        clear g0
        obtain rfl := g1.1 _ rfl
        clear g1
        rw [if_pos (want_none rfl)]
        have z1 := set_eql p (notB (inB [10]))
        unfold Oper.wp
        go_simp
        exact hK _ _ ⟨fun _ h => Option.some.inj h, fun _ h => no_some h⟩ hS (Below.refl _ _)
    intro a u hS hts hd hkn hf
    have D2 := hidd (hbel.trans (hS.bel.mono hbel.size))
    have R2 := hS.box
    clear hbel R1 hS
    obtain ⟨v16, e16, g16⟩ := hf 0 _ 16 rfl rfl
    obtain ⟨v17, e17, g17⟩ := hf 1 _ 17 rfl rfl
    obtain ⟨v18, e18, g18⟩ := hf 2 _ 18 rfl rfl
    obtain ⟨v19, e19, g19⟩ := hf 3 _ 19 rfl rfl
    obtain ⟨v20, e20, g20⟩ := hf 4 _ 20 rfl rfl
    have hA := act_puts [(16, v16), (17, v17), (18, v18), (19, v19), (20, v20)] hts hd hkn (by kernel_rfl) (by simp [e16, e17, e18, e19, e20])
    clear hf hts hd hkn e16 e17 e18 e19 e20
    obtain rfl := g16.1 _ rfl
    clear g16
    replace g17 := g17.2 _ rfl
    obtain rfl := g18.1 _ rfl
    clear g18
    obtain rfl := g19.1 _ rfl
    clear g19
    obtain rfl := g20.1 _ rfl
    clear g20
    subst hA
    simp only [List.foldl, List.setIfInBounds_toArray, List.set_cons_zero, List.set_cons_succ]
    simp only [Exit.then]
    apply_assumption
    rw [HDQ.out]
    clear HDQ
    cases hdd : eqDot p with
    | true =>
      have HR : Hid (setT p = [46]) := by show _ = _; rw [HT.out, if_pos hdd]
      clear HT hdd
      go_wp2
      go_ret
      exact ⟨_, rfl, by rw [HR.out]; decide, D2.out⟩
    | false =>
      have HR : Hid (setT p = 91 :: ((spn p).flatMap spanT ++ [93])) := by show _ = _; rw [HT.out, if_neg (by rw [hdd]; exact Bool.false_ne_true)]
      obtain ⟨r0, r1, r2, r3⟩ := R2.cells
      clear HT hdd R2
      go_wp2_with fail
      refine (rspans_any p u).mono ?_
      rintro e w3 ⟨v3, rfl, hown3, b3⟩
      obtain ⟨A3, c3, rfl, hP⟩ := Prs.of_own hown3
      have HP : Hid (Prs w3 w3.heap.size A3 (spn p)) := hP
      have D3 := hidd (D2.out.trans (b3.mono D2.out.size))
      obtain ⟨n, hn⟩ : ∃ n, (spn p).length = n := ⟨_, rfl⟩
      change (spansL (lstB p 256)).length = n at hn
      rw [hn]
      have HN : Hid ((spn p).length = n) := hn
      have HSP := hidd (spn_at p)
      have hn256 : n ≤ 256 := by rw [← HN.out]; exact spn_len p
      clear hown3 hP hn b3 D2 r0 r1 r2 r3
      go_wp2
      go_loopw [4, 6] (fun s4 s6 wr => ∃ (i : Nat) (b : ByteArray), s6 = .int .i64 (i : Int) ∧ s4 = .string b ∧ i ≤ n ∧ bs b = 91 :: ((spn p).take i).flatMap spanT ∧ Below w3.heap.size w3 wr) (fun _ s6 _ => n - (intOf s6).toNat)
      case atStart => exact ⟨0, _, rfl, rfl, Nat.zero_le _, rfl, Below.refl _ _⟩
      case round =>
        obtain ⟨i, b, rfl, rfl, hin, hb, D4⟩ := hrel
        have hbl : b.size ≤ 9 * 256 + 1 := by
          have h1 := flat_len spanT 9 ((spn p).take i) (fun z hz => by have := HSP.out z (List.mem_of_mem_take hz); exact (spanT_fit this.1 this.2.1 this.2.2).2)
          have h2 : ((spn p).take i).length ≤ 256 := by rw [List.length_take]; omega
          rw [← bs_len, hb, List.length_cons]
          omega
        have HBB := hidd hb
        have HD4 := hidd D4
        clear hb
        by_cases hlt : i < n
        · have hii : (i : Int) < (n : Int) := by omega
          obtain ⟨g4, o4, hA4, hg4, y0, y1⟩ := (HP.out.below D4).at_ (k := i) (by rw [HN.out]; exact hlt)
          cases hA4
          obtain ⟨xy, hxy⟩ : ∃ xy, (spn p).getD i (0, 0) = xy := ⟨_, rfl⟩
          have hmm : xy ∈ spn p := by rw [← hxy, List.getD_eq_getElem?_getD, List.getElem?_eq_getElem (by rw [HN.out]; exact hlt)]; exact List.getElem_mem _
          obtain ⟨z0, z1, z2⟩ := HSP.out xy hmm
          have HTK : Hid (((spn p).take (i + 1)).flatMap spanT = ((spn p).take i).flatMap spanT ++ spanT xy) := by
            show _ = _
            have hil : i < (spn p).length := by rw [HN.out]; exact hlt
            have e := hxy
            rw [List.getD_eq_getElem?_getD, List.getElem?_eq_getElem hil, Option.getD_some] at e
            rw [List.take_succ_eq_append_getElem hil, List.flatMap_append, e]
            simp
          rw [hxy] at y0 y1
          obtain ⟨x, y⟩ := xy
          obtain ⟨x, rfl⟩ : ∃ a' : Nat, x = (a' : Int) := ⟨x.toNat, by simp at z0; omega⟩
          obtain ⟨y, rfl⟩ : ∃ b' : Nat, y = (b' : Int) := ⟨y.toNat, by simp at z0 z1; omega⟩
          simp only at z0 z1 z2 y0 y1
          clear hmm hxy
          have hx255 : x ≤ 255 := by omega
          have hy255 : y ≤ 255 := by omega
          have hxy : x ≤ y := by omega
          clear z0 z1 z2 D4
          go_wp2_with fail
          refine (rbyte_any x hx255 wr).mono ?_
          rintro e w5 ⟨s5, rfl, hs5, b5⟩
          have hl5 : s5.size ≤ 4 := by rw [← bs_len, hs5]; exact (byteT_fit x (by omega)).2.2
          have HS5 := hidd hs5
          have k0 := (b5.cell (World.block_lt_of_cell? _ _ y0)).trans y0
          have k1 := (b5.cell (World.block_lt_of_cell? _ _ y1)).trans y1
          have D5 := hidd (HD4.out.trans (b5.mono HD4.out.size))
          clear y0 y1 hs5 b5 HD4
          by_cases hq : x = y
          · subst hq
            have HREL : Hid (bs (b ++ s5) = 91 :: ((spn p).take (i + 1)).flatMap spanT) := by
              show _ = _
              have e : spanT ((x : Int), (x : Int)) = byteT x := by
                unfold spanT
                rw [if_neg (by simp only; omega)]
                simp
              rw [bs_append, HBB.out, HS5.out, HTK.out, e]
              simp
            clear HBB HTK HS5
            go_wp2
            go_quiet (fail)
            go_wp2
            exact ⟨⟨i + 1, _, rfl, rfl, by omega, HREL.out, bel_drewN D5.out _⟩, by simp [intOf]; omega⟩
          · have hne : ((y : Int) == (x : Int)) = false := by simp; omega
            have HSPN : Hid (spanT ((x : Int), (y : Int)) = byteT x ++ 45 :: byteT y) := by
              show _ = _
              unfold spanT
              rw [if_pos (by simp only; omega)]
              simp
            go_wp2
            go_quiet (fail)
            go_wp2_with fail
            refine (rbyte_any y hy255 _).mono ?_
            rintro e w6 ⟨s6, rfl, hs6, b6⟩
            have hl6 : s6.size ≤ 4 := by rw [← bs_len, hs6]; exact (byteT_fit y (by omega)).2.2
            have HREL : Hid (bs (b ++ s5 ++ { data := #[45] } ++ s6) = 91 :: ((spn p).take (i + 1)).flatMap spanT) := by
              show _ = _
              rw [bs_append, bs_append, bs_append, HBB.out, HS5.out, hs6, HTK.out, HSPN.out]
              have : bs ({ data := #[45] } : ByteArray) = [45] := rfl
              rw [this]
              simp
            have D6 := hidd ((bel_drewN D5.out _).trans (b6.mono D5.out.size))
            clear HBB HTK HS5 HSPN hs6 b6 D5 k0 k1
            go_wp2
            exact ⟨⟨i + 1, _, rfl, rfl, by omega, HREL.out, D6.out⟩, by simp [intOf]; omega⟩
        · have hie : i = n := by omega
          have hif : ¬ ((i : Int) < (n : Int)) := by omega
          have HEND : Hid (bs (b ++ { data := #[93] }) = setT p) := by
            show _ = _
            rw [bs_append, HBB.out, HR.out, List.take_of_length_le (by rw [HN.out]; omega)]
            rfl
          have HDE := hidd (D3.out.trans (D4.mono D3.out.size))
          clear HBB HR hie D4
          go_wp2
          go_ret
          exact ⟨_, rfl, HEND.out, HDE.out⟩
end Go.Proofs.Ytaagkfiaccmepaa.Sy.Pn.Rp

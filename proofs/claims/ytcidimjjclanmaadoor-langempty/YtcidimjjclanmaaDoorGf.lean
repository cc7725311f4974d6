/- LangEmpty's walk. -/
import Derived.Test.YtcidimjjclanmaaDoorGe
import Derived.Test.YtcidimjjclanmaaDoorG2
namespace Go.Proofs.YtcidimjjclanmaaDoor.Sy.Lg.En
open Go.RowKit Go.Proofs.YtcidimjjclanmaaDoor.Sy.Ap Go.Proofs.YtcidimjjclanmaaDoor.Sy.Ap.Wk
set_option maxRecDepth 100000
set_option linter.unusedVariables false

variable {ns : List Nd}
theorem bs_drop (s : ByteArray) (i : Nat) : bs (s.extract i s.size) = (bs s).drop i := by
  rw [ex_bs]
  unfold cut
  exact List.take_of_length_le (by rw [List.length_drop, bs_len]; exact Nat.le_refl _)
theorem drop_ends (hl : Low ns) (s : ByteArray) {i : Nat} (hi : i ≤ s.size) : endL ns (bs s) i = (endL ns (bs (s.extract i s.size)) 0).map fun j => i + j := by
  rw [bs_drop]
  exact endL_drop hl (bs s) i (by rw [bs_len]; exact hi)
theorem up_ends (hl : Low ns) {s : ByteArray} {i x : Nat} (hi : i ≤ s.size) (hx : x ∈ endL ns (bs s) i) : i ≤ x ∧ x ≤ s.size := by
  have hb := bs_len s
  have h := (mem_endL hl (by omega)).1 hx
  have h2 := Mt_in hl (bs s) _ _ _ h
  exact ⟨h2.1, by have := h2.2 (by omega); omega⟩
theorem is_part (hl : Low ns) {s : ByteArray} {i x : Nat} (hi : i ≤ s.size) (hx : x ∈ endL ns (bs s) i) : isL (endL ns (bs (s.extract i x)) 0) (s.extract i x).size = true := by
  obtain ⟨h1, h2⟩ := up_ends hl hi hx
  have hb := bs_len s
  have hz : (s.extract i x).size = x - i := by rw [ByteArray.size_extract]; omega
  have hlen : ((bs s).drop i).length = s.size - i := by rw [List.length_drop, hb]
  have hm := (mem_endL hl (by omega)).1 hx
  have e : (s.extract i x).size = (bs (s.extract i x)).length := (bs_len _).symm
  rw [e, is_iff hl, ← e, hz, ex_bs]
  unfold cut
  rw [Mt_take hl _ (x - i) (by omega) _ _ _ (Nat.le_refl _), Mt_drop hl (bs s) i (by omega), Nat.add_zero, show i + (x - i) = x from by omega]
  exact hm
theorem root_null (ht : TreeN ns) (hp : PlainN ns) {s : ByteArray} {i : Nat} (hi : i ≤ s.size) : i ∈ endL ns (bs s) i ↔ nulN ns = true := by
  have hpos := ht.pos
  rw [mem_endL ht.low (by rw [bs_len]; exact hi), null_mt ht hp _ _ _ (by omega)]
  exact Iff.rfl
/-- What the first and the last of all places tell. -/
theorem ends_kinds (ht : TreeN ns) (hp : PlainN ns) {s : ByteArray} {i : Nat} (hi : i ≤ s.size) {E : List Nat} (hE : endL ns (bs s) i = E) :
    (E.length = 0 ∧ longB E i = false ∧ nulN ns = false) ∨ (E.length = 1 ∧ longB E i = false ∧ nulN ns = true ∧ E.getD 0 0 = i) ∨
    (0 < E.length ∧ ∃ x : Nat, longB E i = true ∧ longZ E i = (x : Int) ∧ i < x ∧ x ≤ s.size ∧ nulN ns = (E.getD 0 0 == i) ∧ isL (endL ns (bs (s.extract i x)) 0) (s.extract i x).size = true) := by
  have hr := endL_rise ns (bs s) i
  have hn := root_null ht hp hi
  have hu := fun x => @up_ends ns ht.low s i x hi
  have hpt := fun x => @is_part ns ht.low s i x hi
  rw [hE] at hr hn hu hpt
  clear hE
  match E, hr, hn, hu, hpt with
  | [], hr, hn, hu, hpt =>
    left
    refine ⟨rfl, rfl, ?_⟩
    cases h : nulN ns with
    | false => rfl
    | true => rw [h] at hn; have := hn.2 rfl; cases this
  | a :: l, hr, hn, hu, hpt =>
    right
    obtain ⟨y, hy⟩ : ∃ y, (a :: l).getLast? = some y := ⟨_, List.getLast?_eq_some_getLast (by simp)⟩
    have hym : y ∈ a :: l := List.mem_of_getLast? hy
    obtain ⟨h1, h2⟩ := List.pairwise_cons.1 hr
    have ha := (hu a (by simp)).1
    have hnul : nulN ns = (a == i) := by
      rw [Bool.eq_iff_iff, ← hn, beq_iff_eq]
      constructor
      · intro q
        rcases List.mem_cons.1 q with r | r
        · exact r.symm
        · have := h1 _ r; omega
      · rintro rfl; simp
    by_cases hyi : y ≤ i
    · left
      have hya : a = y := by
        rcases List.mem_cons.1 hym with r | r
        · exact r.symm
        · have := h1 _ r; omega
      have hl : l = [] := by
        cases l with
        | nil => rfl
        | cons b l =>
          have hb := h1 b (by simp)
          have : (b :: l).getLast? = some y := by rw [← hy]; simp [List.getLast?_cons]
          have hym2 := List.mem_of_getLast? this
          have := h1 y hym2
          omega
      subst hl
      have hai : a = i := by omega
      refine ⟨rfl, ?_, by rw [hnul, hai]; simp, hai⟩
      unfold longB
      rw [hy]
      simp
      omega
    · right
      refine ⟨by simp, y, ?_, ?_, by omega, (hu y hym).2, hnul, hpt y hym⟩
      · unfold longB
        rw [hy]
        simp
        omega
      · unfold longZ
        rw [hy]
        exact if_neg (by omega)
set_option maxHeartbeats 2000000 in
theorem lawLangEmpty_any (A : Option Addr) (c : Nat) (gs : List Gd) (s : ByteArray) (x : Int) (w : World) (hN : Nds w w.heap.size A gs) (hm : gs.length ≤ maxLen) (hsm : Small gs) (hs : s.size ≤ maxLen) (x0 : 0 ≤ x) (x1 : x ≤ 255) (hD : DB w) :
    Calls Tryd.prog 6 #[.slice A gs.length c, .string s, .int .u8 x] w fun e w' => e = .returned (.bool true) ∧ Below w.heap.size w w' := by
  have hsh := shown7_any w hD
  have HTX : Hid (∀ u, _) := fun u => text_any s u hs
  have HGD : Hid (∀ u, Below w.heap.size w u → Calls Tryd.prog 21 #[.slice A gs.length c] u fun e w' => GoodR gs u e w') := fun u hu => good_any A c gs u ((hN.below hu).more hu.size) hm hsm
  have hyz := text_size s
  have HN := hidd hN
  have HD := hidd hD
  have HSM := hidd hsm
  clear hN hD hsm
  generalize cutS 20 s = y at *
  obtain ⟨f, hf⟩ : ∃ f : Nat, Int.tmod x ((y.size : Int) + 1) = (f : Int) := ⟨(x % ((y.size : Int) + 1)).toNat, by
    rw [Int.tmod_eq_emod_of_nonneg x0]
    have := Int.emod_nonneg x (b := (y.size : Int) + 1) (by omega)
    omega⟩
  have hfy : f ≤ y.size := by
    rw [Int.tmod_eq_emod_of_nonneg x0] at hf
    have := Int.emod_lt_of_pos x (b := (y.size : Int) + 1) (by omega)
    omega
  have hw1 : IntKind.i64.wrap x = x := by rw [IntKind.wrap_i64]; omega
  obtain ⟨n, hn⟩ : ∃ n, gs.length = n := ⟨_, rfl⟩
  have HNL := hidd hn
  rw [hn] at hm
  rw [hn] at HGD
  rw [hn]
  unfold maxLen at hm
  clear hn
  go_enter Tryd.func6, Tryd.ntmps6
  go_wp2_with fail
  refine hsh.mono ?_
  rintro e w1 ⟨rfl, b1⟩
  have HB1 := hidd b1
  clear hsh b1
  go_wp2_with fail
  refine (HTX.out w1).mono ?_
  rintro e w2 ⟨rfl, rfl⟩
  have hgd := HGD.out w2 HB1.out
  go_wp2_with fail
  refine hgd.mono ?_
  rintro e w3 ⟨b3, z, rfl, hz⟩
  have HB3 := hidd (HB1.out.trans (b3.mono HB1.out.size))
  have HZ := hidd hz
  clear hgd b3 hz
  cases z with
  | false =>
    go_wp2
    go_ret
    exact ⟨rfl, HB3.out⟩
  | true =>
    obtain ⟨h30, hpg⟩ := HZ.out rfl
    obtain ⟨ns, hg, ht⟩ := gn_tree hpg.2
    have hpn := (plain_tree hg ht).1 hpg
    have hkd := ends_kinds ht hpn hfy rfl
    have hdr := drop_ends ht.low y hfy
    have HBD : Hid (∀ k, (endL ns (bs y) f).getD k 0 ≤ 20) := fun k => by
      rw [List.getD_eq_getElem?_getD]
      cases h : (endL ns (bs y) f)[k]? with
      | none => exact Nat.zero_le _
      | some e => exact Nat.le_trans (up_ends ht.low hfy (List.mem_of_getElem? h)).2 hyz
    have HENDS : Hid (∀ u, Below w.heap.size w u → EndsL #[.slice A n c, .string y, .int .i64 (f : Int)] (endL ns (bs y) f) u) := fun u hu => by
      have := ends_tree (c := c) (s := y) (i := f) ((HN.out.below hu).more hu.size) hg ht hpn (by omega) hfy (HD.out.below hu)
      rw [HNL.out] at this
      exact this
    have HREST : Hid (∀ i u, Below w.heap.size w u → EndsL #[.slice A n c, .string (y.extract f i), .int .i64 0] (endL ns (bs (y.extract f i)) 0) u) := fun i u hu => by
      have := ends_tree (c := c) (s := y.extract f i) (i := 0) ((HN.out.below hu).more hu.size) hg ht hpn (by rw [ByteArray.size_extract]; omega) (Nat.zero_le _) (HD.out.below hu)
      rw [HNL.out] at this
      exact this
    have HIS : Hid (∀ i u, Below w.heap.size w u → Calls Tryd.prog 19 #[.slice A n c, .string (y.extract f i)] u fun e w' => Below u.heap.size u w' ∧ e = .returned (.bool (isL (endL ns (bs (y.extract f i)) 0) (y.extract f i).size))) := fun i u hu =>
      is_any A n c (y.extract f i) (by rw [ByteArray.size_extract]; omega) _ (endL_few _ _ _ (by rw [ByteArray.size_extract]; omega)) u (HREST.out i u hu)
    have HLO : Hid (∀ u, Below w.heap.size w u → Calls Tryd.prog 14 #[.slice A n c, .string y, .int .i64 (f : Int)] u fun e w' => Below u.heap.size u w' ∧ e = .returned (.tuple #[.int .i64 (longZ (endL ns (bs y) f) (f : Int)), .bool (longB (endL ns (bs y) f) (f : Int))])) := fun u hu =>
      longest_any A n c y (f : Int) _ (endL_few _ _ _ (by omega)) u (HENDS.out u hu)
    have HNU : Hid (∀ u, Below w.heap.size w u → Calls Tryd.prog 25 #[.slice A n c] u fun e w' => NulR u (nulN ns) e w') := fun u hu => by
      have := rnull_ok A c gs ns u ((HN.out.below hu).more hu.size) hg ht
      rw [HNL.out] at this
      exact this
    have hE4 := HENDS.out w3 HB3.out
    have HLEN := endL_few ns y f (by omega)
    clear HENDS HZ hpg hg ht hpn HGD
    have HR5 : Hid (∀ u, Below w.heap.size w u → EndsL #[.slice A n c, .string (y.extract f y.size), .int .i64 0] (endL ns (bs (y.extract f y.size)) 0) u) := HREST.out y.size
    clear HREST
    generalize endL ns (bs y) f = E at *
    generalize endL ns (bs (y.extract f y.size)) 0 = R at *
    generalize nulN ns = nl at *
    obtain ⟨m, hm4⟩ : ∃ m, E.length = m := ⟨_, rfl⟩
    have hm5 : R.length = m := by rw [← hm4, hdr, List.length_map]
    have HV : Hid (∀ k, k < m → ((E.getD k 0 : Nat) : Int) = ((R.getD k 0 : Nat) : Int) + (f : Int)) := fun k hk => by
      rw [hdr, List.getD_eq_getElem?_getD, List.getElem?_map, List.getD_eq_getElem?_getD, List.getElem?_eq_getElem (by rw [hm5]; exact hk)]
      show ((f + R[k] : Nat) : Int) = ((R[k] : Nat) : Int) + (f : Int)
      omega
    have HKD := hidd hkd
    rw [hm4] at HKD HLEN
    have HM4 := hidd hm4
    have HM5 := hidd hm5
    clear hkd hdr h30
    go_wp2_with fail
    refine hE4.mono ?_
    rintro e w4 ⟨b4, A4, c4, rfl, own4⟩
    have HN4 := hidd (nts_own own4)
    rw [HM4.out]
    have HB4 := hidd (HB3.out.trans (b4.mono HB3.out.size))
    have hE5 := HR5.out w4 HB4.out
    clear own4 b4 hE4 hm4 hm5
    go_wp2_with fail
    refine hE5.mono ?_
    rintro e w5 ⟨b5, A5, c5, rfl, own5⟩
    have HN5 := hidd (nts_own own5)
    rw [HM5.out]
    have HN45 := hidd ((HN4.out.below b5).more b5.size)
    have HB5 := hidd (HB4.out.trans (b5.mono HB4.out.size))
    clear own5 b5 hE5
    go_wp2
    go_loopw [45] (fun s45 wr => ∃ k : Nat, k ≤ m ∧ s45 = .int .i64 (k : Int) ∧ Below w5.heap.size w5 wr) (fun s45 _ => m - (intOf s45).toNat)
    case atStart => exact ⟨0, Nat.zero_le _, rfl, Below.refl _ _⟩
    case round =>
      obtain ⟨k, hk0, rfl, hb⟩ := hrel
      by_cases hlt : k < m
      · obtain ⟨g1, o1, rfl, hg1, hc1⟩ := HN45.out.at_ (k := k) (by rw [HM4.out]; exact hlt)
        obtain ⟨g2, o2, rfl, hg2, hc2⟩ := HN5.out.at_ (k := k) (by rw [HM5.out]; exact hlt)
        have y1 : wr.cell? ⟨g1, o1 + k, none⟩ = some (.int .i64 ((E.getD k 0 : Nat) : Int)) := by rw [hb.cell hg1]; exact hc1
        have y2 : wr.cell? ⟨g2, o2 + k, none⟩ = some (.int .i64 ((R.getD k 0 : Nat) : Int)) := by rw [hb.cell hg2]; exact hc2
        have hv := HV.out k hlt
        have hbd := HBD.out k
        have hki : (k : Int) < (m : Int) := by omega
        clear hc1 hc2
        generalize E.getD k 0 = a at *
        generalize R.getD k 0 = v at *
        have h1 : ((a : Int) != (v : Int) + (f : Int)) = false := by simp; omega
        have h2 : decide ((a : Int) = (v : Int) + (f : Int)) = true := by simp; omega
        have hwv : IntKind.i64.wrap ((v : Int) + (f : Int)) = (v : Int) + (f : Int) := by rw [IntKind.wrap_i64]; omega
        have HB := hidd hb
        clear hb hv
        go_wp2
        go_quiet (fail)
        go_wp2
        exact ⟨⟨k + 1, by omega, rfl, bel_drewN HB.out nq⟩, by simp [intOf]; omega⟩
      · have hkm : k = m := by omega
        subst hkm
        have HBR := hidd (HB5.out.trans (hb.mono HB5.out.size))
        have hlo := HLO.out wr HBR.out
        have HLD : Hid (0 < k → ∃ g o, A4 = some ⟨g, o, none⟩ ∧ wr.cell? ⟨g, o, none⟩ = some (.int .i64 ((E.getD 0 0 : Nat) : Int))) := fun h0 => by
          obtain ⟨g1, o1, e1, hg1, hc1⟩ := HN45.out.at_ (k := 0) (by rw [HM4.out]; exact h0)
          refine ⟨g1, o1, e1, ?_⟩
          rw [hb.cell hg1]
          exact hc1
        clear hb HV HBD hlt
        rcases HKD.out with ⟨h0, hl, hnl⟩ | ⟨h0, hl, hnl, h00⟩ | ⟨h0, q, hl, hz, hfq, hqs, hnl, hpt⟩
        · rw [hl] at hlo
          subst h0
          clear HKD
          go_wp2_with fail
          refine hlo.mono ?_
          rintro e w6 ⟨b6, rfl⟩
          have HB6 := hidd (HBR.out.trans (b6.mono HBR.out.size))
          have hnu := HNU.out w6 HB6.out
          rw [hnl] at hnu
          clear hlo b6
          go_wp2_with fail
          refine hnu.mono ?_
          rintro e w7 ⟨rfl, b7⟩
          have HB7 := hidd (HB6.out.trans (b7.mono HB6.out.size))
          clear hnu b7
          go_wp2
          go_ret
          exact ⟨rfl, HB7.out⟩
        · rw [hl] at hlo
          subst h0
          obtain ⟨g1, o1, rfl, y1⟩ := HLD.out (by omega)
          rw [h00] at y1
          clear HKD HLD
          go_wp2_with fail
          refine hlo.mono ?_
          rintro e w6 ⟨b6, rfl⟩
          have HB6 := hidd (HBR.out.trans (b6.mono HBR.out.size))
          have hnu := HNU.out w6 HB6.out
          rw [hnl] at hnu
          clear hlo b6 y1
          go_wp2_with fail
          refine hnu.mono ?_
          rintro e w7 ⟨rfl, b7⟩
          have HB7 := hidd (HB6.out.trans (b7.mono HB6.out.size))
          clear hnu b7
          go_wp2
          go_ret
          exact ⟨rfl, HB7.out⟩
        · rw [hl, hz] at hlo
          obtain ⟨g1, o1, rfl, y1⟩ := HLD.out h0
          have hki : (0 : Int) < (k : Int) := by omega
          have hki2 : decide ((0 : Int) < (k : Int)) = true := by simp; omega
          have hfq2 : (f : Int) < (q : Int) := by omega
          have hqs2 : (q : Int) ≤ (y.size : Int) := by omega
          have hfq3 : (f : Int) ≤ (q : Int) := by omega
          have his := fun u hu => HIS.out q u hu
          rw [hpt] at his
          have HIQ := hidd his
          clear HKD HLD his hpt HIS HLO
          generalize E.getD 0 0 = a at *
          by_cases haf : a = f
          · subst haf
            have hnl1 : nl = true := by rw [hnl]; simp
            clear hnl
            subst hnl1
            go_wp2_with fail
            refine hlo.mono ?_
            rintro e w6 ⟨b6, rfl⟩
            have HB6 := hidd (HBR.out.trans (b6.mono HBR.out.size))
            have hnu := HNU.out w6 HB6.out
            clear hlo b6 y1
            go_wp2_with fail
            refine hnu.mono ?_
            rintro e w7 ⟨rfl, b7⟩
            have HB7 := hidd (HB6.out.trans (b7.mono HB6.out.size))
            have his := HIQ.out w7 HB7.out
            clear hnu b7
            go_wp2_with fail
            refine his.mono ?_
            rintro e w8 ⟨b8, rfl⟩
            have HB8 := hidd (HB7.out.trans (b8.mono HB7.out.size))
            clear his b8
            go_wp2
            go_ret
            exact ⟨rfl, HB8.out⟩
          · have hnl1 : nl = false := by rw [hnl]; simp [haf]
            have haf2 : ((a : Int) == (f : Int)) = false := by simp; omega
            have haf3 : decide ((a : Int) = (f : Int)) = false := by simp; omega
            clear hnl
            subst hnl1
            go_wp2_with fail
            refine hlo.mono ?_
            rintro e w6 ⟨b6, rfl⟩
            have HB6 := hidd (HBR.out.trans (b6.mono HBR.out.size))
            have hnu := HNU.out w6 HB6.out
            clear hlo b6 y1
            go_wp2_with fail
            refine hnu.mono ?_
            rintro e w7 ⟨rfl, b7⟩
            have HB7 := hidd (HB6.out.trans (b7.mono HB6.out.size))
            have his := HIQ.out w7 HB7.out
            clear hnu b7
            go_wp2_with fail
            refine his.mono ?_
            rintro e w8 ⟨b8, rfl⟩
            have HB8 := hidd (HB7.out.trans (b8.mono HB7.out.size))
            clear his b8
            go_wp2
            go_ret
            exact ⟨rfl, HB8.out⟩
end Go.Proofs.YtcidimjjclanmaaDoor.Sy.Lg.En

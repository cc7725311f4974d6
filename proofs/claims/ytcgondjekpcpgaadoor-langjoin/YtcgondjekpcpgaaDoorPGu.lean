/- LangJoin: what it asks, plain; its walk. Written by wip/mk/gu.py. -/
import Derived.Test.YtcgondjekpcpgaaDoorPGr
namespace Go.Proofs.YtcgondjekpcpgaaDoor.Sy.Lg.En
open Go.RowKit Go.Proofs.YtcgondjekpcpgaaDoor.Sy.Ap Go.Proofs.YtcgondjekpcpgaaDoor.Sy.Ap.Wk
set_option maxRecDepth 100000
set_option linter.unusedVariables false

/-- Is a text one of a tree? -/
noncomputable def iL (ns : List Nd) (s : ByteArray) : Bool := isL (endL ns (bs s) 0) s.size
theorem iL_iff {ns : List Nd} (hl : Low ns) (s : ByteArray) : iL ns s = true ↔ Mt ns (bs s) (ns.length - 1) 0 s.size := by
  unfold iL
  rw [← bs_len s]
  exact is_iff hl (bs s)
theorem bs_take (s : ByteArray) (k : Nat) : bs (s.extract 0 k) = (bs s).take k := by
  rw [ex_bs]
  unfold cut
  rw [List.drop_zero, Nat.sub_zero]
theorem two_parts {ns ms : List Nd} (tx : TreeN ns) (ty : TreeN ms) (s : ByteArray) {k : Nat} (hk : k ≤ s.size) (h1 : iL ns (s.extract 0 k) = true) (h2 : iL ms (s.extract k s.size) = true) : Mt ns (bs s) (ns.length - 1) 0 k ∧ Mt ms (bs s) (ms.length - 1) k s.size := by
  have hb := bs_len s
  rw [iL_iff tx.low, bs_take, show (s.extract 0 k).size = k from by rw [ByteArray.size_extract]; omega, Mt_take tx.low _ k (by omega) _ _ _ (Nat.le_refl _)] at h1
  rw [iL_iff ty.low, bs_drop, show (s.extract k s.size).size = s.size - k from by rw [ByteArray.size_extract]; omega, Mt_drop ty.low _ k (by omega), Nat.add_zero, show k + (s.size - k) = s.size from by omega] at h2
  exact ⟨h1, h2⟩
theorem join_cat {ns ms : List Nd} (tx : TreeN ns) (ty : TreeN ms) (hT : TreeN (bothN ns ms (ndCat [ns.length - 1, ns.length + ms.length - 1]))) (s : ByteArray) {k : Nat} (hk : k ≤ s.size) (h1 : iL ns (s.extract 0 k) = true) (h2 : iL ms (s.extract k s.size) = true) :
    iL (bothN ns ms (ndCat [ns.length - 1, ns.length + ms.length - 1])) s = true := by
  rw [iL_iff hT.low, both_cat tx ty hT.low rfl rfl]
  exact ⟨k, two_parts tx ty s hk h1 h2⟩
theorem join_alt {ns ms : List Nd} (tx : TreeN ns) (ty : TreeN ms) (hT : TreeN (bothN ns ms (ndAlt [ns.length - 1, ns.length + ms.length - 1]))) (s : ByteArray) :
    iL (bothN ns ms (ndAlt [ns.length - 1, ns.length + ms.length - 1])) s = (iL ns s || iL ms s) := by
  rw [Bool.eq_iff_iff, iL_iff hT.low, both_alt tx ty hT.low rfl rfl, Bool.or_eq_true, iL_iff tx.low, iL_iff ty.low]
theorem join_twice {ns : List Nd} (tx : TreeN ns) (hT : TreeN (ns ++ [ndRep (ns.length - 1) 2 2])) (s : ByteArray) {k : Nat} (hk : k ≤ s.size) (h1 : iL ns (s.extract 0 k) = true) (h2 : iL ns (s.extract k s.size) = true) :
    iL (ns ++ [ndRep (ns.length - 1) 2 2]) s = true := by
  obtain ⟨q1, q2⟩ := two_parts tx tx s hk h1 h2
  rw [iL_iff hT.low, one_rep tx hT.low rfl rfl]
  exact ⟨2, Int.le_refl _, .inr (Int.le_refl _), k, ⟨0, rfl, q1⟩, q2⟩
theorem join_star {ns : List Nd} (tx : TreeN ns) (hT : TreeN (ns ++ [ndRep (ns.length - 1) 0 (-1)])) : iL (ns ++ [ndRep (ns.length - 1) 0 (-1)]) { data := #[] } = true := by
  rw [iL_iff hT.low, one_rep tx hT.low rfl rfl]
  exact ⟨0, Int.le_refl _, .inl (by show (-1 : Int) < 0; omega), rfl⟩
def IsC (args : Array Value) (b : Bool) (u : World) : Prop := Calls Tryd.prog 19 args u fun e w' => Below u.heap.size u w' ∧ e = .returned (.bool b)
theorem is_tree {A : Option Addr} {c n : Nat} {gs : List Gd} {ns : List Nd} {s : ByteArray} {w : World} (hx : Nds w w.heap.size A gs) (hg : GN gs ns) (ht : TreeN ns) (hp : PlainN ns) (hs : s.size ≤ 63) (hn : gs.length = n) (hD : DB w) : IsC #[.slice A n c, .string s] (iL ns s) w := by
  have h := ends_tree (c := c) (s := s) (i := 0) hx hg ht hp hs (Nat.zero_le _) hD
  rw [hn] at h
  exact is_any A n c s (by omega) _ (endL_few ns s 0 hs) w h
set_option maxHeartbeats 4000000 in
theorem lawLangJoin_any (A : Option Addr) (c : Nat) (gs : List Gd) (A2 : Option Addr) (c2 : Nat) (gs2 : List Gd) (s : ByteArray) (x : Int) (w : World) (hN : Nds w w.heap.size A gs) (hm : gs.length ≤ maxLen) (hsm : Small gs) (hN2 : Nds w w.heap.size A2 gs2) (hm2 : gs2.length ≤ maxLen) (hsm2 : Small gs2) (hs : s.size ≤ maxLen) (x0 : 0 ≤ x) (x1 : x ≤ 255) (hD : DB w) :
    Calls Tryd.prog 8 #[.slice A gs.length c, .slice A2 gs2.length c2, .string s, .int .u8 x] w fun e w' => e = .returned (.bool true) ∧ Below w.heap.size w w' := by
  have hsh := shown7_any w hD
  have HTX : Hid (∀ u, _) := fun u => text_any s u hs
  have HGD : Hid (∀ u, Below w.heap.size w u → Calls Tryd.prog 21 #[.slice A gs.length c] u fun e w' => GoodR gs u e w') := fun u hu => good_any A c gs u ((hN.below hu).more hu.size) hm hsm
  have HGD2 : Hid (∀ u, Below w.heap.size w u → Calls Tryd.prog 21 #[.slice A2 gs2.length c2] u fun e w' => GoodR gs2 u e w') := fun u hu => good_any A2 c2 gs2 u ((hN2.below hu).more hu.size) hm2 hsm2
  have hyz := text_size s
  have HN := hidd hN
  have HN2 := hidd hN2
  have HD := hidd hD
  clear hN hD hsm hN2 hsm2
  generalize cutS 20 s = y at *
  obtain ⟨f, hf⟩ : ∃ f : Nat, Int.tmod x ((y.size : Int) + 1) = (f : Int) := ⟨(x % ((y.size : Int) + 1)).toNat, by
    rw [Int.tmod_eq_emod_of_nonneg x0]
    have := Int.emod_nonneg x (b := (y.size : Int) + 1) (by omega)
    omega⟩
  have hfy : f ≤ y.size := by
    rw [Int.tmod_eq_emod_of_nonneg x0] at hf
    have := Int.emod_lt_of_pos x (b := (y.size : Int) + 1) (by omega)
    omega
  have hw1 : IntKind.i64.wrap x = x := by rw [IntKind.wrap_i64]; omega
  obtain ⟨n1, hn1'⟩ : ∃ n, gs.length = n := ⟨_, rfl⟩
  have HNL := hidd hn1'
  obtain ⟨n2, hn2'⟩ : ∃ n, gs2.length = n := ⟨_, rfl⟩
  have HNL2 := hidd hn2'
  rw [hn1'] at hm HGD
  rw [hn2'] at hm2 HGD2
  rw [hn1', hn2']
  unfold maxLen at hm hm2
  clear hn1' hn2'
  go_enter Tryd.func8, Tryd.ntmps8
  go_wp2_with fail
  refine hsh.mono ?_
  rintro e w1 ⟨rfl, b1⟩
  have HB1 := hidd b1
  clear hsh b1
  go_wp2_with fail
  refine (HTX.out w1).mono ?_
  rintro e w2 ⟨rfl, rfl⟩
  have hgd := HGD.out w2 HB1.out
  go_wp2_with fail
  refine hgd.mono ?_
  rintro e w3 ⟨b3, z, rfl, hz⟩
  have HB3 := hidd (HB1.out.trans (b3.mono HB1.out.size))
  have HZ := hidd hz
  clear hgd b3 hz
  cases z with
  | false =>
    go_wp2
    go_ret
    exact ⟨rfl, HB3.out⟩
  | true =>
    have hgd := HGD2.out w3 HB3.out
    go_wp2_with fail
    refine hgd.mono ?_
    rintro e w4 ⟨b4, z, rfl, hz⟩
    have HB4 := hidd (HB3.out.trans (b4.mono HB3.out.size))
    have HZ2 := hidd hz
    clear hgd b4 hz
    cases z with
    | false =>
      go_wp2
      go_ret
      exact ⟨rfl, HB4.out⟩
    | true =>
      obtain ⟨h30, hpg⟩ := HZ.out (by trivial)
      obtain ⟨h30b, hpg2⟩ := HZ2.out (by trivial)
      obtain ⟨ns, hg, ht⟩ := gn_tree hpg.2
      obtain ⟨ms, hg2, ht2⟩ := gn_tree hpg2.2
      have hpn := (plain_tree hg ht).1 hpg
      have hpm := (plain_tree hg2 ht2).1 hpg2
      have HIN : Hid (∀ s', s'.size ≤ 63 → ∀ u, Below w.heap.size w u → IsC #[.slice A n1 c, .string s'] (iL ns s') u) := fun s' h u hu => is_tree ((HN.out.below hu).more hu.size) hg ht hpn h HNL.out (HD.out.below hu)
      have HIM : Hid (∀ s', s'.size ≤ 63 → ∀ u, Below w.heap.size w u → IsC #[.slice A2 n2 c2, .string s'] (iL ms s') u) := fun s' h u hu => is_tree ((HN2.out.below hu).more hu.size) hg2 ht2 hpm h HNL2.out (HD.out.below hu)
      obtain ⟨⟨pc1, pc2, pc3⟩, pa1, pa2, pa3⟩ := pair_tree hg hg2 ht ht2 hpn hpm (by omega) (by omega)
      obtain ⟨pw1, pw2, pw3⟩ := wrap_tree hg ht hpn (by omega) (lo := 2) (hi := 2) (by omega) (by omega) (.inr (by omega))
      obtain ⟨ps1, ps2, ps3⟩ := wrap_tree hg ht hpn (by omega) (lo := 0) (hi := -1) (by omega) (by omega) (.inl rfl)
      have HPAIR : Hid (∀ (op : Int) u, 0 ≤ op → op ≤ 255 → Below w.heap.size w u → Calls Tryd.prog 22 #[.int .u8 op, .slice A n1 c, .slice A2 n2 c2] u fun e w' => Below u.heap.size u w' ∧ ∃ A' c', e = .returned (.slice A' (n1 + n2 + 1) c') ∧ Nds w' w'.heap.size A' (gs ++ gs2.map (shfG gs.length) ++ [catG op [(gs.length : Int) - 1, ((gs.length + gs2.length : Nat) : Int) - 1]])) := fun op u p0 p1 hu => by
        have := pair_any op p0 p1 A c gs A2 c2 gs2 ns ms u ((HN.out.below hu).more hu.size) ((HN2.out.below hu).more hu.size) hg ht hg2 ht2 (by omega) (by omega)
        rw [HNL.out, HNL2.out] at this
        rw [HNL.out, HNL2.out]
        exact this
      have HWRAP : Hid (∀ (lo hi : Int) u, Below w.heap.size w u → Calls Tryd.prog 24 #[.slice A n1 c, .agg #[.int .u8 5, .int .u64 0, .int .u64 0, .int .u64 0, .int .u64 0, .slice none 0 0, .int .i64 lo, .int .i64 hi, .string { data := #[] }]] u fun e w' => Below u.heap.size u w' ∧ ∃ A' c', e = .returned (.slice A' (n1 + 1) c') ∧ Nds w' w'.heap.size A' (gs ++ [repG ((gs.length : Int) - 1) lo hi])) := fun lo hi u hu => by
        have := wrap_any lo hi A c gs ns u ((HN.out.below hu).more hu.size) hg ht (by omega)
        rw [HNL.out] at this
        rw [HNL.out]
        exact this
      have hlen3 : ∀ op, (gs ++ gs2.map (shfG gs.length) ++ [catG op [(gs.length : Int) - 1, ((gs.length + gs2.length : Nat) : Int) - 1]]).length = n1 + n2 + 1 := fun op => by simp [HNL.out, HNL2.out]; omega
      have hlen1 : ∀ lo hi, (gs ++ [repG ((gs.length : Int) - 1) lo hi]).length = n1 + 1 := fun lo hi => by simp [HNL.out]
      have HIC : Hid (iL ns (y.extract 0 f) = true → iL ms (y.extract f y.size) = true → ∀ u A' c', Nds u u.heap.size A' (gs ++ gs2.map (shfG gs.length) ++ [catG 3 [(gs.length : Int) - 1, ((gs.length + gs2.length : Nat) : Int) - 1]]) → Below w.heap.size w u → IsC #[.slice A' (n1 + n2 + 1) c', .string y] true u) := fun q1 q2 u A' c' hx hu => by
        have := is_tree (c := c') (s := y) hx pc1 pc2 pc3 (by omega) (hlen3 3) (HD.out.below hu)
        rw [join_cat ht ht2 pc2 y hfy q1 q2] at this
        exact this
      have HIA : Hid (∀ u A' c', Nds u u.heap.size A' (gs ++ gs2.map (shfG gs.length) ++ [catG 4 [(gs.length : Int) - 1, ((gs.length + gs2.length : Nat) : Int) - 1]]) → Below w.heap.size w u → IsC #[.slice A' (n1 + n2 + 1) c', .string y] (iL ns y || iL ms y) u) := fun u A' c' hx hu => by
        have := is_tree (c := c') (s := y) hx pa1 pa2 pa3 (by omega) (hlen3 4) (HD.out.below hu)
        rw [join_alt ht ht2 pa2 y] at this
        exact this
      have HIW : Hid (iL ns (y.extract 0 f) = true → iL ns (y.extract f y.size) = true → ∀ u A' c', Nds u u.heap.size A' (gs ++ [repG ((gs.length : Int) - 1) 2 2]) → Below w.heap.size w u → IsC #[.slice A' (n1 + 1) c', .string y] true u) := fun q1 q2 u A' c' hx hu => by
        have := is_tree (c := c') (s := y) hx pw1 pw2 pw3 (by omega) (hlen1 2 2) (HD.out.below hu)
        rw [join_twice ht pw2 y hfy q1 q2] at this
        exact this
      have HIS : Hid (∀ u A' c', Nds u u.heap.size A' (gs ++ [repG ((gs.length : Int) - 1) 0 (-1)]) → Below w.heap.size w u → IsC #[.slice A' (n1 + 1) c', .string { data := #[] }] true u) := fun u A' c' hx hu => by
        have := is_tree (c := c') (s := { data := #[] }) hx ps1 ps2 ps3 (by decide) (hlen1 0 (-1)) (HD.out.below hu)
        rw [join_star ht ps2] at this
        exact this
      have hi1 := HIN.out (y.extract 0 f) (by rw [ByteArray.size_extract]; omega) w4 HB4.out
      have HI2 : Hid (∀ u, Below w.heap.size w u → IsC #[.slice A2 n2 c2, .string (y.extract f y.size)] (iL ms (y.extract f y.size)) u) := fun u hu => HIM.out (y.extract f y.size) (by rw [ByteArray.size_extract]; omega) u hu
      have HI3 : Hid (∀ u, Below w.heap.size w u → IsC #[.slice A n1 c, .string (y.extract f y.size)] (iL ns (y.extract f y.size)) u) := fun u hu => HIN.out (y.extract f y.size) (by rw [ByteArray.size_extract]; omega) u hu
      have HI4 : Hid (∀ u, Below w.heap.size w u → IsC #[.slice A n1 c, .string (y.extract 0 f)] (iL ns (y.extract 0 f)) u) := fun u hu => HIN.out (y.extract 0 f) (by rw [ByteArray.size_extract]; omega) u hu
      have HIY : Hid (∀ u, Below w.heap.size w u → IsC #[.slice A n1 c, .string y] (iL ns y) u) := fun u hu => HIN.out y (by omega) u hu
      have HIZ : Hid (∀ u, Below w.heap.size w u → IsC #[.slice A2 n2 c2, .string y] (iL ms y) u) := fun u hu => HIM.out y (by omega) u hu
      clear HGD HGD2 HZ HZ2 hg hg2 ht ht2 hpn hpm h30 h30b hpg hpg2 pc1 pc2 pc3 pa1 pa2 pa3 pw1 pw2 pw3 ps1 ps2 ps3 hlen3 hlen1 HNL HNL2 HN HN2 HIN HIM
      generalize iL ns (y.extract 0 f) = p1 at *
      generalize iL ms (y.extract f y.size) = p2 at *
      generalize iL ns (y.extract f y.size) = p3 at *
      generalize iL ns y = a1 at *
      generalize iL ms y = a2 at *
      go_wp2_with fail
      refine hi1.mono ?_
      rintro e w11 ⟨b11, rfl⟩
      have HB11 := hidd (HB4.out.trans (b11.mono HB4.out.size))
      clear hi1 b11
      cases p1 with
      | false =>
        have h := HI4.out w11 HB11.out
        go_wp2_with fail
        refine h.mono ?_
        rintro e w12 ⟨b12, rfl⟩
        have HB12 := hidd (HB11.out.trans (b12.mono HB11.out.size))
        clear h b12
        have h := HIY.out w12 HB12.out
        go_wp2_with fail
        refine h.mono ?_
        rintro e w13 ⟨b13, rfl⟩
        have HB13 := hidd (HB12.out.trans (b13.mono HB12.out.size))
        clear h b13
        cases a1 with
        | true =>
          have h := HPAIR.out 4 w13 (by omega) (by omega) HB13.out
          go_wp2_with fail
          refine h.mono ?_
          rintro e w14 ⟨b14, A14, c14, rfl, hN14⟩
          have HB14 := hidd (HB13.out.trans (b14.mono HB13.out.size))
          have hi := HIA.out w14 A14 c14 hN14 HB14.out
          clear h b14 hN14
          go_wp2_with fail
          refine hi.mono ?_
          rintro e w15 ⟨b15, rfl⟩
          have HB15 := hidd (HB14.out.trans (b15.mono HB14.out.size))
          clear hi b15
          have h := HWRAP.out 0 (-1) w15 HB15.out
          go_wp2_with fail
          refine h.mono ?_
          rintro e w16 ⟨b16, A16, c16, rfl, hN16⟩
          have HB16 := hidd (HB15.out.trans (b16.mono HB15.out.size))
          have hi := HIS.out w16 A16 c16 hN16 HB16.out
          clear h b16 hN16
          go_wp2_with fail
          refine hi.mono ?_
          rintro e w17 ⟨b17, rfl⟩
          have HB17 := hidd (HB16.out.trans (b17.mono HB16.out.size))
          clear hi b17
          go_wp2
          go_ret
          exact ⟨rfl, HB17.out⟩
        | false =>
          have h := HIZ.out w13 HB13.out
          go_wp2_with fail
          refine h.mono ?_
          rintro e w18 ⟨b18, rfl⟩
          have HB18 := hidd (HB13.out.trans (b18.mono HB13.out.size))
          clear h b18
          cases a2 with
          | true =>
            have h := HPAIR.out 4 w18 (by omega) (by omega) HB18.out
            go_wp2_with fail
            refine h.mono ?_
            rintro e w19 ⟨b19, A19, c19, rfl, hN19⟩
            have HB19 := hidd (HB18.out.trans (b19.mono HB18.out.size))
            have hi := HIA.out w19 A19 c19 hN19 HB19.out
            clear h b19 hN19
            go_wp2_with fail
            refine hi.mono ?_
            rintro e w20 ⟨b20, rfl⟩
            have HB20 := hidd (HB19.out.trans (b20.mono HB19.out.size))
            clear hi b20
            have h := HWRAP.out 0 (-1) w20 HB20.out
            go_wp2_with fail
            refine h.mono ?_
            rintro e w21 ⟨b21, A21, c21, rfl, hN21⟩
            have HB21 := hidd (HB20.out.trans (b21.mono HB20.out.size))
            have hi := HIS.out w21 A21 c21 hN21 HB21.out
            clear h b21 hN21
            go_wp2_with fail
            refine hi.mono ?_
            rintro e w22 ⟨b22, rfl⟩
            have HB22 := hidd (HB21.out.trans (b22.mono HB21.out.size))
            clear hi b22
            go_wp2
            go_ret
            exact ⟨rfl, HB22.out⟩
          | false =>
            have h := HPAIR.out 4 w18 (by omega) (by omega) HB18.out
            go_wp2_with fail
            refine h.mono ?_
            rintro e w23 ⟨b23, A23, c23, rfl, hN23⟩
            have HB23 := hidd (HB18.out.trans (b23.mono HB18.out.size))
            have hi := HIA.out w23 A23 c23 hN23 HB23.out
            clear h b23 hN23
            go_wp2_with fail
            refine hi.mono ?_
            rintro e w24 ⟨b24, rfl⟩
            have HB24 := hidd (HB23.out.trans (b24.mono HB23.out.size))
            clear hi b24
            have h := HWRAP.out 0 (-1) w24 HB24.out
            go_wp2_with fail
            refine h.mono ?_
            rintro e w25 ⟨b25, A25, c25, rfl, hN25⟩
            have HB25 := hidd (HB24.out.trans (b25.mono HB24.out.size))
            have hi := HIS.out w25 A25 c25 hN25 HB25.out
            clear h b25 hN25
            go_wp2_with fail
            refine hi.mono ?_
            rintro e w26 ⟨b26, rfl⟩
            have HB26 := hidd (HB25.out.trans (b26.mono HB25.out.size))
            clear hi b26
            go_wp2
            go_ret
            exact ⟨rfl, HB26.out⟩
      | true =>
        have h := HI2.out w11 HB11.out
        go_wp2_with fail
        refine h.mono ?_
        rintro e w27 ⟨b27, rfl⟩
        have HB27 := hidd (HB11.out.trans (b27.mono HB11.out.size))
        clear h b27
        cases p2 with
        | false =>
          have h := HI4.out w27 HB27.out
          go_wp2_with fail
          refine h.mono ?_
          rintro e w28 ⟨b28, rfl⟩
          have HB28 := hidd (HB27.out.trans (b28.mono HB27.out.size))
          clear h b28
          have h := HI3.out w28 HB28.out
          go_wp2_with fail
          refine h.mono ?_
          rintro e w29 ⟨b29, rfl⟩
          have HB29 := hidd (HB28.out.trans (b29.mono HB28.out.size))
          clear h b29
          cases p3 with
          | false =>
            have h := HIY.out w29 HB29.out
            go_wp2_with fail
            refine h.mono ?_
            rintro e w30 ⟨b30, rfl⟩
            have HB30 := hidd (HB29.out.trans (b30.mono HB29.out.size))
            clear h b30
            cases a1 with
            | true =>
              have h := HPAIR.out 4 w30 (by omega) (by omega) HB30.out
              go_wp2_with fail
              refine h.mono ?_
              rintro e w31 ⟨b31, A31, c31, rfl, hN31⟩
              have HB31 := hidd (HB30.out.trans (b31.mono HB30.out.size))
              have hi := HIA.out w31 A31 c31 hN31 HB31.out
              clear h b31 hN31
              go_wp2_with fail
              refine hi.mono ?_
              rintro e w32 ⟨b32, rfl⟩
              have HB32 := hidd (HB31.out.trans (b32.mono HB31.out.size))
              clear hi b32
              have h := HWRAP.out 0 (-1) w32 HB32.out
              go_wp2_with fail
              refine h.mono ?_
              rintro e w33 ⟨b33, A33, c33, rfl, hN33⟩
              have HB33 := hidd (HB32.out.trans (b33.mono HB32.out.size))
              have hi := HIS.out w33 A33 c33 hN33 HB33.out
              clear h b33 hN33
              go_wp2_with fail
              refine hi.mono ?_
              rintro e w34 ⟨b34, rfl⟩
              have HB34 := hidd (HB33.out.trans (b34.mono HB33.out.size))
              clear hi b34
              go_wp2
              go_ret
              exact ⟨rfl, HB34.out⟩
            | false =>
              have h := HIZ.out w30 HB30.out
              go_wp2_with fail
              refine h.mono ?_
              rintro e w35 ⟨b35, rfl⟩
              have HB35 := hidd (HB30.out.trans (b35.mono HB30.out.size))
              clear h b35
              cases a2 with
              | true =>
                have h := HPAIR.out 4 w35 (by omega) (by omega) HB35.out
                go_wp2_with fail
                refine h.mono ?_
                rintro e w36 ⟨b36, A36, c36, rfl, hN36⟩
                have HB36 := hidd (HB35.out.trans (b36.mono HB35.out.size))
                have hi := HIA.out w36 A36 c36 hN36 HB36.out
                clear h b36 hN36
                go_wp2_with fail
                refine hi.mono ?_
                rintro e w37 ⟨b37, rfl⟩
                have HB37 := hidd (HB36.out.trans (b37.mono HB36.out.size))
                clear hi b37
                have h := HWRAP.out 0 (-1) w37 HB37.out
                go_wp2_with fail
                refine h.mono ?_
                rintro e w38 ⟨b38, A38, c38, rfl, hN38⟩
                have HB38 := hidd (HB37.out.trans (b38.mono HB37.out.size))
                have hi := HIS.out w38 A38 c38 hN38 HB38.out
                clear h b38 hN38
                go_wp2_with fail
                refine hi.mono ?_
                rintro e w39 ⟨b39, rfl⟩
                have HB39 := hidd (HB38.out.trans (b39.mono HB38.out.size))
                clear hi b39
                go_wp2
                go_ret
                exact ⟨rfl, HB39.out⟩
              | false =>
                have h := HPAIR.out 4 w35 (by omega) (by omega) HB35.out
                go_wp2_with fail
                refine h.mono ?_
                rintro e w40 ⟨b40, A40, c40, rfl, hN40⟩
                have HB40 := hidd (HB35.out.trans (b40.mono HB35.out.size))
                have hi := HIA.out w40 A40 c40 hN40 HB40.out
                clear h b40 hN40
                go_wp2_with fail
                refine hi.mono ?_
                rintro e w41 ⟨b41, rfl⟩
                have HB41 := hidd (HB40.out.trans (b41.mono HB40.out.size))
                clear hi b41
                have h := HWRAP.out 0 (-1) w41 HB41.out
                go_wp2_with fail
                refine h.mono ?_
                rintro e w42 ⟨b42, A42, c42, rfl, hN42⟩
                have HB42 := hidd (HB41.out.trans (b42.mono HB41.out.size))
                have hi := HIS.out w42 A42 c42 hN42 HB42.out
                clear h b42 hN42
                go_wp2_with fail
                refine hi.mono ?_
                rintro e w43 ⟨b43, rfl⟩
                have HB43 := hidd (HB42.out.trans (b43.mono HB42.out.size))
                clear hi b43
                go_wp2
                go_ret
                exact ⟨rfl, HB43.out⟩
          | true =>
            have h := HIY.out w29 HB29.out
            go_wp2_with fail
            refine h.mono ?_
            rintro e w44 ⟨b44, rfl⟩
            have HB44 := hidd (HB29.out.trans (b44.mono HB29.out.size))
            clear h b44
            cases a1 with
            | true =>
              have h := HWRAP.out 2 2 w44 HB44.out
              go_wp2_with fail
              refine h.mono ?_
              rintro e w45 ⟨b45, A45, c45, rfl, hN45⟩
              have HB45 := hidd (HB44.out.trans (b45.mono HB44.out.size))
              have hi := HIW.out (by trivial) (by trivial) w45 A45 c45 hN45 HB45.out
              clear h b45 hN45
              go_wp2_with fail
              refine hi.mono ?_
              rintro e w46 ⟨b46, rfl⟩
              have HB46 := hidd (HB45.out.trans (b46.mono HB45.out.size))
              clear hi b46
              have h := HPAIR.out 4 w46 (by omega) (by omega) HB46.out
              go_wp2_with fail
              refine h.mono ?_
              rintro e w47 ⟨b47, A47, c47, rfl, hN47⟩
              have HB47 := hidd (HB46.out.trans (b47.mono HB46.out.size))
              have hi := HIA.out w47 A47 c47 hN47 HB47.out
              clear h b47 hN47
              go_wp2_with fail
              refine hi.mono ?_
              rintro e w48 ⟨b48, rfl⟩
              have HB48 := hidd (HB47.out.trans (b48.mono HB47.out.size))
              clear hi b48
              have h := HWRAP.out 0 (-1) w48 HB48.out
              go_wp2_with fail
              refine h.mono ?_
              rintro e w49 ⟨b49, A49, c49, rfl, hN49⟩
              have HB49 := hidd (HB48.out.trans (b49.mono HB48.out.size))
              have hi := HIS.out w49 A49 c49 hN49 HB49.out
              clear h b49 hN49
              go_wp2_with fail
              refine hi.mono ?_
              rintro e w50 ⟨b50, rfl⟩
              have HB50 := hidd (HB49.out.trans (b50.mono HB49.out.size))
              clear hi b50
              go_wp2
              go_ret
              exact ⟨rfl, HB50.out⟩
            | false =>
              have h := HIZ.out w44 HB44.out
              go_wp2_with fail
              refine h.mono ?_
              rintro e w51 ⟨b51, rfl⟩
              have HB51 := hidd (HB44.out.trans (b51.mono HB44.out.size))
              clear h b51
              cases a2 with
              | true =>
                have h := HWRAP.out 2 2 w51 HB51.out
                go_wp2_with fail
                refine h.mono ?_
                rintro e w52 ⟨b52, A52, c52, rfl, hN52⟩
                have HB52 := hidd (HB51.out.trans (b52.mono HB51.out.size))
                have hi := HIW.out (by trivial) (by trivial) w52 A52 c52 hN52 HB52.out
                clear h b52 hN52
                go_wp2_with fail
                refine hi.mono ?_
                rintro e w53 ⟨b53, rfl⟩
                have HB53 := hidd (HB52.out.trans (b53.mono HB52.out.size))
                clear hi b53
                have h := HPAIR.out 4 w53 (by omega) (by omega) HB53.out
                go_wp2_with fail
                refine h.mono ?_
                rintro e w54 ⟨b54, A54, c54, rfl, hN54⟩
                have HB54 := hidd (HB53.out.trans (b54.mono HB53.out.size))
                have hi := HIA.out w54 A54 c54 hN54 HB54.out
                clear h b54 hN54
                go_wp2_with fail
                refine hi.mono ?_
                rintro e w55 ⟨b55, rfl⟩
                have HB55 := hidd (HB54.out.trans (b55.mono HB54.out.size))
                clear hi b55
                have h := HWRAP.out 0 (-1) w55 HB55.out
                go_wp2_with fail
                refine h.mono ?_
                rintro e w56 ⟨b56, A56, c56, rfl, hN56⟩
                have HB56 := hidd (HB55.out.trans (b56.mono HB55.out.size))
                have hi := HIS.out w56 A56 c56 hN56 HB56.out
                clear h b56 hN56
                go_wp2_with fail
                refine hi.mono ?_
                rintro e w57 ⟨b57, rfl⟩
                have HB57 := hidd (HB56.out.trans (b57.mono HB56.out.size))
                clear hi b57
                go_wp2
                go_ret
                exact ⟨rfl, HB57.out⟩
              | false =>
                have h := HWRAP.out 2 2 w51 HB51.out
                go_wp2_with fail
                refine h.mono ?_
                rintro e w58 ⟨b58, A58, c58, rfl, hN58⟩
                have HB58 := hidd (HB51.out.trans (b58.mono HB51.out.size))
                have hi := HIW.out (by trivial) (by trivial) w58 A58 c58 hN58 HB58.out
                clear h b58 hN58
                go_wp2_with fail
                refine hi.mono ?_
                rintro e w59 ⟨b59, rfl⟩
                have HB59 := hidd (HB58.out.trans (b59.mono HB58.out.size))
                clear hi b59
                have h := HPAIR.out 4 w59 (by omega) (by omega) HB59.out
                go_wp2_with fail
                refine h.mono ?_
                rintro e w60 ⟨b60, A60, c60, rfl, hN60⟩
                have HB60 := hidd (HB59.out.trans (b60.mono HB59.out.size))
                have hi := HIA.out w60 A60 c60 hN60 HB60.out
                clear h b60 hN60
                go_wp2_with fail
                refine hi.mono ?_
                rintro e w61 ⟨b61, rfl⟩
                have HB61 := hidd (HB60.out.trans (b61.mono HB60.out.size))
                clear hi b61
                have h := HWRAP.out 0 (-1) w61 HB61.out
                go_wp2_with fail
                refine h.mono ?_
                rintro e w62 ⟨b62, A62, c62, rfl, hN62⟩
                have HB62 := hidd (HB61.out.trans (b62.mono HB61.out.size))
                have hi := HIS.out w62 A62 c62 hN62 HB62.out
                clear h b62 hN62
                go_wp2_with fail
                refine hi.mono ?_
                rintro e w63 ⟨b63, rfl⟩
                have HB63 := hidd (HB62.out.trans (b63.mono HB62.out.size))
                clear hi b63
                go_wp2
                go_ret
                exact ⟨rfl, HB63.out⟩
        | true =>
          have h := HI4.out w27 HB27.out
          go_wp2_with fail
          refine h.mono ?_
          rintro e w64 ⟨b64, rfl⟩
          have HB64 := hidd (HB27.out.trans (b64.mono HB27.out.size))
          clear h b64
          have h := HI3.out w64 HB64.out
          go_wp2_with fail
          refine h.mono ?_
          rintro e w65 ⟨b65, rfl⟩
          have HB65 := hidd (HB64.out.trans (b65.mono HB64.out.size))
          clear h b65
          cases p3 with
          | false =>
            have h := HIY.out w65 HB65.out
            go_wp2_with fail
            refine h.mono ?_
            rintro e w66 ⟨b66, rfl⟩
            have HB66 := hidd (HB65.out.trans (b66.mono HB65.out.size))
            clear h b66
            cases a1 with
            | true =>
              have h := HPAIR.out 3 w66 (by omega) (by omega) HB66.out
              go_wp2_with fail
              refine h.mono ?_
              rintro e w67 ⟨b67, A67, c67, rfl, hN67⟩
              have HB67 := hidd (HB66.out.trans (b67.mono HB66.out.size))
              have hi := HIC.out (by trivial) (by trivial) w67 A67 c67 hN67 HB67.out
              clear h b67 hN67
              go_wp2_with fail
              refine hi.mono ?_
              rintro e w68 ⟨b68, rfl⟩
              have HB68 := hidd (HB67.out.trans (b68.mono HB67.out.size))
              clear hi b68
              have h := HPAIR.out 4 w68 (by omega) (by omega) HB68.out
              go_wp2_with fail
              refine h.mono ?_
              rintro e w69 ⟨b69, A69, c69, rfl, hN69⟩
              have HB69 := hidd (HB68.out.trans (b69.mono HB68.out.size))
              have hi := HIA.out w69 A69 c69 hN69 HB69.out
              clear h b69 hN69
              go_wp2_with fail
              refine hi.mono ?_
              rintro e w70 ⟨b70, rfl⟩
              have HB70 := hidd (HB69.out.trans (b70.mono HB69.out.size))
              clear hi b70
              have h := HWRAP.out 0 (-1) w70 HB70.out
              go_wp2_with fail
              refine h.mono ?_
              rintro e w71 ⟨b71, A71, c71, rfl, hN71⟩
              have HB71 := hidd (HB70.out.trans (b71.mono HB70.out.size))
              have hi := HIS.out w71 A71 c71 hN71 HB71.out
              clear h b71 hN71
              go_wp2_with fail
              refine hi.mono ?_
              rintro e w72 ⟨b72, rfl⟩
              have HB72 := hidd (HB71.out.trans (b72.mono HB71.out.size))
              clear hi b72
              go_wp2
              go_ret
              exact ⟨rfl, HB72.out⟩
            | false =>
              have h := HIZ.out w66 HB66.out
              go_wp2_with fail
              refine h.mono ?_
              rintro e w73 ⟨b73, rfl⟩
              have HB73 := hidd (HB66.out.trans (b73.mono HB66.out.size))
              clear h b73
              cases a2 with
              | true =>
                have h := HPAIR.out 3 w73 (by omega) (by omega) HB73.out
                go_wp2_with fail
                refine h.mono ?_
                rintro e w74 ⟨b74, A74, c74, rfl, hN74⟩
                have HB74 := hidd (HB73.out.trans (b74.mono HB73.out.size))
                have hi := HIC.out (by trivial) (by trivial) w74 A74 c74 hN74 HB74.out
                clear h b74 hN74
                go_wp2_with fail
                refine hi.mono ?_
                rintro e w75 ⟨b75, rfl⟩
                have HB75 := hidd (HB74.out.trans (b75.mono HB74.out.size))
                clear hi b75
                have h := HPAIR.out 4 w75 (by omega) (by omega) HB75.out
                go_wp2_with fail
                refine h.mono ?_
                rintro e w76 ⟨b76, A76, c76, rfl, hN76⟩
                have HB76 := hidd (HB75.out.trans (b76.mono HB75.out.size))
                have hi := HIA.out w76 A76 c76 hN76 HB76.out
                clear h b76 hN76
                go_wp2_with fail
                refine hi.mono ?_
                rintro e w77 ⟨b77, rfl⟩
                have HB77 := hidd (HB76.out.trans (b77.mono HB76.out.size))
                clear hi b77
                have h := HWRAP.out 0 (-1) w77 HB77.out
                go_wp2_with fail
                refine h.mono ?_
                rintro e w78 ⟨b78, A78, c78, rfl, hN78⟩
                have HB78 := hidd (HB77.out.trans (b78.mono HB77.out.size))
                have hi := HIS.out w78 A78 c78 hN78 HB78.out
                clear h b78 hN78
                go_wp2_with fail
                refine hi.mono ?_
                rintro e w79 ⟨b79, rfl⟩
                have HB79 := hidd (HB78.out.trans (b79.mono HB78.out.size))
                clear hi b79
                go_wp2
                go_ret
                exact ⟨rfl, HB79.out⟩
              | false =>
                have h := HPAIR.out 3 w73 (by omega) (by omega) HB73.out
                go_wp2_with fail
                refine h.mono ?_
                rintro e w80 ⟨b80, A80, c80, rfl, hN80⟩
                have HB80 := hidd (HB73.out.trans (b80.mono HB73.out.size))
                have hi := HIC.out (by trivial) (by trivial) w80 A80 c80 hN80 HB80.out
                clear h b80 hN80
                go_wp2_with fail
                refine hi.mono ?_
                rintro e w81 ⟨b81, rfl⟩
                have HB81 := hidd (HB80.out.trans (b81.mono HB80.out.size))
                clear hi b81
                have h := HPAIR.out 4 w81 (by omega) (by omega) HB81.out
                go_wp2_with fail
                refine h.mono ?_
                rintro e w82 ⟨b82, A82, c82, rfl, hN82⟩
                have HB82 := hidd (HB81.out.trans (b82.mono HB81.out.size))
                have hi := HIA.out w82 A82 c82 hN82 HB82.out
                clear h b82 hN82
                go_wp2_with fail
                refine hi.mono ?_
                rintro e w83 ⟨b83, rfl⟩
                have HB83 := hidd (HB82.out.trans (b83.mono HB82.out.size))
                clear hi b83
                have h := HWRAP.out 0 (-1) w83 HB83.out
                go_wp2_with fail
                refine h.mono ?_
                rintro e w84 ⟨b84, A84, c84, rfl, hN84⟩
                have HB84 := hidd (HB83.out.trans (b84.mono HB83.out.size))
                have hi := HIS.out w84 A84 c84 hN84 HB84.out
                clear h b84 hN84
                go_wp2_with fail
                refine hi.mono ?_
                rintro e w85 ⟨b85, rfl⟩
                have HB85 := hidd (HB84.out.trans (b85.mono HB84.out.size))
                clear hi b85
                go_wp2
                go_ret
                exact ⟨rfl, HB85.out⟩
          | true =>
            have h := HIY.out w65 HB65.out
            go_wp2_with fail
            refine h.mono ?_
            rintro e w86 ⟨b86, rfl⟩
            have HB86 := hidd (HB65.out.trans (b86.mono HB65.out.size))
            clear h b86
            cases a1 with
            | true =>
              have h := HPAIR.out 3 w86 (by omega) (by omega) HB86.out
              go_wp2_with fail
              refine h.mono ?_
              rintro e w87 ⟨b87, A87, c87, rfl, hN87⟩
              have HB87 := hidd (HB86.out.trans (b87.mono HB86.out.size))
              have hi := HIC.out (by trivial) (by trivial) w87 A87 c87 hN87 HB87.out
              clear h b87 hN87
              go_wp2_with fail
              refine hi.mono ?_
              rintro e w88 ⟨b88, rfl⟩
              have HB88 := hidd (HB87.out.trans (b88.mono HB87.out.size))
              clear hi b88
              have h := HWRAP.out 2 2 w88 HB88.out
              go_wp2_with fail
              refine h.mono ?_
              rintro e w89 ⟨b89, A89, c89, rfl, hN89⟩
              have HB89 := hidd (HB88.out.trans (b89.mono HB88.out.size))
              have hi := HIW.out (by trivial) (by trivial) w89 A89 c89 hN89 HB89.out
              clear h b89 hN89
              go_wp2_with fail
              refine hi.mono ?_
              rintro e w90 ⟨b90, rfl⟩
              have HB90 := hidd (HB89.out.trans (b90.mono HB89.out.size))
              clear hi b90
              have h := HPAIR.out 4 w90 (by omega) (by omega) HB90.out
              go_wp2_with fail
              refine h.mono ?_
              rintro e w91 ⟨b91, A91, c91, rfl, hN91⟩
              have HB91 := hidd (HB90.out.trans (b91.mono HB90.out.size))
              have hi := HIA.out w91 A91 c91 hN91 HB91.out
              clear h b91 hN91
              go_wp2_with fail
              refine hi.mono ?_
              rintro e w92 ⟨b92, rfl⟩
              have HB92 := hidd (HB91.out.trans (b92.mono HB91.out.size))
              clear hi b92
              have h := HWRAP.out 0 (-1) w92 HB92.out
              go_wp2_with fail
              refine h.mono ?_
              rintro e w93 ⟨b93, A93, c93, rfl, hN93⟩
              have HB93 := hidd (HB92.out.trans (b93.mono HB92.out.size))
              have hi := HIS.out w93 A93 c93 hN93 HB93.out
              clear h b93 hN93
              go_wp2_with fail
              refine hi.mono ?_
              rintro e w94 ⟨b94, rfl⟩
              have HB94 := hidd (HB93.out.trans (b94.mono HB93.out.size))
              clear hi b94
              go_wp2
              go_ret
              exact ⟨rfl, HB94.out⟩
            | false =>
              have h := HIZ.out w86 HB86.out
              go_wp2_with fail
              refine h.mono ?_
              rintro e w95 ⟨b95, rfl⟩
              have HB95 := hidd (HB86.out.trans (b95.mono HB86.out.size))
              clear h b95
              cases a2 with
              | true =>
                have h := HPAIR.out 3 w95 (by omega) (by omega) HB95.out
                go_wp2_with fail
                refine h.mono ?_
                rintro e w96 ⟨b96, A96, c96, rfl, hN96⟩
                have HB96 := hidd (HB95.out.trans (b96.mono HB95.out.size))
                have hi := HIC.out (by trivial) (by trivial) w96 A96 c96 hN96 HB96.out
                clear h b96 hN96
                go_wp2_with fail
                refine hi.mono ?_
                rintro e w97 ⟨b97, rfl⟩
                have HB97 := hidd (HB96.out.trans (b97.mono HB96.out.size))
                clear hi b97
                have h := HWRAP.out 2 2 w97 HB97.out
                go_wp2_with fail
                refine h.mono ?_
                rintro e w98 ⟨b98, A98, c98, rfl, hN98⟩
                have HB98 := hidd (HB97.out.trans (b98.mono HB97.out.size))
                have hi := HIW.out (by trivial) (by trivial) w98 A98 c98 hN98 HB98.out
                clear h b98 hN98
                go_wp2_with fail
                refine hi.mono ?_
                rintro e w99 ⟨b99, rfl⟩
                have HB99 := hidd (HB98.out.trans (b99.mono HB98.out.size))
                clear hi b99
                have h := HPAIR.out 4 w99 (by omega) (by omega) HB99.out
                go_wp2_with fail
                refine h.mono ?_
                rintro e w100 ⟨b100, A100, c100, rfl, hN100⟩
                have HB100 := hidd (HB99.out.trans (b100.mono HB99.out.size))
                have hi := HIA.out w100 A100 c100 hN100 HB100.out
                clear h b100 hN100
                go_wp2_with fail
                refine hi.mono ?_
                rintro e w101 ⟨b101, rfl⟩
                have HB101 := hidd (HB100.out.trans (b101.mono HB100.out.size))
                clear hi b101
                have h := HWRAP.out 0 (-1) w101 HB101.out
                go_wp2_with fail
                refine h.mono ?_
                rintro e w102 ⟨b102, A102, c102, rfl, hN102⟩
                have HB102 := hidd (HB101.out.trans (b102.mono HB101.out.size))
                have hi := HIS.out w102 A102 c102 hN102 HB102.out
                clear h b102 hN102
                go_wp2_with fail
                refine hi.mono ?_
                rintro e w103 ⟨b103, rfl⟩
                have HB103 := hidd (HB102.out.trans (b103.mono HB102.out.size))
                clear hi b103
                go_wp2
                go_ret
                exact ⟨rfl, HB103.out⟩
              | false =>
                have h := HPAIR.out 3 w95 (by omega) (by omega) HB95.out
                go_wp2_with fail
                refine h.mono ?_
                rintro e w104 ⟨b104, A104, c104, rfl, hN104⟩
                have HB104 := hidd (HB95.out.trans (b104.mono HB95.out.size))
                have hi := HIC.out (by trivial) (by trivial) w104 A104 c104 hN104 HB104.out
                clear h b104 hN104
                go_wp2_with fail
                refine hi.mono ?_
                rintro e w105 ⟨b105, rfl⟩
                have HB105 := hidd (HB104.out.trans (b105.mono HB104.out.size))
                clear hi b105
                have h := HWRAP.out 2 2 w105 HB105.out
                go_wp2_with fail
                refine h.mono ?_
                rintro e w106 ⟨b106, A106, c106, rfl, hN106⟩
                have HB106 := hidd (HB105.out.trans (b106.mono HB105.out.size))
                have hi := HIW.out (by trivial) (by trivial) w106 A106 c106 hN106 HB106.out
                clear h b106 hN106
                go_wp2_with fail
                refine hi.mono ?_
                rintro e w107 ⟨b107, rfl⟩
                have HB107 := hidd (HB106.out.trans (b107.mono HB106.out.size))
                clear hi b107
                have h := HPAIR.out 4 w107 (by omega) (by omega) HB107.out
                go_wp2_with fail
                refine h.mono ?_
                rintro e w108 ⟨b108, A108, c108, rfl, hN108⟩
                have HB108 := hidd (HB107.out.trans (b108.mono HB107.out.size))
                have hi := HIA.out w108 A108 c108 hN108 HB108.out
                clear h b108 hN108
                go_wp2_with fail
                refine hi.mono ?_
                rintro e w109 ⟨b109, rfl⟩
                have HB109 := hidd (HB108.out.trans (b109.mono HB108.out.size))
                clear hi b109
                have h := HWRAP.out 0 (-1) w109 HB109.out
                go_wp2_with fail
                refine h.mono ?_
                rintro e w110 ⟨b110, A110, c110, rfl, hN110⟩
                have HB110 := hidd (HB109.out.trans (b110.mono HB109.out.size))
                have hi := HIS.out w110 A110 c110 hN110 HB110.out
                clear h b110 hN110
                go_wp2_with fail
                refine hi.mono ?_
                rintro e w111 ⟨b111, rfl⟩
                have HB111 := hidd (HB110.out.trans (b111.mono HB110.out.size))
                clear hi b111
                go_wp2
                go_ret
                exact ⟨rfl, HB111.out⟩
end Go.Proofs.YtcgondjekpcpgaaDoor.Sy.Lg.En

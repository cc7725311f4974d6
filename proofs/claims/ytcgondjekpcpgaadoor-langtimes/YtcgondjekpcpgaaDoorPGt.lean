/- LangTimes' walk. -/
import Derived.Test.YtcgondjekpcpgaaDoorPGr
namespace Go.Proofs.YtcgondjekpcpgaaDoor.Sy.Lg.En
open Go.RowKit Go.Proofs.YtcgondjekpcpgaaDoor.Sy.Ap Go.Proofs.YtcgondjekpcpgaaDoor.Sy.Ap.Wk
set_option maxRecDepth 100000
set_option linter.unusedVariables false

/-- One row of bools. -/
structure OnS (w : World) (qa n : Nat) (fa : Nat → Bool) (u : World) : Prop where
  a : RowF u qa 4 n (fun i => .bool (fa i))
  la : w.heap.size ≤ qa
  bel : Below w.heap.size w u
theorem OnS.below {w : World} {qa n : Nat} {fa : Nat → Bool} {u u' : World} (h : OnS w qa n fa u) (hb : Below u.heap.size u u') : OnS w qa n fa u' :=
  ⟨h.a.below hb h.a.lt, h.la, h.bel.trans (hb.mono h.bel.size)⟩
theorem own_set4 {u : World} {base q k m l : Nat} {z : Value} {xs : List Value} {h : Nat → Value} (ho : u.ownsRow base 3 1 z l xs) (hr : RowF u q 4 m h) (y : Value) : (u.setCell ⟨q, k, none⟩ y).ownsRow base 3 1 z l xs :=
  own_sb ho (own_ne ho hr (by decide)) y
set_option maxHeartbeats 4000000 in
theorem lawLangTimes_any (A : Option Addr) (c : Nat) (gs : List Gd) (s : ByteArray) (x x3 x4 : Int) (w : World) (hN : Nds w w.heap.size A gs) (hm : gs.length ≤ maxLen) (hsm : Small gs) (hs : s.size ≤ maxLen) (x0 : 0 ≤ x) (x1 : x ≤ 255) (y0 : 0 ≤ x3) (y1 : x3 ≤ 255) (z0 : 0 ≤ x4) (z1 : x4 ≤ 255) (hD : DB w) :
    Calls Tryd.prog 5 #[.slice A gs.length c, .string s, .int .u8 x, .int .u8 x3, .int .u8 x4] w fun e w' => e = .returned (.bool true) ∧ Below w.heap.size w w' := by
  have hsh := shown7_any w hD
  have HTX : Hid (∀ u, _) := fun u => text_any s u hs
  have HGD : Hid (∀ u, Below w.heap.size w u → Calls Tryd.prog 21 #[.slice A gs.length c] u fun e w' => GoodR gs u e w') := fun u hu => good_any A c gs u ((hN.below hu).more hu.size) hm hsm
  have hyz := text_size s
  have HN := hidd hN
  have HD := hidd hD
  clear hN hD hsm
  generalize cutS 20 s = y at *
  obtain ⟨f, hf⟩ : ∃ f : Nat, Int.tmod x ((y.size : Int) + 1) = (f : Int) := ⟨(x % ((y.size : Int) + 1)).toNat, by
    rw [Int.tmod_eq_emod_of_nonneg x0]
    have := Int.emod_nonneg x (b := (y.size : Int) + 1) (by omega)
    omega⟩
  have hfy : f ≤ y.size := by
    rw [Int.tmod_eq_emod_of_nonneg x0] at hf
    have := Int.emod_lt_of_pos x (b := (y.size : Int) + 1) (by omega)
    omega
  have hw1 : IntKind.i64.wrap x = x := by rw [IntKind.wrap_i64]; omega
  obtain ⟨a, ha⟩ : ∃ a : Nat, Int.tmod x3 6 = (a : Int) := ⟨(x3 % 6).toNat, by rw [Int.tmod_eq_emod_of_nonneg y0]; omega⟩
  obtain ⟨d, hd⟩ : ∃ d : Nat, Int.tmod x4 6 = (d : Int) := ⟨(x4 % 6).toNat, by rw [Int.tmod_eq_emod_of_nonneg z0]; omega⟩
  have ha5 : a ≤ 5 := by rw [Int.tmod_eq_emod_of_nonneg y0] at ha; omega
  have hd5 : d ≤ 5 := by rw [Int.tmod_eq_emod_of_nonneg z0] at hd; omega
  have ha8 : IntKind.u8.wrap (a : Int) = (a : Int) := by rw [IntKind.wrap_u8]; omega
  have hd8 : IntKind.u8.wrap (d : Int) = (d : Int) := by rw [IntKind.wrap_u8]; omega
  obtain ⟨b, hb⟩ : ∃ b : Nat, (a : Int) + (d : Int) = (b : Int) := ⟨a + d, by omega⟩
  obtain ⟨n1, hn1'⟩ : ∃ n, gs.length = n := ⟨_, rfl⟩
  have HNL := hidd hn1'
  rw [hn1'] at hm HGD
  rw [hn1']
  unfold maxLen at hm
  clear hn1'
  go_enter Tryd.func5, Tryd.ntmps5
  go_wp2_with fail
  refine hsh.mono ?_
  rintro e w1 ⟨rfl, b1⟩
  have HB1 := hidd b1
  clear hsh b1
  go_wp2_with fail
  refine (HTX.out w1).mono ?_
  rintro e w2 ⟨rfl, rfl⟩
  have hgd := HGD.out w2 HB1.out
  go_wp2_with fail
  refine hgd.mono ?_
  rintro e w3 ⟨b3, z, rfl, hz⟩
  have HB3 := hidd (HB1.out.trans (b3.mono HB1.out.size))
  have HZ := hidd hz
  clear hgd b3 hz
  cases z with
  | false =>
    go_wp2
    go_ret
    exact ⟨rfl, HB3.out⟩
  | true =>
    obtain ⟨h30, hpg⟩ := HZ.out (by trivial)
    obtain ⟨ns, hg, ht⟩ := gn_tree hpg.2
    have hpn := (plain_tree hg ht).1 hpg
    obtain ⟨e2, he2⟩ : ∃ e2 : Nat, (a : Int) + (y.size : Int) + 1 = (e2 : Int) := ⟨a + (y.size + 1), by omega⟩
    have HENDS : Hid (∀ (k : Nat) u, k ≤ y.size → Below w.heap.size w u → EndsL #[.slice A n1 c, .string y, .int .i64 (k : Int)] (endL ns (bs y) k) u) := fun k u hk hu => by
      have := ends_tree (c := c) (s := y) (i := k) ((HN.out.below hu).more hu.size) hg ht hpn (by omega) hk (HD.out.below hu)
      rw [HNL.out] at this
      exact this
    have HMEM : Hid (∀ k j, k ≤ y.size → (j ∈ endL ns (bs y) k ↔ Mt ns (bs y) (ns.length - 1) k j)) := fun k j hk => mem_endL ht.low (by rw [bs_len]; exact hk)
    have HRL : Hid (∀ i j, Mt ns (bs y) (ns.length - 1) i j → i ≤ y.size → j ≤ y.size) := mt_le ht y
    have HLE : Hid (∀ k, (endL ns (bs y) k).length ≤ 100) := fun k => endL_few ns y k (by omega)
    have HWRAP : Hid (∀ (hi : Int) u, Below w.heap.size w u → Calls Tryd.prog 24 #[.slice A n1 c, .agg #[.int .u8 5, .int .u64 0, .int .u64 0, .int .u64 0, .int .u64 0, .slice none 0 0, .int .i64 (a : Int), .int .i64 hi, .string { data := #[] }]] u fun e w' => Below u.heap.size u w' ∧ ∃ A' c', e = .returned (.slice A' (n1 + 1) c') ∧ Nds w' w'.heap.size A' (gs ++ [repG ((gs.length : Int) - 1) (a : Int) hi])) := fun hi u hu => by
      have := wrap_any (a : Int) hi A c gs ns u ((HN.out.below hu).more hu.size) hg ht (by omega)
      rw [HNL.out] at this
      rw [HNL.out]
      exact this
    have hwt : ∀ hi : Int, (hi = -1 ∨ (1 ≤ hi ∧ hi ≤ 4096 ∧ (a : Int) ≤ hi)) → GN (gs ++ [repG ((gs.length : Int) - 1) (a : Int) hi]) (ns ++ [ndRep (ns.length - 1) (a : Int) hi]) ∧ TreeN (ns ++ [ndRep (ns.length - 1) (a : Int) hi]) ∧ PlainN (ns ++ [ndRep (ns.length - 1) (a : Int) hi]) := fun hi hv => wrap_tree hg ht hpn (by omega) (by omega) (by omega) hv
    have hlen3 : ∀ hi, (gs ++ [repG ((gs.length : Int) - 1) (a : Int) hi]).length = n1 + 1 := fun hi => by simp [HNL.out]
    have HW : Hid (∀ (hi : Int), (hi = -1 ∨ (1 ≤ hi ∧ hi ≤ 4096 ∧ (a : Int) ≤ hi)) → ∀ u A' c', Nds u u.heap.size A' (gs ++ [repG ((gs.length : Int) - 1) (a : Int) hi]) → Below w.heap.size w u → EndsL #[.slice A' (n1 + 1) c', .string y, .int .i64 (f : Int)] (endL (ns ++ [ndRep (ns.length - 1) (a : Int) hi]) (bs y) f) u) := fun hi hv u A' c' hx hu => by
      obtain ⟨q1, q2, q3⟩ := hwt hi hv
      have := ends_tree (c := c') (s := y) (i := f) hx q1 q2 q3 (by omega) hfy (HD.out.below hu)
      rw [hlen3] at this
      exact this
    have HTA : Hid (0 < b → ∀ fa : Nat → Bool, (∀ k, fa k = true ↔ ∃ t, a ≤ t ∧ t < b + 1 ∧ powR (Mt ns (bs y) (ns.length - 1)) t f k) → endL (ns ++ [ndRep (ns.length - 1) (a : Int) (b : Int)]) (bs y) f = someL fa (y.size + 1)) := fun hb0 fa h => times_all ht (hwt (b : Int) (.inr (by omega))).2.1 y hfy h
    have HTE : Hid (endL (ns ++ [ndRep (ns.length - 1) (a : Int) (-1)]) (bs y) f = endL (ns ++ [ndRep (ns.length - 1) (a : Int) (e2 : Int)]) (bs y) f) := by
      have h2 := (hwt (e2 : Int) (.inr (by omega))).2.1
      have e : e2 = a + (y.size + 1) := by omega
      subst e
      exact times_end ht y (hwt (-1) (.inl rfl)).2.1 h2 hfy
    have HLT : Hid (∀ hi : Int, (endL (ns ++ [ndRep (ns.length - 1) (a : Int) hi]) (bs y) f).length ≤ 100) := fun hi => endL_few _ y f (by omega)
    clear hwt hlen3 HGD HZ hg ht hpn h30 hpg HNL HN
    generalize hT : (fun hi => endL (ns ++ [ndRep (ns.length - 1) (a : Int) hi]) (bs y) f) = T at *
    have hTe : ∀ hi, endL (ns ++ [ndRep (ns.length - 1) (a : Int) hi]) (bs y) f = T hi := fun hi => congrFun hT hi
    simp only [hTe] at HW HTA HTE HLT
    clear hT hTe
    generalize hE : (fun k => endL ns (bs y) k) = E at *
    have hEe : ∀ k, endL ns (bs y) k = E k := fun k => congrFun hE k
    simp only [hEe] at HENDS HMEM HLE
    clear hE hEe
    generalize Mt ns (bs y) (ns.length - 1) = R at *
    obtain ⟨n, hn1⟩ : ∃ n : Nat, (y.size : Int) + 1 = (n : Int) := ⟨y.size + 1, rfl⟩
    have hn : n ≤ 1000000 := by omega
    have hwn : IntKind.i64.wrap (n : Int) = (n : Int) := by rw [IntKind.wrap_i64]; omega
    have hnn : n = y.size + 1 := by omega
    have HNN := hidd hnn
    clear hnn
    have hmk := make_bools6 n hn w3
    go_upto_region 8 with fail
    have R0 : RowF (w3.alloc (.cells (fnC n (fun _ => .bool false)) 4)) w3.heap.size 4 n (fun i => .bool ((fun _ => false) i)) := RowF.new w3 4 n _
    have S0 : OnS w w3.heap.size n (fun _ => false) (w3.alloc (.cells (fnC n (fun _ => .bool false)) 4)) := ⟨R0, HB3.out.size, HB3.out.alloc HB3.out.size _⟩
    generalize w3.alloc (.cells (fnC n (fun _ => .bool false)) 4) = w4 at *
    obtain ⟨qa, hqa⟩ : ∃ q, w3.heap.size = q := ⟨_, rfl⟩
    rw [hqa] at S0
    rw [hqa]
    clear hqa R0 hmk
    go_upto_region 9 with fail
    have K0 := World.ownsRow_lit (e := 3) (size := 1) (base := w.heap.size) w4 #[.int .i64 (f : Int)] 1 S0.bel.size (by unfold maxLen; omega) rfl
    have S1 := S0.below (u' := w4.alloc (.cells #[.int .i64 (f : Int)] 3)) ((Below.refl _ _).alloc (Nat.le_refl _) _)
    have HS5 : Hid (OnS w qa n (fun _ => false) (w4.alloc (.cells #[.int .i64 (f : Int)] 3)) ∧ (w4.alloc (.cells #[.int .i64 (f : Int)] 3)).ownsRow w.heap.size 3 1 (.slice (some ⟨w4.heap.size, 0, none⟩) 1 1) 1 (i64s [f])) := ⟨S1, K0⟩
    generalize w4.alloc (.cells #[.int .i64 (f : Int)] 3) = w5 at *
    obtain ⟨qf, hqf⟩ : ∃ q, w4.heap.size = q := ⟨_, rfl⟩
    rw [hqf] at HS5
    rw [hqf]
    clear S0 S1 K0 hqf
    go_wp2
    go_loopw [17, 18] (fun s17 s18 wr => ∃ (i : Nat) (L : List Nat) (AL : Option Addr) (cL : Nat) (fa : Nat → Bool), i ≤ b + 1 ∧ s18 = .int .i64 (i : Int) ∧ s17 = .slice AL L.length cL ∧ OnS w qa n fa wr ∧ wr.ownsRow w.heap.size 3 1 (.slice AL L.length cL) L.length (i64s L) ∧ L.length ≤ 100 ∧ (∀ k, k ∈ L ↔ powR R i f k) ∧ (∀ k, fa k = true ↔ ∃ t, a ≤ t ∧ t < i ∧ powR R t f k)) (fun _ s18 _ => b + 1 - (intOf s18).toNat)
    case atStart => exact ⟨0, [f], _, _, _, by omega, rfl, rfl, HS5.out.1, HS5.out.2, by simp, fun k => by rw [List.mem_singleton]; exact ⟨fun h => h.symm, fun h => h.symm⟩, fun k => by
      constructor
      · intro h; cases h
      · rintro ⟨t, _, h, _⟩; omega⟩
    case round =>
      clear HS5
      obtain ⟨i, L, AL, cL, fa, hi0, rfl, rfl, hS, hown, hL1, hL, hfa⟩ := hrel
      by_cases hib : i < b + 1
      · have hii : (i : Int) ≤ (b : Int) := by omega
        have HL := hidd hL
        have HFA := hidd hfa
        have HS := hidd hS
        have HOW := hidd hown
        obtain ⟨m, hm6⟩ : ∃ m, L.length = m := ⟨_, rfl⟩
        have HM6 := hidd hm6
        rw [hm6] at hL1
        rw [hm6]
        have hmk := make_bools6 n hn wr
        clear hL hfa hS hown hm6
        go_upto_region 13 with fail
        have HRW : Hid (RwS w qa wr.heap.size n fa (fun _ => false) (wr.alloc (.cells (fnC n (fun _ => .bool false)) 4)) ∧ (wr.alloc (.cells (fnC n (fun _ => .bool false)) 4)).ownsRow w.heap.size 3 1 (.slice AL L.length cL) L.length (i64s L)) :=
          ⟨⟨HS.out.a.alloc _, RowF.new wr 4 n _, by have := HS.out.a.lt; omega, HS.out.la, HS.out.bel.size, HS.out.bel.alloc HS.out.bel.size _⟩, HOW.out.alloc _⟩
        generalize wr.alloc (.cells (fnC n (fun _ => .bool false)) 4) = w6 at *
        obtain ⟨qc, hqc⟩ : ∃ q, wr.heap.size = q := ⟨_, rfl⟩
        rw [hqc] at HRW
        rw [hqc]
        clear hqc hmk HS HOW
        go_wp2
        go_loopw [65] (fun s65 wr => ∃ (k : Nat) (fb fc : Nat → Bool), k ≤ m ∧ s65 = .int .i64 (k : Int) ∧ RwS w qa qc n fb fc wr ∧ wr.ownsRow w.heap.size 3 1 (.slice AL L.length cL) L.length (i64s L) ∧ (∀ j, fb j = true ↔ fa j = true ∨ (a ≤ i ∧ j ∈ L.take k)) ∧ (∀ j, fc j = true ↔ ∃ x, x ∈ L.take k ∧ R x j)) (fun s65 _ => m - (intOf s65).toNat)
        case atStart => exact ⟨0, _, _, Nat.zero_le _, rfl, HRW.out.1, HRW.out.2, fun j => by simp, fun j => by simp⟩
        case round =>
          clear HRW
          obtain ⟨k, fb, fc, hk0, rfl, hS, hown, hfb, hfc⟩ := hrel
          by_cases hlt : k < m
          · have hkE : k < L.length := by rw [HM6.out]; exact hlt
            obtain ⟨g1, o1, rfl, _, hc1⟩ := own_at hown hkE
            have hvm : L.getD k 0 ∈ L := by
              rw [List.getD_eq_getElem?_getD, List.getElem?_eq_getElem hkE]
              exact List.getElem_mem hkE
            have hvu : L.getD k 0 ≤ y.size := powR_le HRL.out i f _ ((HL.out _).1 hvm) hfy
            have HTK : Hid (∀ x, x ∈ L.take (k + 1) ↔ x ∈ L.take k ∨ x = L.getD k 0) := take_mem_snoc hkE
            generalize L.getD k 0 = v at *
            have hki : (k : Int) < (m : Int) := by omega
            have hv0 : ¬ (v : Int) < 0 := by omega
            have hvy : ¬ (y.size : Int) < (v : Int) := by omega
            have hvn : v < n := by have := HNN.out; omega
            have hvni : (v : Int) < (n : Int) := by omega
            have tg := hS.a.thawed v
            have cg := hS.a.at_ v hvn
            have HFB := hidd hfb
            have HFC := hidd hfc
            have HMV : Hid (∀ j, j ∈ E v ↔ R v j) := fun j => HMEM.out v j hvu
            by_cases hai : a ≤ i
            · have haii : (a : Int) ≤ (i : Int) := by omega
              have S7 := hS.seta v
              have own7 := own_set4 (k := v) hown hS.a (.bool true)
              have HFB2 : Hid (∀ j, (if j = v then true else fb j) = true ↔ fa j = true ∨ (a ≤ i ∧ j ∈ L.take (k + 1))) := fun j => by
                rw [HTK.out]
                by_cases e : j = v
                · simp [e, hai]
                · rw [if_neg e, HFB.out]
                  simp [e]
              clear hS hown hfb hfc hkE hvm
              go_upto_region 20 with fail
              generalize wr.setCell ⟨qa, v, none⟩ (.bool true) = w7 at *
              have hE7 := HENDS.out v w7 hvu S7.bel
              have HS7 := hidd S7
              have HO7 := hidd own7
              clear S7 own7 tg cg hc1
              go_wp2_with fail
              refine hE7.mono ?_
              rintro e w8 ⟨b8, A8, c8, rfl, own8⟩
              have HS8 := hidd (And.intro (HS7.out.below b8) (And.intro (own_below HO7.out b8 (Nat.le_refl _)) own8))
              obtain ⟨m8, hm8⟩ : ∃ m, (E v).length = m := ⟨_, rfl⟩
              have HM8 := hidd hm8
              have hlm8 : m8 ≤ 100 := by rw [← hm8]; exact HLE.out v
              rw [hm8]
              obtain ⟨B8, hB8⟩ : ∃ B, w7.heap.size = B := ⟨_, rfl⟩
              rw [hB8] at HS8
              clear hE7 b8 own8 HS7 HO7 hm8 hB8
              obtain ⟨fg, hfg⟩ : ∃ fg : Nat → Bool, RwS w qa qc n fg fc w8 ∧ (∀ j, fg j = true ↔ fa j = true ∨ (a ≤ i ∧ j ∈ L.take (k + 1))) := ⟨_, HS8.out.1, HFB2.out⟩
              have HSG := hidd (And.intro hfg.1 HS8.out.2)
              have HFG := hidd hfg.2
              clear hfg HS8 HFB2
              go_wp2
              go_loopw [88] (fun s88 wr => ∃ (p : Nat) (fd : Nat → Bool), p ≤ m8 ∧ s88 = .int .i64 (p : Int) ∧ RwS w qa qc n fg fd wr ∧ wr.ownsRow w.heap.size 3 1 (.slice (some ⟨g1, o1, none⟩) L.length cL) L.length (i64s L) ∧ wr.ownsRow B8 3 1 (.slice A8 (E v).length c8) (E v).length (i64s (E v)) ∧ ∀ j, fd j = true ↔ fc j = true ∨ j ∈ (E v).take p) (fun s88 _ => m8 - (intOf s88).toNat)
              case atStart => exact ⟨0, _, Nat.zero_le _, rfl, HSG.out.1, HSG.out.2.1, HSG.out.2.2, fun j => by simp⟩
              case round =>
                clear HSG
                obtain ⟨p, fd, hp0, rfl, hS, hown, hown8, hfd⟩ := hrel
                by_cases hpt : p < m8
                · have hpF : p < (E v).length := by rw [HM8.out]; exact hpt
                  obtain ⟨g2, o2, rfl, _, hc2⟩ := own_at hown8 hpF
                  have hxm : (E v).getD p 0 ∈ E v := by
                    rw [List.getD_eq_getElem?_getD, List.getElem?_eq_getElem hpF]
                    exact List.getElem_mem hpF
                  have hxu := HRL.out _ _ ((HMV.out _).1 hxm) hvu
                  have HTB : Hid (∀ x, x ∈ (E v).take (p + 1) ↔ x ∈ (E v).take p ∨ x = (E v).getD p 0) := take_mem_snoc hpF
                  generalize (E v).getD p 0 = z at *
                  have hpi : (p : Int) < (m8 : Int) := by omega
                  have hz0 : ¬ (z : Int) < 0 := by omega
                  have hzy : ¬ (y.size : Int) < (z : Int) := by omega
                  have hzn : z < n := by have := HNN.out; omega
                  have hzni : (z : Int) < (n : Int) := by omega
                  have tg := hS.c.thawed z
                  have cg := hS.c.at_ z hzn
                  have HS9 : Hid (RwS w qa qc n fg (fun j => if j = z then true else fd j) (wr.setCell ⟨qc, z, none⟩ (.bool true)) ∧ (wr.setCell ⟨qc, z, none⟩ (.bool true)).ownsRow w.heap.size 3 1 (.slice (some ⟨g1, o1, none⟩) L.length cL) L.length (i64s L) ∧ (wr.setCell ⟨qc, z, none⟩ (.bool true)).ownsRow B8 3 1 (.slice (some ⟨g2, o2, none⟩) (E v).length c8) (E v).length (i64s (E v))) :=
                    ⟨hS.setc z, own_set4 (k := z) hown hS.c (.bool true), own_set4 (k := z) hown8 hS.c (.bool true)⟩
                  have HFD : Hid (∀ j, (if j = z then true else fd j) = true ↔ fc j = true ∨ j ∈ (E v).take (p + 1)) := fun j => by
                    rw [HTB.out]
                    by_cases e : j = z
                    · simp [e]
                    · rw [if_neg e, hfd]
                      simp [e]
                  clear hS hown hown8 hfd hpF hxm hxu
                  go_wp2
                  exact ⟨⟨p + 1, _, by omega, rfl, HS9.out.1, HS9.out.2.1, HS9.out.2.2, HFD.out⟩, by simp [intOf]; omega⟩
                · have hbe : (E v).take p = E v := List.take_of_length_le (by rw [HM8.out]; omega)
                  rw [hbe] at hfd
                  have HS9 : Hid (RwS w qa qc n fg fd wr ∧ wr.ownsRow w.heap.size 3 1 (.slice (some ⟨g1, o1, none⟩) L.length cL) L.length (i64s L)) := ⟨hS, hown⟩
                  have HFD : Hid (∀ j, fd j = true ↔ ∃ x, x ∈ L.take (k + 1) ∧ R x j) := fun j => by
                    rw [hfd, HFC.out, HMV.out]
                    constructor
                    · rintro (⟨i, h1, h2⟩ | h)
                      · exact ⟨i, (HTK.out i).2 (.inl h1), h2⟩
                      · exact ⟨v, (HTK.out v).2 (.inr rfl), h⟩
                    · rintro ⟨i, h1, h2⟩
                      rcases (HTK.out i).1 h1 with q | q
                      · exact .inl ⟨i, q, h2⟩
                      · subst q; exact .inr h2
                  clear hS hown hown8 hfd hbe
                  go_wp2
                  exact ⟨⟨k + 1, _, _, by omega, rfl, HS9.out.1, HS9.out.2, HFG.out, HFD.out⟩, by simp [intOf]; omega⟩
            · have haii : ¬ (a : Int) ≤ (i : Int) := by omega
              have S7 : RwS w qa qc n fb fc wr := hS
              have own7 := hown
              have HFB2 : Hid (∀ j, fb j = true ↔ fa j = true ∨ (a ≤ i ∧ j ∈ L.take (k + 1))) := fun j => by
                rw [HFB.out]
                simp [hai]
              clear hS hown hfb hfc hkE hvm
              go_upto_region 20 with fail
              obtain ⟨w7, hw7⟩ : ∃ w7, w7 = wr := ⟨_, rfl⟩
              subst hw7
              have hE7 := HENDS.out v w7 hvu S7.bel
              have HS7 := hidd S7
              have HO7 := hidd own7
              clear S7 own7 tg cg hc1
              go_wp2_with fail
              refine hE7.mono ?_
              rintro e w8 ⟨b8, A8, c8, rfl, own8⟩
              have HS8 := hidd (And.intro (HS7.out.below b8) (And.intro (own_below HO7.out b8 (Nat.le_refl _)) own8))
              obtain ⟨m8, hm8⟩ : ∃ m, (E v).length = m := ⟨_, rfl⟩
              have HM8 := hidd hm8
              have hlm8 : m8 ≤ 100 := by rw [← hm8]; exact HLE.out v
              rw [hm8]
              obtain ⟨B8, hB8⟩ : ∃ B, w7.heap.size = B := ⟨_, rfl⟩
              rw [hB8] at HS8
              clear hE7 b8 own8 HS7 HO7 hm8 hB8
              obtain ⟨fg, hfg⟩ : ∃ fg : Nat → Bool, RwS w qa qc n fg fc w8 ∧ (∀ j, fg j = true ↔ fa j = true ∨ (a ≤ i ∧ j ∈ L.take (k + 1))) := ⟨_, HS8.out.1, HFB2.out⟩
              have HSG := hidd (And.intro hfg.1 HS8.out.2)
              have HFG := hidd hfg.2
              clear hfg HS8 HFB2
              go_wp2
              go_loopw [88] (fun s88 wr => ∃ (p : Nat) (fd : Nat → Bool), p ≤ m8 ∧ s88 = .int .i64 (p : Int) ∧ RwS w qa qc n fg fd wr ∧ wr.ownsRow w.heap.size 3 1 (.slice (some ⟨g1, o1, none⟩) L.length cL) L.length (i64s L) ∧ wr.ownsRow B8 3 1 (.slice A8 (E v).length c8) (E v).length (i64s (E v)) ∧ ∀ j, fd j = true ↔ fc j = true ∨ j ∈ (E v).take p) (fun s88 _ => m8 - (intOf s88).toNat)
              case atStart => exact ⟨0, _, Nat.zero_le _, rfl, HSG.out.1, HSG.out.2.1, HSG.out.2.2, fun j => by simp⟩
              case round =>
                clear HSG
                obtain ⟨p, fd, hp0, rfl, hS, hown, hown8, hfd⟩ := hrel
                by_cases hpt : p < m8
                · have hpF : p < (E v).length := by rw [HM8.out]; exact hpt
                  obtain ⟨g2, o2, rfl, _, hc2⟩ := own_at hown8 hpF
                  have hxm : (E v).getD p 0 ∈ E v := by
                    rw [List.getD_eq_getElem?_getD, List.getElem?_eq_getElem hpF]
                    exact List.getElem_mem hpF
                  have hxu := HRL.out _ _ ((HMV.out _).1 hxm) hvu
                  have HTB : Hid (∀ x, x ∈ (E v).take (p + 1) ↔ x ∈ (E v).take p ∨ x = (E v).getD p 0) := take_mem_snoc hpF
                  generalize (E v).getD p 0 = z at *
                  have hpi : (p : Int) < (m8 : Int) := by omega
                  have hz0 : ¬ (z : Int) < 0 := by omega
                  have hzy : ¬ (y.size : Int) < (z : Int) := by omega
                  have hzn : z < n := by have := HNN.out; omega
                  have hzni : (z : Int) < (n : Int) := by omega
                  have tg := hS.c.thawed z
                  have cg := hS.c.at_ z hzn
                  have HS9 : Hid (RwS w qa qc n fg (fun j => if j = z then true else fd j) (wr.setCell ⟨qc, z, none⟩ (.bool true)) ∧ (wr.setCell ⟨qc, z, none⟩ (.bool true)).ownsRow w.heap.size 3 1 (.slice (some ⟨g1, o1, none⟩) L.length cL) L.length (i64s L) ∧ (wr.setCell ⟨qc, z, none⟩ (.bool true)).ownsRow B8 3 1 (.slice (some ⟨g2, o2, none⟩) (E v).length c8) (E v).length (i64s (E v))) :=
                    ⟨hS.setc z, own_set4 (k := z) hown hS.c (.bool true), own_set4 (k := z) hown8 hS.c (.bool true)⟩
                  have HFD : Hid (∀ j, (if j = z then true else fd j) = true ↔ fc j = true ∨ j ∈ (E v).take (p + 1)) := fun j => by
                    rw [HTB.out]
                    by_cases e : j = z
                    · simp [e]
                    · rw [if_neg e, hfd]
                      simp [e]
                  clear hS hown hown8 hfd hpF hxm hxu
                  go_wp2
                  exact ⟨⟨p + 1, _, by omega, rfl, HS9.out.1, HS9.out.2.1, HS9.out.2.2, HFD.out⟩, by simp [intOf]; omega⟩
                · have hbe : (E v).take p = E v := List.take_of_length_le (by rw [HM8.out]; omega)
                  rw [hbe] at hfd
                  have HS9 : Hid (RwS w qa qc n fg fd wr ∧ wr.ownsRow w.heap.size 3 1 (.slice (some ⟨g1, o1, none⟩) L.length cL) L.length (i64s L)) := ⟨hS, hown⟩
                  have HFD : Hid (∀ j, fd j = true ↔ ∃ x, x ∈ L.take (k + 1) ∧ R x j) := fun j => by
                    rw [hfd, HFC.out, HMV.out]
                    constructor
                    · rintro (⟨i, h1, h2⟩ | h)
                      · exact ⟨i, (HTK.out i).2 (.inl h1), h2⟩
                      · exact ⟨v, (HTK.out v).2 (.inr rfl), h⟩
                    · rintro ⟨i, h1, h2⟩
                      rcases (HTK.out i).1 h1 with q | q
                      · exact .inl ⟨i, q, h2⟩
                      · subst q; exact .inr h2
                  clear hS hown hown8 hfd hbe
                  go_wp2
                  exact ⟨⟨k + 1, _, _, by omega, rfl, HS9.out.1, HS9.out.2, HFG.out, HFD.out⟩, by simp [intOf]; omega⟩
          · have hke : L.take k = L := List.take_of_length_le (by rw [HM6.out]; omega)
            rw [hke] at hfb hfc
            have hli := listb_any qc n fc wr hS.c (by have := HNN.out; omega)
            have HON : Hid (OnS w qa n fb wr) := ⟨hS.a, hS.la, hS.bel⟩
            have hln := someL_len fc n
            have HLN : Hid ((∀ k, k ∈ someL fc n ↔ powR R (i + 1) f k) ∧ ∀ k, fb k = true ↔ ∃ t, a ≤ t ∧ t < i + 1 ∧ powR R t f k) := ⟨fun k => by
              rw [some_mem, hfc]
              constructor
              · rintro ⟨_, x, h1, h2⟩
                exact ⟨x, (HL.out x).1 h1, h2⟩
              · rintro ⟨x, h1, h2⟩
                have q1 := powR_le HRL.out i f x h1 hfy
                have q2 := HRL.out x k h2 q1
                exact ⟨by have := HNN.out; omega, x, (HL.out x).2 h1, h2⟩, fun k => by
              rw [hfb, HFA.out, HL.out]
              constructor
              · rintro (⟨t, q1, q2, q3⟩ | ⟨q1, q2⟩)
                · exact ⟨t, q1, by omega, q3⟩
                · exact ⟨i, q1, by omega, q2⟩
              · rintro ⟨t, q1, q2, q3⟩
                by_cases e : t = i
                · subst e; exact .inr ⟨q1, q3⟩
                · exact .inl ⟨t, q1, by omega, q3⟩⟩
            clear hS hown hfb hfc hke
            generalize someL fc n = L2 at *
            go_wp2_with fail
            refine hli.mono ?_
            rintro e w8 ⟨b8, A8, c8, rfl, own8⟩
            have HS8 : Hid (OnS w qa n fb w8 ∧ w8.ownsRow w.heap.size 3 1 (.slice A8 L2.length c8) L2.length (i64s L2)) := ⟨HON.out.below b8, own_less own8 HON.out.bel.size⟩
            clear hli b8 own8
            go_wp2
            exact ⟨⟨i + 1, L2, _, _, fb, by omega, rfl, rfl, HS8.out.1, HS8.out.2, by have := HNN.out; omega, HLN.out.1, HLN.out.2⟩, by simp [intOf]; omega⟩
      · have hie : i = b + 1 := by omega
        subst hie
        have hnle : ¬ ((b + 1 : Nat) : Int) ≤ (b : Int) := by omega
        have HB7 := hidd hS.bel
        by_cases hb0 : 0 < b
        · have hbi : (0 : Int) < (b : Int) := by omega
          have hTB := HTA.out hb0 fa hfa
          rw [← HNN.out] at hTB
          have HLB : Hid (∀ u, Below wr.heap.size wr u → Calls Tryd.prog 23 #[.slice (some ⟨qa, 0, none⟩) n n] u fun e w' => LstR u (T (b : Int)) e w') := fun u hb => by
            rw [hTB]
            exact listb_any qa n fa u (hS.below hb).a (by have := HNN.out; omega)
          have hp := HWRAP.out (b : Int) wr hS.bel
          clear hS hown hL hfa hTB HTA HENDS HMEM HLE HRL
          go_wp2_with fail
          refine hp.mono ?_
          rintro e w10 ⟨b10, A10, c10, rfl, hN10⟩
          have HC10 := hidd b10
          have HB10 := hidd (HB7.out.trans (b10.mono HB7.out.size))
          have hE := HW.out (b : Int) (.inr (by omega)) w10 A10 c10 hN10 HB10.out
          clear hp b10 hN10
          go_wp2_with fail
          refine hE.mono ?_
          rintro e w11 ⟨b11, A11, c11, rfl, own11⟩
          have HN11 := hidd (nts_own own11)
          have HC11 := hidd (HC10.out.trans (b11.mono HC10.out.size))
          have HB11 := hidd (HB10.out.trans (b11.mono HB10.out.size))
          have hLi := HLB.out w11 HC11.out
          clear hE b11 own11
          go_wp2_with fail
          refine hLi.mono ?_
          rintro e w12 ⟨b12, A12, c12, rfl, own12⟩
          have HB12 := hidd (HB11.out.trans (b12.mono HB11.out.size))
          have hin := ints_any A11 A12 c11 c12 (T (b : Int)) (T (b : Int)) w12 ((HN11.out.below b12).more b12.size) (nts_own own12) (by have := HLT.out (b : Int); omega) (by have := HLT.out (b : Int); omega)
          clear hLi b12 own12
          go_wp2_with fail
          refine hin.mono ?_
          rintro e w13 ⟨b13, z, rfl, hz⟩
          have hzt : z = true := hz.2 (by trivial)
          subst hzt
          have HB13 := hidd (HB12.out.trans (b13.mono HB12.out.size))
          clear hin b13 hz
          have hp := HWRAP.out (-1) w13 HB13.out
          go_wp2_with fail
          refine hp.mono ?_
          rintro e w20 ⟨b20, A20, c20, rfl, hN20⟩
          have HB20 := hidd (HB13.out.trans (b20.mono HB13.out.size))
          have hE := HW.out (-1) (.inl rfl) w20 A20 c20 hN20 HB20.out
          clear hp b20 hN20
          go_wp2_with fail
          refine hE.mono ?_
          rintro e w21 ⟨b21, A21, c21, rfl, own21⟩
          have HN21 := hidd (nts_own own21)
          have HB21 := hidd (HB20.out.trans (b21.mono HB20.out.size))
          have hp := HWRAP.out (e2 : Int) w21 HB21.out
          clear hE b21 own21
          go_wp2_with fail
          refine hp.mono ?_
          rintro e w22 ⟨b22, A22, c22, rfl, hN22⟩
          have HN22 := hidd ((HN21.out.below b22).more b22.size)
          have HB22 := hidd (HB21.out.trans (b22.mono HB21.out.size))
          have hE := HW.out (e2 : Int) (.inr (by omega)) w22 A22 c22 hN22 HB22.out
          clear hp b22 hN22
          go_wp2_with fail
          refine hE.mono ?_
          rintro e w23 ⟨b23, A23, c23, rfl, own23⟩
          have HB23 := hidd (HB22.out.trans (b23.mono HB22.out.size))
          have hin := ints_any A21 A23 c21 c23 (T (-1)) (T (e2 : Int)) w23 ((HN22.out.below b23).more b23.size) (nts_own own23) (by have := HLT.out (-1); omega) (by have := HLT.out (e2 : Int); omega)
          clear hE b23 own23
          go_wp2_with fail
          refine hin.mono ?_
          rintro e w24 ⟨b24, z, rfl, hz⟩
          have hzt : z = true := hz.2 HTE.out
          subst hzt
          have HB24 := hidd (HB23.out.trans (b24.mono HB23.out.size))
          clear hin b24 hz
          go_wp2
          go_ret
          exact ⟨rfl, HB24.out⟩
        · have hb00 : b = 0 := by omega
          have hbi : ¬ (0 : Int) < (b : Int) := by omega
          have hbd : decide ((0 : Int) < (b : Int)) = false := by simp; omega
          clear hS hown hL hfa HTA HENDS HMEM HLE HRL
          have hp := HWRAP.out (-1) wr HB7.out
          go_wp2_with fail
          refine hp.mono ?_
          rintro e w20 ⟨b20, A20, c20, rfl, hN20⟩
          have HB20 := hidd (HB7.out.trans (b20.mono HB7.out.size))
          have hE := HW.out (-1) (.inl rfl) w20 A20 c20 hN20 HB20.out
          clear hp b20 hN20
          go_wp2_with fail
          refine hE.mono ?_
          rintro e w21 ⟨b21, A21, c21, rfl, own21⟩
          have HN21 := hidd (nts_own own21)
          have HB21 := hidd (HB20.out.trans (b21.mono HB20.out.size))
          have hp := HWRAP.out (e2 : Int) w21 HB21.out
          clear hE b21 own21
          go_wp2_with fail
          refine hp.mono ?_
          rintro e w22 ⟨b22, A22, c22, rfl, hN22⟩
          have HN22 := hidd ((HN21.out.below b22).more b22.size)
          have HB22 := hidd (HB21.out.trans (b22.mono HB21.out.size))
          have hE := HW.out (e2 : Int) (.inr (by omega)) w22 A22 c22 hN22 HB22.out
          clear hp b22 hN22
          go_wp2_with fail
          refine hE.mono ?_
          rintro e w23 ⟨b23, A23, c23, rfl, own23⟩
          have HB23 := hidd (HB22.out.trans (b23.mono HB22.out.size))
          have hin := ints_any A21 A23 c21 c23 (T (-1)) (T (e2 : Int)) w23 ((HN22.out.below b23).more b23.size) (nts_own own23) (by have := HLT.out (-1); omega) (by have := HLT.out (e2 : Int); omega)
          clear hE b23 own23
          go_wp2_with fail
          refine hin.mono ?_
          rintro e w24 ⟨b24, z, rfl, hz⟩
          have hzt : z = true := hz.2 HTE.out
          subst hzt
          have HB24 := hidd (HB23.out.trans (b24.mono HB23.out.size))
          clear hin b24 hz
          go_wp2
          go_ret
          exact ⟨rfl, HB24.out⟩
end Go.Proofs.YtcgondjekpcpgaaDoor.Sy.Lg.En

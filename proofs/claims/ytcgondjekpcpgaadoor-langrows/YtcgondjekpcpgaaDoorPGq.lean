/- LangRows' walk. -/
import Derived.Test.YtcgondjekpcpgaaDoorPGp
namespace Go.Proofs.YtcgondjekpcpgaaDoor.Sy.Lg.En
open Go.RowKit Go.Proofs.YtcgondjekpcpgaaDoor.Sy.Ap Go.Proofs.YtcgondjekpcpgaaDoor.Sy.Ap.Wk
set_option maxRecDepth 100000
set_option linter.unusedVariables false

section
set_option linter.unusedVariables false in
def RwGV (w : World) (y : ByteArray) (n : Nat) (t : Nat) : Option Value :=
  match t with
  | 10 => some (.string y)
  | 38 => some (.string y)
  | 39 => some (.int .i64 (y.size : Int))
  | 40 => some (.int .i64 (n : Int))
  | 42 => some (.string y)
  | 43 => some (.int .i64 (y.size : Int))
  | 44 => some (.int .i64 (n : Int))
  | _ => none
set_option linter.unusedVariables false in
def RwGP (w : World) (y : ByteArray) (n : Nat) (t : Nat) : Option (Value → World → Prop) :=
  match t with
  | 12 => some (BlQ w n)
  | 41 => some (BlQ w n)
  | 45 => some (BlQ w n)
  | _ => none
def RwG (w : World) (y : ByteArray) (n : Nat) (t : Nat) (v : Value) (u : World) : Prop := (∀ z9, RwGV w y n t = some z9 → v = z9) ∧ ∀ R, RwGP w y n t = some R → R v u
set_option maxHeartbeats 4000000 in
theorem lawLangRows_any (A : Option Addr) (c : Nat) (gs : List Gd) (A2 : Option Addr) (c2 : Nat) (gs2 : List Gd) (s : ByteArray) (x : Int) (w : World) (hN : Nds w w.heap.size A gs) (hm : gs.length ≤ maxLen) (hsm : Small gs) (hN2 : Nds w w.heap.size A2 gs2) (hm2 : gs2.length ≤ maxLen) (hsm2 : Small gs2) (hs : s.size ≤ maxLen) (x0 : 0 ≤ x) (x1 : x ≤ 255) (hD : DB w) :
    Calls Tryd.prog 4 #[.slice A gs.length c, .slice A2 gs2.length c2, .string s, .int .u8 x] w fun e w' => e = .returned (.bool true) ∧ Below w.heap.size w w' := by
  have hsh := shown7_any w hD
  have HTX : Hid (∀ u, _) := fun u => text_any s u hs
  have HGD : Hid (∀ u, Below w.heap.size w u → Calls Tryd.prog 21 #[.slice A gs.length c] u fun e w' => GoodR gs u e w') := fun u hu => good_any A c gs u ((hN.below hu).more hu.size) hm hsm
  have HGD2 : Hid (∀ u, Below w.heap.size w u → Calls Tryd.prog 21 #[.slice A2 gs2.length c2] u fun e w' => GoodR gs2 u e w') := fun u hu => good_any A2 c2 gs2 u ((hN2.below hu).more hu.size) hm2 hsm2
  have hyz := text_size s
  have HN := hidd hN
  have HN2 := hidd hN2
  have HD := hidd hD
  clear hN hD hsm hN2 hsm2
  generalize cutS 20 s = y at *
  obtain ⟨f, hf⟩ : ∃ f : Nat, Int.tmod x ((y.size : Int) + 1) = (f : Int) := ⟨(x % ((y.size : Int) + 1)).toNat, by
    rw [Int.tmod_eq_emod_of_nonneg x0]
    have := Int.emod_nonneg x (b := (y.size : Int) + 1) (by omega)
    omega⟩
  have hfy : f ≤ y.size := by
    rw [Int.tmod_eq_emod_of_nonneg x0] at hf
    have := Int.emod_lt_of_pos x (b := (y.size : Int) + 1) (by omega)
    omega
  have hw1 : IntKind.i64.wrap x = x := by rw [IntKind.wrap_i64]; omega
  obtain ⟨n1, hn1'⟩ : ∃ n, gs.length = n := ⟨_, rfl⟩
  have HNL := hidd hn1'
  obtain ⟨n2, hn2'⟩ : ∃ n, gs2.length = n := ⟨_, rfl⟩
  have HNL2 := hidd hn2'
  rw [hn1'] at hm HGD
  rw [hn2'] at hm2 HGD2
  rw [hn1', hn2']
  unfold maxLen at hm hm2
  clear hn1' hn2'
  go_enter Tryd.func4, Tryd.ntmps4
  go_wp2_with fail
  refine hsh.mono ?_
  rintro e w1 ⟨rfl, b1⟩
  have HB1 := hidd b1
  clear hsh b1
  go_wp2_with fail
  refine (HTX.out w1).mono ?_
  rintro e w2 ⟨rfl, rfl⟩
  have hgd := HGD.out w2 HB1.out
  go_wp2_with fail
  refine hgd.mono ?_
  rintro e w3 ⟨b3, z, rfl, hz⟩
  have HB3 := hidd (HB1.out.trans (b3.mono HB1.out.size))
  have HZ := hidd hz
  clear hgd b3 hz
  cases z with
  | false =>
    go_wp2
    go_ret
    exact ⟨rfl, HB3.out⟩
  | true =>
    have hgd := HGD2.out w3 HB3.out
    go_wp2_with fail
    refine hgd.mono ?_
    rintro e w4 ⟨b4, z, rfl, hz⟩
    have HB4 := hidd (HB3.out.trans (b4.mono HB3.out.size))
    have HZ2 := hidd hz
    clear hgd b4 hz
    cases z with
    | false =>
      go_wp2
      go_ret
      exact ⟨rfl, HB4.out⟩
    | true =>
      obtain ⟨h30, hpg⟩ := HZ.out trivial
      obtain ⟨h30b, hpg2⟩ := HZ2.out rfl
      obtain ⟨ns, hg, ht⟩ := gn_tree hpg.2
      obtain ⟨ms, hg2, ht2⟩ := gn_tree hpg2.2
      have hpn := (plain_tree hg ht).1 hpg
      have hpm := (plain_tree hg2 ht2).1 hpg2
      have HENDS : Hid (∀ u, Below w.heap.size w u → EndsL #[.slice A n1 c, .string y, .int .i64 (f : Int)] (endL ns (bs y) f) u) := fun u hu => by
        have := ends_tree (c := c) (s := y) (i := f) ((HN.out.below hu).more hu.size) hg ht hpn (by omega) hfy (HD.out.below hu)
        rw [HNL.out] at this
        exact this
      have HENDM : Hid (∀ (i : Nat) u, i ≤ y.size → Below w.heap.size w u → EndsL #[.slice A2 n2 c2, .string y, .int .i64 (i : Int)] (endL ms (bs y) i) u) := fun i u hi hu => by
        have := ends_tree (c := c2) (s := y) (i := i) ((HN2.out.below hu).more hu.size) hg2 ht2 hpm (by omega) hi (HD.out.below hu)
        rw [HNL2.out] at this
        exact this
      obtain ⟨⟨pc1, pc2, pc3⟩, pa1, pa2, pa3⟩ := pair_tree hg hg2 ht ht2 hpn hpm (by omega) (by omega)
      have HPAIR : Hid (∀ (op : Int) u, 0 ≤ op → op ≤ 255 → Below w.heap.size w u → Calls Tryd.prog 22 #[.int .u8 op, .slice A n1 c, .slice A2 n2 c2] u fun e w' => Below u.heap.size u w' ∧ ∃ A' c', e = .returned (.slice A' (n1 + n2 + 1) c') ∧ Nds w' w'.heap.size A' (gs ++ gs2.map (shfG gs.length) ++ [catG op [(gs.length : Int) - 1, ((gs.length + gs2.length : Nat) : Int) - 1]])) := fun op u p0 p1 hu => by
        have := pair_any op p0 p1 A c gs A2 c2 gs2 ns ms u ((HN.out.below hu).more hu.size) ((HN2.out.below hu).more hu.size) hg ht hg2 ht2 (by omega) (by omega)
        rw [HNL.out, HNL2.out] at this
        rw [HNL.out, HNL2.out]
        exact this
      have hlen3 : ∀ op, (gs ++ gs2.map (shfG gs.length) ++ [catG op [(gs.length : Int) - 1, ((gs.length + gs2.length : Nat) : Int) - 1]]).length = n1 + n2 + 1 := fun op => by simp [HNL.out, HNL2.out]; omega
      have HPC : Hid (∀ u A' c', Nds u u.heap.size A' (gs ++ gs2.map (shfG gs.length) ++ [catG 3 [(gs.length : Int) - 1, ((gs.length + gs2.length : Nat) : Int) - 1]]) → Below w.heap.size w u → EndsL #[.slice A' (n1 + n2 + 1) c', .string y, .int .i64 (f : Int)] (endL (bothN ns ms (ndCat [ns.length - 1, ns.length + ms.length - 1])) (bs y) f) u) := fun u A' c' hx hu => by
        have := ends_tree (c := c') (s := y) (i := f) hx pc1 pc2 pc3 (by omega) hfy (HD.out.below hu)
        rw [hlen3] at this
        exact this
      have HPA : Hid (∀ u A' c', Nds u u.heap.size A' (gs ++ gs2.map (shfG gs.length) ++ [catG 4 [(gs.length : Int) - 1, ((gs.length + gs2.length : Nat) : Int) - 1]]) → Below w.heap.size w u → EndsL #[.slice A' (n1 + n2 + 1) c', .string y, .int .i64 (f : Int)] (endL (bothN ns ms (ndAlt [ns.length - 1, ns.length + ms.length - 1])) (bs y) f) u) := fun u A' c' hx hu => by
        have := ends_tree (c := c') (s := y) (i := f) hx pa1 pa2 pa3 (by omega) hfy (HD.out.below hu)
        rw [hlen3] at this
        exact this
      have HRC : Hid (∀ fc : Nat → Bool, (∀ k, fc k = true ↔ ∃ i, i ∈ endL ns (bs y) f ∧ k ∈ endL ms (bs y) i) → endL (bothN ns ms (ndCat [ns.length - 1, ns.length + ms.length - 1])) (bs y) f = someL fc (y.size + 1)) := fun fc h => rows_cat ht ht2 pc2 y hfy h
      have HRA : Hid (∀ fa : Nat → Bool, (∀ k, fa k = true ↔ k ∈ endL ns (bs y) f ∨ k ∈ endL ms (bs y) f) → endL (bothN ns ms (ndAlt [ns.length - 1, ns.length + ms.length - 1])) (bs y) f = someL fa (y.size + 1)) := fun fa h => rows_alt ht ht2 pa2 y hfy h
      have HUN : Hid (∀ x, x ∈ endL ns (bs y) f → f ≤ x ∧ x ≤ y.size) := fun x hx => up_ends ht.low hfy hx
      have HUM : Hid (∀ i x, i ≤ y.size → x ∈ endL ms (bs y) i → i ≤ x ∧ x ≤ y.size) := fun i x hi hx => up_ends ht2.low hi hx
      have HLN : Hid ((endL ns (bs y) f).length ≤ 100) := endL_few ns y f (by omega)
      have HLM : Hid (∀ i, (endL ms (bs y) i).length ≤ 100) := fun i => endL_few ms y i (by omega)
      clear HGD HGD2 HZ HZ2 hg hg2 ht ht2 hpn hpm h30 h30b hpg hpg2 pc1 pc2 pc3 pa1 pa2 pa3 hlen3 HNL HNL2 HN HN2
      generalize endL (bothN ns ms (ndCat [ns.length - 1, ns.length + ms.length - 1])) (bs y) f = TC at *
      generalize endL (bothN ns ms (ndAlt [ns.length - 1, ns.length + ms.length - 1])) (bs y) f = TA at *
      generalize endL ns (bs y) f = E at *
      generalize hF : (fun i => endL ms (bs y) i) = F at *
      have hFe : ∀ i, endL ms (bs y) i = F i := fun i => congrFun hF i
      simp only [hFe] at HENDM HRC HRA HUM HLM
      clear hF hFe
      obtain ⟨n, hn1⟩ : ∃ n : Nat, (y.size : Int) + 1 = (n : Int) := ⟨y.size + 1, rfl⟩
      have hn : n ≤ 1000000 := by omega
      have hwn : IntKind.i64.wrap (n : Int) = (n : Int) := by rw [IntKind.wrap_i64]; omega
      have hnn : n = y.size + 1 := by omega
      have HNN := hidd hnn
      clear hnn
      go_upto_region 6 with fail
      refine wp_region_slotsA 9 (by decide) (by kernel_rfl) (by kernel_rfl) (fun _ _ => true) (MkS w 41 45 12 n) (RwG w y n) EbL (by kernel_rfl) (by kernel_rfl) (by kernel_rfl) (by kernel_rfl) ?_ ⟨bel_drew HB4.out, fun g e => (by cases e), fun g e => (by cases e), fun g e => (by cases e), fun g h e _ => (by cases e), fun g h e _ => (by cases e)⟩ [10] (by kernel_rfl) ?_ ?_ ?_
      · intro t dd v u u' _ h hE
        refine ⟨h.1, fun R hR => ?_⟩
        have h2 := h.2 R hR
        unfold RwGP at hR
        split at hR
        · cases hR; exact h2.below hE
        · cases hR; exact h2.below hE
        · cases hR; exact h2.below hE
        · cases hR
      · intro _ u _
        refine ⟨⟨_, rfl, ?_⟩, trivial⟩ <;> exact ⟨fun _ h => Option.some.inj h, fun _ h => no_some h⟩
      · refine ⟨?_, ?_, ?_, ?_, ?_, ?_, ?_, ?_, ?_, trivial⟩
        · intro a u hS hr K hK
          obtain ⟨⟨vl0, e0, g0⟩, -⟩ := hr
          obtain rfl := g0.1 _ rfl
          clear g0
          rw [if_pos (want_none rfl)]
          unfold Oper.wp
          go_simp
          exact hK _ _ ⟨fun _ h => Option.some.inj h, fun _ h => no_some h⟩ (hS.put rfl _) (eby rfl (Below.refl _ _))
        · intro a u hS hr K hK
          obtain ⟨⟨vl0, e0, g0⟩, -⟩ := hr
          obtain rfl := g0.1 _ rfl
          clear g0
          rw [if_pos (want_none rfl)]
          unfold Oper.wp
          go_simp
          exact hK _ _ ⟨fun _ h => Option.some.inj h, fun _ h => no_some h⟩ (hS.put rfl _) (eby rfl (Below.refl _ _))
        · intro a u hS hr K hK
          obtain ⟨⟨vl0, e0, g0⟩, -⟩ := hr
          obtain rfl := g0.1 _ rfl
          clear g0
          rw [if_pos (want_none rfl)]
          unfold Oper.wp
          go_simp
          exact hK _ _ ⟨fun _ h => Option.some.inj h, fun _ h => no_some h⟩ (hS.put rfl _) (eby rfl (Below.refl _ _))
        · intro a u hS hr K hK
          obtain ⟨⟨vl0, e0, g0⟩, ⟨vl1, e1, g1⟩, -⟩ := hr
          obtain rfl := g0.1 _ rfl
          clear g0
          obtain rfl := g1.1 _ rfl
          clear g1
          rw [if_pos (want_none rfl)]
          have hmk := make_bools6 n hn u
          unfold Oper.wp
          go_simp
          exact hK _ _ ⟨fun _ h => no_some h, fun _ h => spec_ok h ⟨_, rfl, RowF.new _ _ _ _, hS.bel.size⟩⟩ (hS.new1 (by decide) (by decide) _) (eby rfl ((Below.refl _ _).alloc (Nat.le_refl _) _))
        · intro a u hS hr K hK
          obtain ⟨⟨vl0, e0, g0⟩, -⟩ := hr
          obtain rfl := g0.1 _ rfl
          clear g0
          rw [if_pos (want_none rfl)]
          unfold Oper.wp
          go_simp
          exact hK _ _ ⟨fun _ h => Option.some.inj h, fun _ h => no_some h⟩ (hS.put rfl _) (eby rfl (Below.refl _ _))
        · intro a u hS hr K hK
          obtain ⟨⟨vl0, e0, g0⟩, -⟩ := hr
          obtain rfl := g0.1 _ rfl
          clear g0
          rw [if_pos (want_none rfl)]
          unfold Oper.wp
          go_simp
          exact hK _ _ ⟨fun _ h => Option.some.inj h, fun _ h => no_some h⟩ (hS.put rfl _) (eby rfl (Below.refl _ _))
        · intro a u hS hr K hK
          obtain ⟨⟨vl0, e0, g0⟩, -⟩ := hr
          obtain rfl := g0.1 _ rfl
          clear g0
          rw [if_pos (want_none rfl)]
          unfold Oper.wp
          go_simp
          exact hK _ _ ⟨fun _ h => Option.some.inj h, fun _ h => no_some h⟩ (hS.put rfl _) (eby rfl (Below.refl _ _))
        · intro a u hS hr K hK
          obtain ⟨⟨vl0, e0, g0⟩, ⟨vl1, e1, g1⟩, -⟩ := hr
          obtain rfl := g0.1 _ rfl
          clear g0
          obtain rfl := g1.1 _ rfl
          clear g1
          rw [if_pos (want_none rfl)]
          have hmk := make_bools6 n hn u
          unfold Oper.wp
          go_simp
          exact hK _ _ ⟨fun _ h => no_some h, fun _ h => spec_ok h ⟨_, rfl, RowF.new _ _ _ _, hS.bel.size⟩⟩ (hS.new2 (by decide) (by decide) _) (eby rfl ((Below.refl _ _).alloc (Nat.le_refl _) _))
        · intro a u hS hr K hK
          obtain ⟨⟨vl0, e0, g0⟩, -⟩ := hr
          replace g0 := g0.2 _ rfl
          rw [if_pos (want_none rfl)]
          unfold Oper.wp
          go_simp
          exact hK _ _ ⟨fun _ h => no_some h, fun _ h => spec_ok h g0⟩ (hS.put3 (by decide) (by decide) e0) (eby rfl (Below.refl _ _))
      intro a u5 hS hts hd hkn hf
      obtain ⟨v38, e38, g38⟩ := hf 0 _ 38 (by decide) rfl rfl (fun _ => rfl)
      obtain ⟨v39, e39, g39⟩ := hf 1 _ 39 (by decide) rfl rfl (fun _ => rfl)
      obtain ⟨v40, e40, g40⟩ := hf 2 _ 40 (by decide) rfl rfl (fun _ => rfl)
      obtain ⟨v41, e41, g41⟩ := hf 3 _ 41 (by decide) rfl rfl (fun _ => rfl)
      obtain ⟨v42, e42, g42⟩ := hf 4 _ 42 (by decide) rfl rfl (fun _ => rfl)
      obtain ⟨v43, e43, g43⟩ := hf 5 _ 43 (by decide) rfl rfl (fun _ => rfl)
      obtain ⟨v44, e44, g44⟩ := hf 6 _ 44 (by decide) rfl rfl (fun _ => rfl)
      obtain ⟨v45, e45, g45⟩ := hf 7 _ 45 (by decide) rfl rfl (fun _ => rfl)
      obtain ⟨v12, e12, g12⟩ := hf 8 _ 12 (by decide) rfl rfl (fun _ => rfl)
      obtain ⟨v13, e13⟩ : ∃ z, a.tmps[13]? = some z := ⟨_, Array.getElem?_eq_getElem (by rw [hts]; simp)⟩
      have hA := act_puts [(38, v38), (39, v39), (40, v40), (41, v41), (42, v42), (43, v43), (44, v44), (45, v45), (12, v12), (13, v13)] hts hd hkn (by kernel_rfl) (by simp [e38, e39, e40, e41, e42, e43, e44, e45, e12, e13])
      have hfar := fun (g h : Nat) (p : v12 = .slice (some ⟨g, 0, none⟩) n n) (q : v45 = .slice (some ⟨h, 0, none⟩) n n) => hS.far3 g h (p ▸ e12) (q ▸ e45)
      have hbS := hS.bel
      clear hS
      clear hf hts hd hkn e38 e39 e40 e41 e42 e43 e44 e45 e12 e13
      obtain rfl := g38.1 _ rfl
      clear g38
      obtain rfl := g39.1 _ rfl
      clear g39
      obtain rfl := g40.1 _ rfl
      clear g40
      replace g41 := g41.2 _ rfl
      obtain rfl := g42.1 _ rfl
      clear g42
      obtain rfl := g43.1 _ rfl
      clear g43
      obtain rfl := g44.1 _ rfl
      clear g44
      replace g45 := g45.2 _ rfl
      replace g12 := g12.2 _ rfl
      subst hA
      simp only [List.foldl, List.setIfInBounds_toArray, List.set_cons_zero, List.set_cons_succ]
      simp only [List.drop_succ_cons, List.drop_zero]
      obtain ⟨qc, rfl, rc, lc⟩ := g12
      obtain ⟨qa, rfl, ra, la⟩ := g45
      have hne := hfar qc qa rfl rfl
      have HQ : Hid (qa < u5.heap.size ∧ qc < u5.heap.size) := ⟨ra.lt, rc.lt⟩
      have HRW : Hid (RwS w qa qc n (fun _ => false) (fun _ => false) u5) := ⟨ra, rc, hne.symm, la, lc, hbS⟩
      have hE6 := HENDS.out u5 hbS
      clear g41 rc ra hfar hbS la lc hne
      go_wp2_with fail
      refine hE6.mono ?_
      rintro e w6 ⟨b6, A6, c6, rfl, own6⟩
      have HS6 : Hid (RwS w qa qc n (fun _ => false) (fun _ => false) w6 ∧ w6.ownsRow u5.heap.size 3 1 (.slice A6 E.length c6) E.length (i64s E)) := ⟨HRW.out.below b6, own6⟩
      obtain ⟨m, hm6⟩ : ∃ m, E.length = m := ⟨_, rfl⟩
      have HM6 := hidd hm6
      have HOE : Hid (∀ u : World, u.ownsRow u5.heap.size 3 1 (.slice A6 E.length c6) E.length (i64s E) → ∀ k, k < m → ∃ g o, A6 = some ⟨g, o, none⟩ ∧ u.cell? ⟨g, o + k, none⟩ = some (.int .i64 ((E.getD k 0 : Nat) : Int))) := fun u h k hk => by
        obtain ⟨g, o, e1, e2, e3⟩ := own_at (k := k) h (by rw [HM6.out]; exact hk)
        exact ⟨g, o, e1, e3⟩
      have hlm : m ≤ 100 := by rw [← hm6]; exact HLN.out
      rw [hm6]
      clear hE6 b6 own6 HRW hm6
      go_wp2
      go_loopw [51] (fun s51 wr => ∃ (k : Nat) (fa fc : Nat → Bool), k ≤ m ∧ s51 = .int .i64 (k : Int) ∧ RwS w qa qc n fa fc wr ∧ wr.ownsRow u5.heap.size 3 1 (.slice A6 E.length c6) E.length (i64s E) ∧ (∀ j, fa j = true ↔ j ∈ E.take k) ∧ (∀ j, fc j = true ↔ ∃ i, i ∈ E.take k ∧ j ∈ F i)) (fun s51 _ => m - (intOf s51).toNat)
      case atStart => exact ⟨0, _, _, Nat.zero_le _, rfl, HS6.out.1, HS6.out.2, fun j => by simp, fun j => by simp⟩
      case round =>
        clear HS6
        obtain ⟨k, fa, fc, hk0, rfl, hS, hown, hfa, hfc⟩ := hrel
        by_cases hlt : k < m
        · have hkE : k < E.length := by rw [HM6.out]; exact hlt
          obtain ⟨g1, o1, rfl, hc1⟩ := HOE.out _ hown k hlt
          have hvm : E.getD k 0 ∈ E := by
            rw [List.getD_eq_getElem?_getD, List.getElem?_eq_getElem hkE]
            exact List.getElem_mem hkE
          have hvu := HUN.out _ hvm
          have HTK : Hid (∀ x, x ∈ E.take (k + 1) ↔ x ∈ E.take k ∨ x = E.getD k 0) := take_mem_snoc hkE
          generalize E.getD k 0 = v at *
          have hki : (k : Int) < (m : Int) := by omega
          have hv0 : ¬ (v : Int) < 0 := by omega
          have hvy : ¬ (y.size : Int) < (v : Int) := by omega
          have hvn : v < n := by have := HNN.out; omega
          have hvni : (v : Int) < (n : Int) := by omega
          have tg := hS.a.thawed v
          have cg := hS.a.at_ v hvn
          have S7 := hS.seta v
          have own7 := own_off (k := v) hown HQ.out.1 (.bool true)
          have HFA := hidd hfa
          have HFC := hidd hfc
          have HKE := hidd hkE
          have HVU := hidd hvu
          clear hS hown hfa hfc hkE hvm hvu
          go_upto_region 13 with fail
          generalize wr.setCell ⟨qa, v, none⟩ (.bool true) = w7 at *
          have hE7 := HENDM.out v w7 (by omega) S7.bel
          have HS7 := hidd S7
          have HO7 := hidd own7
          clear S7 own7 tg cg hc1
          go_wp2_with fail
          refine hE7.mono ?_
          rintro e w8 ⟨b8, A8, c8, rfl, own8⟩
          have HS8 : Hid (RwS w qa qc n (fun j => if j = v then true else fa j) fc w8 ∧ w8.ownsRow u5.heap.size 3 1 (.slice (some ⟨g1, o1, none⟩) E.length c6) E.length (i64s E) ∧ w8.ownsRow w7.heap.size 3 1 (.slice A8 (F v).length c8) (F v).length (i64s (F v))) := ⟨HS7.out.below b8, own_below HO7.out b8 (Nat.le_refl _), own8⟩
          obtain ⟨m8, hm8⟩ : ∃ m, (F v).length = m := ⟨_, rfl⟩
          have HM8 := hidd hm8
          have HOF : Hid (∀ u : World, u.ownsRow w7.heap.size 3 1 (.slice A8 (F v).length c8) (F v).length (i64s (F v)) → ∀ k, k < m8 → ∃ g o, A8 = some ⟨g, o, none⟩ ∧ u.cell? ⟨g, o + k, none⟩ = some (.int .i64 (((F v).getD k 0 : Nat) : Int))) := fun u h k hk => by
            obtain ⟨g, o, e1, e2, e3⟩ := own_at (k := k) h (by rw [HM8.out]; exact hk)
            exact ⟨g, o, e1, e3⟩
          have HQ7 : Hid (qc < w7.heap.size) := HS7.out.c.lt
          have hlm8 : m8 ≤ 100 := by rw [← hm8]; exact HLM.out v
          rw [hm8]
          clear hE7 b8 own8 HS7 HO7 hm8
          go_wp2
          go_loopw [71] (fun s71 wr => ∃ (b : Nat) (fd : Nat → Bool), b ≤ m8 ∧ s71 = .int .i64 (b : Int) ∧ RwS w qa qc n (fun j => if j = v then true else fa j) fd wr ∧ wr.ownsRow u5.heap.size 3 1 (.slice (some ⟨g1, o1, none⟩) E.length c6) E.length (i64s E) ∧ wr.ownsRow w7.heap.size 3 1 (.slice A8 (F v).length c8) (F v).length (i64s (F v)) ∧ ∀ j, fd j = true ↔ fc j = true ∨ j ∈ (F v).take b) (fun s71 _ => m8 - (intOf s71).toNat)
          case atStart => exact ⟨0, _, Nat.zero_le _, rfl, HS8.out.1, HS8.out.2.1, HS8.out.2.2, fun j => by simp⟩
          case round =>
            clear HS8
            obtain ⟨b, fd, hb0, rfl, hS, hown, hown8, hfd⟩ := hrel
            by_cases hbt : b < m8
            · have hbF : b < (F v).length := by rw [HM8.out]; exact hbt
              obtain ⟨g2, o2, rfl, hc2⟩ := HOF.out _ hown8 b hbt
              have hxm : (F v).getD b 0 ∈ F v := by
                rw [List.getD_eq_getElem?_getD, List.getElem?_eq_getElem hbF]
                exact List.getElem_mem hbF
              have hxu := HUM.out v _ HVU.out.2 hxm
              have HTB : Hid (∀ x, x ∈ (F v).take (b + 1) ↔ x ∈ (F v).take b ∨ x = (F v).getD b 0) := take_mem_snoc hbF
              generalize (F v).getD b 0 = z at *
              have hbi : (b : Int) < (m8 : Int) := by omega
              have hz0 : ¬ (z : Int) < (v : Int) := by omega
              have hzy : ¬ (y.size : Int) < (z : Int) := by omega
              have hzn : z < n := by have := HNN.out; omega
              have hzni : (z : Int) < (n : Int) := by omega
              have tg := hS.c.thawed z
              have cg := hS.c.at_ z hzn
              have HS9 : Hid (RwS w qa qc n (fun j => if j = v then true else fa j) (fun j => if j = z then true else fd j) (wr.setCell ⟨qc, z, none⟩ (.bool true)) ∧ (wr.setCell ⟨qc, z, none⟩ (.bool true)).ownsRow u5.heap.size 3 1 (.slice (some ⟨g1, o1, none⟩) E.length c6) E.length (i64s E) ∧ (wr.setCell ⟨qc, z, none⟩ (.bool true)).ownsRow w7.heap.size 3 1 (.slice (some ⟨g2, o2, none⟩) (F v).length c8) (F v).length (i64s (F v))) :=
                ⟨hS.setc z, own_off (k := z) hown HQ.out.2 (.bool true), own_off (k := z) hown8 HQ7.out (.bool true)⟩
              have HFD : Hid (∀ j, (if j = z then true else fd j) = true ↔ fc j = true ∨ j ∈ (F v).take (b + 1)) := fun j => by
                rw [HTB.out]
                by_cases e : j = z
                · simp [e]
                · rw [if_neg e, hfd]
                  simp [e]
              clear hS hown hown8 hfd hbF hxm hxu
              go_wp2
              exact ⟨⟨b + 1, _, by omega, rfl, HS9.out.1, HS9.out.2.1, HS9.out.2.2, HFD.out⟩, by simp [intOf]; omega⟩
            · have hbe : (F v).take b = F v := List.take_of_length_le (by rw [HM8.out]; omega)
              rw [hbe] at hfd
              have HS9 : Hid (RwS w qa qc n (fun j => if j = v then true else fa j) fd wr ∧ wr.ownsRow u5.heap.size 3 1 (.slice (some ⟨g1, o1, none⟩) E.length c6) E.length (i64s E)) := ⟨hS, hown⟩
              have HFD : Hid ((∀ j, (if j = v then true else fa j) = true ↔ j ∈ E.take (k + 1)) ∧ ∀ j, fd j = true ↔ ∃ i, i ∈ E.take (k + 1) ∧ j ∈ F i) := ⟨fun j => by
                rw [HTK.out]
                by_cases e : j = v
                · simp [e]
                · rw [if_neg e, HFA.out]
                  simp [e], fun j => by
                rw [hfd, HFC.out]
                constructor
                · rintro (⟨i, h1, h2⟩ | h)
                  · exact ⟨i, (HTK.out i).2 (.inl h1), h2⟩
                  · exact ⟨v, (HTK.out v).2 (.inr rfl), h⟩
                · rintro ⟨i, h1, h2⟩
                  rcases (HTK.out i).1 h1 with q | q
                  · exact .inl ⟨i, q, h2⟩
                  · subst q; exact .inr h2⟩
              clear hS hown hown8 hfd hbe
              go_wp2
              exact ⟨⟨k + 1, _, _, by omega, rfl, HS9.out.1, HS9.out.2, HFD.out.1, HFD.out.2⟩, by simp [intOf]; omega⟩
        · have hke : E.take k = E := List.take_of_length_le (by rw [HM6.out]; omega)
          rw [hke] at hfa hfc
          have HFA := hidd hfa
          have HFC := hidd hfc
          have HS := hidd hS
          have hE9 := HENDM.out f wr hfy hS.bel
          have HSZ : Hid (qa < wr.heap.size) := hS.a.lt
          clear hS hown hfa hfc hke HOE
          go_wp2_with fail
          refine hE9.mono ?_
          rintro e w8 ⟨b8, A8, c8, rfl, own8⟩
          obtain ⟨B9, hB9⟩ : ∃ B, wr.heap.size = B := ⟨_, rfl⟩
          have HS8 : Hid (RwS w qa qc n fa fc w8 ∧ w8.ownsRow B9 3 1 (.slice A8 (F f).length c8) (F f).length (i64s (F f))) := ⟨HS.out.below b8, by rw [← hB9]; exact own8⟩
          have HSZ : Hid (qa < B9) := by rw [← hB9]; exact HSZ
          obtain ⟨m8, hm8⟩ : ∃ m, (F f).length = m := ⟨_, rfl⟩
          have HM8 := hidd hm8
          have HOF : Hid (∀ u : World, u.ownsRow B9 3 1 (.slice A8 (F f).length c8) (F f).length (i64s (F f)) → ∀ k, k < m8 → ∃ g o, A8 = some ⟨g, o, none⟩ ∧ u.cell? ⟨g, o + k, none⟩ = some (.int .i64 (((F f).getD k 0 : Nat) : Int))) := fun u h k hk => by
            obtain ⟨g, o, e1, e2, e3⟩ := own_at (k := k) h (by rw [HM8.out]; exact hk)
            exact ⟨g, o, e1, e3⟩
          have hlm8 : m8 ≤ 100 := by rw [← hm8]; exact HLM.out f
          rw [hm8]
          clear hE9 b8 own8 HS hm8 hB9 hlt
          go_wp2
          go_loopw [94] (fun s94 wr => ∃ (b : Nat) (fd : Nat → Bool), b ≤ m8 ∧ s94 = .int .i64 (b : Int) ∧ RwS w qa qc n fd fc wr ∧ wr.ownsRow B9 3 1 (.slice A8 (F f).length c8) (F f).length (i64s (F f)) ∧ ∀ j, fd j = true ↔ j ∈ E ∨ j ∈ (F f).take b) (fun s94 _ => m8 - (intOf s94).toNat)
          case atStart => exact ⟨0, _, Nat.zero_le _, rfl, HS8.out.1, HS8.out.2, fun j => by rw [HFA.out]; simp⟩
          case round =>
            clear HS8
            obtain ⟨b, fd, hb0, rfl, hS, hown8, hfd⟩ := hrel
            by_cases hbt : b < m8
            · have hbF : b < (F f).length := by rw [HM8.out]; exact hbt
              obtain ⟨g2, o2, rfl, hc2⟩ := HOF.out _ hown8 b hbt
              have hxm : (F f).getD b 0 ∈ F f := by
                rw [List.getD_eq_getElem?_getD, List.getElem?_eq_getElem hbF]
                exact List.getElem_mem hbF
              have hxu := HUM.out f _ hfy hxm
              have HTB : Hid (∀ x, x ∈ (F f).take (b + 1) ↔ x ∈ (F f).take b ∨ x = (F f).getD b 0) := take_mem_snoc hbF
              generalize (F f).getD b 0 = z at *
              have hbi : (b : Int) < (m8 : Int) := by omega
              have hz0 : ¬ (z : Int) < 0 := by omega
              have hzy : ¬ (y.size : Int) < (z : Int) := by omega
              have hzn : z < n := by have := HNN.out; omega
              have hzni : (z : Int) < (n : Int) := by omega
              have tg := hS.a.thawed z
              have cg := hS.a.at_ z hzn
              have HS9 : Hid (RwS w qa qc n (fun j => if j = z then true else fd j) fc (wr.setCell ⟨qa, z, none⟩ (.bool true)) ∧ (wr.setCell ⟨qa, z, none⟩ (.bool true)).ownsRow B9 3 1 (.slice (some ⟨g2, o2, none⟩) (F f).length c8) (F f).length (i64s (F f))) :=
                ⟨hS.seta z, own_off (k := z) hown8 HSZ.out (.bool true)⟩
              have HFD : Hid (∀ j, (if j = z then true else fd j) = true ↔ j ∈ E ∨ j ∈ (F f).take (b + 1)) := fun j => by
                rw [HTB.out]
                by_cases e : j = z
                · simp [e]
                · rw [if_neg e, hfd]
                  simp [e]
              clear hS hown8 hfd hbF hxm hxu
              go_wp2
              exact ⟨⟨b + 1, _, by omega, rfl, HS9.out.1, HS9.out.2, HFD.out⟩, by simp [intOf]; omega⟩
            · have hbe : (F f).take b = F f := List.take_of_length_le (by rw [HM8.out]; omega)
              rw [hbe] at hfd
              have hTC := HRC.out fc HFC.out
              have hTA := HRA.out fd hfd
              rw [← HNN.out] at hTC hTA
              have HLC := someL_len fc n
              have HLA := someL_len fd n
              have HLB : Hid (∀ u, Below w.heap.size w u → Below wr.heap.size wr u → Calls Tryd.prog 23 #[.slice (some ⟨qc, 0, none⟩) n n] u fun e w' => LstR u TC e w') := fun u hu hb => by
                rw [hTC]
                exact listb_any qc n fc u (hS.below hb).c (by have := HNN.out; omega)
              have HLB2 : Hid (∀ u, Below w.heap.size w u → Below wr.heap.size wr u → Calls Tryd.prog 23 #[.slice (some ⟨qa, 0, none⟩) n n] u fun e w' => LstR u TA e w') := fun u hu hb => by
                rw [hTA]
                exact listb_any qa n fd u (hS.below hb).a (by have := HNN.out; omega)
              rw [← hTC] at HLC
              rw [← hTA] at HLA
              have B9' := hS.bel
              clear hS hown8 hfd hbe hTC hTA HFA HFC HRC HRA HUN HUM HLN HLM HENDS HENDM HOF HQ HSZ
              have HLCN := hidd HLC
              have HLAN := hidd HLA
              clear HLC HLA
              have hp := HPAIR.out 3 wr (by omega) (by omega) B9'
              have HB9 := hidd B9'
              obtain ⟨wz, hwz⟩ : ∃ wz, wz = wr := ⟨_, rfl⟩
              go_wp2_with fail
              refine hp.mono ?_
              rintro e w10 ⟨b10, A10, c10, rfl, hN10⟩
              have HC10 := hidd (b10 : Below wr.heap.size wr w10)
              have HB10 := hidd (HB9.out.trans (b10.mono HB9.out.size))
              have hE := HPC.out w10 A10 c10 hN10 HB10.out
              clear hp b10 hN10
              go_wp2_with fail
              refine hE.mono ?_
              rintro e w11 ⟨b11, A11, c11, rfl, own11⟩
              have HN11 := hidd (nts_own own11)
              have HC11 := hidd (HC10.out.trans (b11.mono HC10.out.size))
              have HB11 := hidd (HB10.out.trans (b11.mono HB10.out.size))
              have hL := HLB.out w11 HB11.out HC11.out
              clear hE b11 own11
              go_wp2_with fail
              refine hL.mono ?_
              rintro e w12 ⟨b12, A12, c12, rfl, own12⟩
              have HC12 := hidd (HC11.out.trans (b12.mono HC11.out.size))
              have HB12 := hidd (HB11.out.trans (b12.mono HB11.out.size))
              have hin := ints_any A11 A12 c11 c12 TC TC w12 ((HN11.out.below b12).more b12.size) (nts_own own12) (by have := HLCN.out; have := HNN.out; omega) (by have := HLCN.out; have := HNN.out; omega)
              clear hL b12 own12
              go_wp2_with fail
              refine hin.mono ?_
              rintro e w13 ⟨b13, z, rfl, hz⟩
              have hzt : z = true := hz.2 (by trivial)
              subst hzt
              have HC13 := hidd (HC12.out.trans (b13.mono HC12.out.size))
              have HB13 := hidd (HB12.out.trans (b13.mono HB12.out.size))
              have hp := HPAIR.out 4 w13 (by omega) (by omega) HB13.out
              clear hin b13 hz
              go_wp2_with fail
              refine hp.mono ?_
              rintro e w14 ⟨b14, A14, c14, rfl, hN14⟩
              have HC14 := hidd (HC13.out.trans (b14.mono HC13.out.size))
              have HB14 := hidd (HB13.out.trans (b14.mono HB13.out.size))
              have hE := HPA.out w14 A14 c14 hN14 HB14.out
              clear hp b14 hN14
              go_wp2_with fail
              refine hE.mono ?_
              rintro e w15 ⟨b15, A15, c15, rfl, own15⟩
              have HN15 := hidd (nts_own own15)
              have HC15 := hidd (HC14.out.trans (b15.mono HC14.out.size))
              have HB15 := hidd (HB14.out.trans (b15.mono HB14.out.size))
              have hL := HLB2.out w15 HB15.out HC15.out
              clear hE b15 own15
              go_wp2_with fail
              refine hL.mono ?_
              rintro e w16 ⟨b16, A16, c16, rfl, own16⟩
              have HB16 := hidd (HB15.out.trans (b16.mono HB15.out.size))
              have hin := ints_any A15 A16 c15 c16 TA TA w16 ((HN15.out.below b16).more b16.size) (nts_own own16) (by have := HLAN.out; have := HNN.out; omega) (by have := HLAN.out; have := HNN.out; omega)
              clear hL b16 own16
              go_wp2_with fail
              refine hin.mono ?_
              rintro e w17 ⟨b17, z, rfl, hz⟩
              have hzt : z = true := hz.2 (by trivial)
              subst hzt
              have HB17 := hidd (HB16.out.trans (b17.mono HB16.out.size))
              clear hin b17 hz
              go_wp2
              go_ret
              exact ⟨rfl, HB17.out⟩
end
end Go.Proofs.YtcgondjekpcpgaaDoor.Sy.Lg.En

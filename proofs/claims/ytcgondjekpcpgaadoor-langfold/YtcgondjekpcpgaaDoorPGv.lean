/- LangFold's walk. -/
import Derived.Test.YtcgondjekpcpgaaDoorPGu
import Derived.Test.YtcgondjekpcpgaaDoorPGi
import Derived.Test.YtcgondjekpcpgaaDoorPBf
import Derived.Lib.ConvBytes
namespace Go.Proofs.YtcgondjekpcpgaaDoor.Sy.Lg.En
open Go.RowKit Go.Proofs.YtcgondjekpcpgaaDoor.Sy.Ap Go.Proofs.YtcgondjekpcpgaaDoor.Sy.Ap.Wk
set_option maxRecDepth 100000
set_option linter.unusedVariables false

theorem bs_lt (s : ByteArray) (i : Nat) : (bs s).getD i 0 < 256 := by
  rw [List.getD_eq_getElem?_getD]
  unfold bs
  rw [List.getElem?_map]
  cases s.data.toList[i]? with
  | none => decide
  | some b => exact b.toNat_lt
/-- A row of bytes that a string was made to. -/
structure ByS (w : World) (g n : Nat) (h : Nat → Nat) (u : World) : Prop where
  cell : ∀ i, i < n → u.cell? ⟨g, i, none⟩ = some (.int .u8 ((h i : Nat) : Int))
  thaw : ∀ i, i < n → u.frozen? ⟨g, i, none⟩ = false
  lt : g < u.heap.size
  lo : w.heap.size ≤ g
  bel : Below w.heap.size w u
theorem ByS.set {w : World} {g n : Nat} {h : Nat → Nat} {u : World} (H : ByS w g n h u) {k : Nat} (hk : k < n) (z : Nat) : ByS w g n (fun i => if i = k then z else h i) (u.setCell ⟨g, k, none⟩ (.int .u8 ((z : Nat) : Int))) :=
  ⟨fun i hi => by
    by_cases e : i = k
    · subst e
      rw [World.cell?_setCell_same _ _ _ (H.cell i hi), if_pos rfl]
    · rw [World.cell?_setCell_other _ _ _ _ (fun q => e (by injection q with _ q; exact q.symm)), if_neg e]
      exact H.cell i hi, fun i hi => by rw [World.frozen?_setCell]; exact H.thaw i hi, by have := H.lt; simpa [World.setCell] using this, H.lo, bel_set H.bel _ _ H.lo⟩
theorem bytes_new {w w3 : World} (s : ByteArray) (hb : Below w.heap.size w w3) : ByS w w3.heap.size s.size (fun i => (bs s).getD i 0) (Lib.bytesWorld w3 5 s) :=
  ⟨fun i hi => by
    rw [Lib.bytesWorld_cell w3 5 s i hi]
    unfold bs
    rw [List.getD_eq_getElem?_getD, List.getD_eq_getElem?_getD, List.getElem?_map, List.getElem?_eq_getElem (by simpa using hi)]
    rfl, fun i hi => by
    have h1 : i < (Lib.bytesCells w3 5 s).size := by
      unfold Lib.bytesCells
      rw [Array.size_append, Array.size_map]
      have : s.data.size = s.size := rfl
      omega
    simp [World.frozen?, Lib.bytesWorld_at_new]
    omega, by rw [Lib.bytesWorld_size]; omega, hb.size, ⟨hb.os, hb.tape, hb.output, by rw [Lib.bytesWorld_size]; have := hb.size; omega, fun j hj => by
    rw [Lib.bytesWorld_at_old w3 5 s j (by have := hb.size; omega)]
    exact hb.block j hj⟩⟩
theorem bits_case {v : Nat} (h : v < 128) : bits BinOp.xor IntKind.u8 (v : Int) 32 = ((v ^^^ 32 : Nat) : Int) := by
  have key : ∀ c : Fin 128, bits BinOp.xor IntKind.u8 (c.1 : Int) 32 = ((c.1 ^^^ 32 : Nat) : Int) := by decide +kernel
  exact key ⟨v, h⟩
theorem xor_case {c : Nat} (h : (97 ≤ c ∧ c ≤ 122) ∨ (65 ≤ c ∧ c ≤ 90)) : CaseR c (c ^^^ 32) := by
  have key : ∀ c : Fin 128, ((97 ≤ c.1 ∧ c.1 ≤ 122) ∨ (65 ≤ c.1 ∧ c.1 ≤ 90)) → (65 ≤ c.1 ∧ c.1 ≤ 90 ∧ c.1 ^^^ 32 = c.1 + 32) ∨ (97 ≤ c.1 ∧ c.1 ≤ 122 ∧ c.1 = (c.1 ^^^ 32) + 32) := by decide
  exact .inr (key ⟨c, by omega⟩ h)
set_option linter.unusedVariables false in
def FoGV (A A4 : Option Addr) (n1 c c4 cb g n : Nat) (y s2 : ByteArray) (p : Bool) (t : Nat) : Option Value :=
  match t with
  | 0 => some (.slice A n1 c)
  | 6 => some (.bool true)
  | 7 => some (.bool true)
  | 8 => some (.string y)
  | 9 => some (.slice A4 n1 c4)
  | 10 => some (.slice (some ⟨g, 0, none⟩) n cb)
  | 60 => some (.bool true)
  | 61 => some (.bool true)
  | 62 => some (.slice A4 n1 c4)
  | 63 => some (.string y)
  | 64 => some (.bool p)
  | 65 => some (.slice A4 n1 c4)
  | 66 => some (.slice (some ⟨g, 0, none⟩) n cb)
  | 67 => some (.string s2)
  | 68 => some (.bool p)
  | 69 => some (.bool true)
  | 70 => some (.bool true)
  | 71 => some (.bool true)
  | 72 => some (.slice A n1 c)
  | 73 => some (.string y)
  | 74 => some (.bool false)
  | 75 => some (.bool true)
  | 76 => some (.bool true)
  | 81 => some (.bool true)
  | 82 => some (.bool true)
  | _ => none
set_option linter.unusedVariables false in
def FoGP (A A4 : Option Addr) (n1 c c4 cb g n : Nat) (y s2 : ByteArray) (p : Bool) (t : Nat) : Option (Value → World → Prop) :=
  match t with
  | 77 => some (fun _ _ => True)
  | 78 => some (fun _ _ => True)
  | 79 => some (fun _ _ => True)
  | 80 => some (fun _ _ => True)
  | _ => none
def FoG (A A4 : Option Addr) (n1 c c4 cb g n : Nat) (y s2 : ByteArray) (p : Bool) (t : Nat) (v : Value) (u : World) : Prop := (∀ z9, FoGV A A4 n1 c c4 cb g n y s2 p t = some z9 → v = z9) ∧ ∀ R, FoGP A A4 n1 c c4 cb g n y s2 p t = some R → R v u
set_option linter.unusedVariables false in
def FpGV (A A4 : Option Addr) (n1 c c4 cb g n : Nat) (y s2 : ByteArray) (p : Bool) (t : Nat) : Option Value :=
  match t with
  | 0 => some (.slice A n1 c)
  | 6 => some (.bool true)
  | 7 => some (.bool true)
  | 8 => some (.string y)
  | 9 => some (.slice A4 n1 c4)
  | 10 => some (.slice (some ⟨g, 0, none⟩) n cb)
  | 60 => some (.bool true)
  | 61 => some (.bool true)
  | 62 => some (.slice A4 n1 c4)
  | 63 => some (.string y)
  | 64 => some (.bool p)
  | 65 => some (.slice A4 n1 c4)
  | 66 => some (.slice (some ⟨g, 0, none⟩) n cb)
  | 67 => some (.string s2)
  | 68 => some (.bool p)
  | 69 => some (.bool true)
  | 70 => some (.bool true)
  | 71 => some (.bool true)
  | 72 => some (.slice A n1 c)
  | 73 => some (.string y)
  | 74 => some (.bool true)
  | 75 => some (.bool false)
  | 76 => some (.bool false)
  | 77 => some (.slice A4 n1 c4)
  | 78 => some (.slice (some ⟨g, 0, none⟩) n cb)
  | 79 => some (.string s2)
  | 80 => some (.bool true)
  | 81 => some (.bool true)
  | 82 => some (.bool true)
  | _ => none
set_option linter.unusedVariables false in
def FpGP (A A4 : Option Addr) (n1 c c4 cb g n : Nat) (y s2 : ByteArray) (p : Bool) (t : Nat) : Option (Value → World → Prop) :=
  match t with
  | _ => none
def FpG (A A4 : Option Addr) (n1 c c4 cb g n : Nat) (y s2 : ByteArray) (p : Bool) (t : Nat) (v : Value) (u : World) : Prop := (∀ z9, FpGV A A4 n1 c c4 cb g n y s2 p t = some z9 → v = z9) ∧ ∀ R, FpGP A A4 n1 c c4 cb g n y s2 p t = some R → R v u
set_option maxHeartbeats 4000000 in
theorem lawLangFold_any (A : Option Addr) (c : Nat) (gs : List Gd) (s : ByteArray) (x : Int) (w : World) (hN : Nds w w.heap.size A gs) (hm : gs.length ≤ maxLen) (hsm : Small gs) (hs : s.size ≤ maxLen) (x0 : 0 ≤ x) (x1 : x ≤ 4294967295) (hD : DB w) :
    Calls Tryd.prog 9 #[.slice A gs.length c, .string s, .int .u32 x] w fun e w' => e = .returned (.bool true) ∧ Below w.heap.size w w' := by
  have hsh := shown7_any w hD
  have HTX : Hid (∀ u, _) := fun u => text_any s u hs
  have HGD : Hid (∀ u, Below w.heap.size w u → Calls Tryd.prog 21 #[.slice A gs.length c] u fun e w' => GoodR gs u e w') := fun u hu => good_any A c gs u ((hN.below hu).more hu.size) hm hsm
  have hyz := text_size s
  have HN := hidd hN
  have HD := hidd hD
  clear hN hD hsm
  generalize cutS 20 s = y at *
  obtain ⟨n1, hn1'⟩ : ∃ n, gs.length = n := ⟨_, rfl⟩
  have HNL := hidd hn1'
  rw [hn1'] at hm HGD
  rw [hn1']
  unfold maxLen at hm
  clear hn1'
  go_enter Tryd.func9, Tryd.ntmps9
  go_wp2_with fail
  refine hsh.mono ?_
  rintro e w1 ⟨rfl, b1⟩
  have HB1 := hidd b1
  clear hsh b1
  go_wp2_with fail
  refine (HTX.out w1).mono ?_
  rintro e w2 ⟨rfl, rfl⟩
  have hgd := HGD.out w2 HB1.out
  go_wp2_with fail
  refine hgd.mono ?_
  rintro e w3 ⟨b3, z, rfl, hz⟩
  have HB3 := hidd (HB1.out.trans (b3.mono HB1.out.size))
  have HZ := hidd hz
  clear hgd b3 hz
  cases z with
  | false =>
    go_wp2
    go_ret
    exact ⟨rfl, HB3.out⟩
  | true =>
    obtain ⟨h30, hpg⟩ := HZ.out (by trivial)
    obtain ⟨ns, hg, ht⟩ := gn_tree hpg.2
    have hpn := (plain_tree hg ht).1 hpg
    have htf : TreeN (foldL ns) := ht.fold
    have hpf : PlainN (foldL ns) := fun n hn => by
      obtain ⟨m, hm, rfl⟩ := List.mem_map.1 hn
      exact hpn m hm
    have HFOLD : Hid (∀ u, Below w.heap.size w u → Calls Tryd.prog 26 #[.slice A n1 c] u fun e w' => Below u.heap.size u w' ∧ ∃ A' c', e = .returned (.slice A' n1 c') ∧ Nds w' w'.heap.size A' (gs.map foldH)) := fun u hu => by
      have := rfold_ok A c gs ns u ((HN.out.below hu).more hu.size) hg ht
      rw [List.length_map, HNL.out] at this
      exact this
    have HIN : Hid (∀ s', s'.size ≤ 63 → ∀ u, Below w.heap.size w u → IsC #[.slice A n1 c, .string s'] (iL ns s') u) := fun s' h u hu => is_tree ((HN.out.below hu).more hu.size) hg ht hpn h HNL.out (HD.out.below hu)
    have HIF : Hid (∀ s', s'.size ≤ 63 → ∀ u A' c', Nds u u.heap.size A' (gs.map foldH) → Below w.heap.size w u → IsC #[.slice A' n1 c', .string s'] (iL (foldL ns) s') u) := fun s' h u A' c' hx hu => is_tree hx (gn_foldH hg) htf hpf h (by rw [List.length_map]; exact HNL.out) (HD.out.below hu)
    have HCS : Hid (∀ s' : ByteArray, s'.size = y.size → (∀ i, i < y.size → CaseR ((bs y).getD i 0) ((bs s').getD i 0)) → iL (foldL ns) y = iL (foldL ns) s' ∧ (iL ns y = true → iL (foldL ns) s' = true)) := fun s' h1 h2 => by
      have hpos := ht.pos
      have hlen : (bs y).length = (bs s').length := by rw [bs_len, bs_len, h1]
      have hcase : ∀ i, i < (bs y).length → CaseR ((bs y).getD i 0) ((bs s').getD i 0) := fun i hi => h2 i (by rw [bs_len] at hi; exact hi)
      have hfl : (foldL ns).length = ns.length := foldL_len ns
      refine ⟨?_, fun q => ?_⟩
      · rw [Bool.eq_iff_iff, iL_iff htf.low, iL_iff htf.low, h1, hfl]
        exact Mt_case htf.low hlen hcase _ (by omega) _ _
      · rw [iL_iff ht.low] at q
        rw [iL_iff htf.low, h1, hfl]
        exact Mt_fold ht.low htf.low hlen hcase _ (by omega) _ _ q
    clear HGD HZ hg ht hpn h30 hpg HNL HN htf hpf
    have hf := HFOLD.out w3 HB3.out
    clear HFOLD
    go_wp2_with fail
    refine hf.mono ?_
    rintro e w4 ⟨b4, A4, c4, rfl, hN4⟩
    have HB4 := hidd (HB3.out.trans (b4.mono HB3.out.size))
    have HN4 := hidd hN4
    have hcv := Go.Lib.run_convert_string_bytes (P := Tryd.prog) w4 9 46 5 y Tryd.underlying9 Tryd.underlying46 Tryd.underlying5
    clear hf b4 hN4
    go_upto_region 7 with fail
    have HBY := hidd (bytes_new y HB4.out)
    obtain ⟨cb, hcb⟩ : ∃ cb, grownCap w4 y.size 0 5 = cb := ⟨_, rfl⟩
    rw [hcb]
    have HNB : Hid (Below w4.heap.size w4 (Lib.bytesWorld w4 5 y)) := (bytes_new y (Below.refl _ _)).bel
    generalize Lib.bytesWorld w4 5 y = w5 at *
    obtain ⟨g, hgq⟩ : ∃ g, w4.heap.size = g := ⟨_, rfl⟩
    rw [hgq] at HBY
    rw [hgq]
    have hgw : w4.heap.size ≤ g := by omega
    obtain ⟨n, hn⟩ : ∃ n, y.size = n := ⟨_, rfl⟩
    have HNY := hidd hn
    rw [hn] at HBY hyz
    rw [hn]
    clear hcb hgq hcv hn
    go_wp2
    go_loopw [26] (fun s26 wr => ∃ (k : Nat) (h : Nat → Nat), k ≤ n ∧ s26 = .int .i64 (k : Int) ∧ ByS w g n h wr ∧ Below w4.heap.size w4 wr ∧ (∀ i, i < n → h i < 256 ∧ CaseR ((bs y).getD i 0) (h i) ∧ (k ≤ i → h i = (bs y).getD i 0))) (fun s26 _ => n - (intOf s26).toNat)
    case atStart => exact ⟨0, _, Nat.zero_le _, rfl, HBY.out, HNB.out, fun i hi => ⟨bs_lt y i, .inl rfl, fun _ => rfl⟩⟩
    case round =>
      clear HBY HNB
      obtain ⟨k, h, hk0, rfl, hB, hb4, hh⟩ := hrel
      by_cases hlt : k < n
      · have hki : (k : Int) < (n : Int) := by omega
        have cg := hB.cell k hlt
        have tg := hB.thaw k hlt
        obtain ⟨v, hv⟩ : ∃ v, h k = v := ⟨_, rfl⟩
        have hvb := (hh k hlt).1
        rw [hv] at cg hvb
        have HB := hidd hB
        have HH := hidd hh
        have HV := hidd hv
        have HB5 := hidd hb4
        clear hB hh hv hb4
        have hk32 : Int.tmod (k : Int) 32 = (k : Int) := by rw [Int.tmod_eq_emod_of_nonneg (by omega)]; omega
        have hkeep : ∃ k_1 h, k_1 ≤ n ∧ Value.int IntKind.i64 ((k : Int) + 1) = Value.int IntKind.i64 (k_1 : Int) ∧ ByS w g n h wr ∧ Below w4.heap.size w4 wr ∧ (∀ i, i < n → h i < 256 ∧ CaseR ((bs y).getD i 0) (h i) ∧ (k_1 ≤ i → h i = (bs y).getD i 0)) :=
          ⟨k + 1, h, by omega, by simp, HB.out, HB5.out, fun i hi => ⟨(HH.out i hi).1, (HH.out i hi).2.1, fun q => (HH.out i hi).2.2 (by omega)⟩⟩
        have HKEEP := hidd hkeep
        clear hkeep
        have hms : n - (intOf (Value.int IntKind.i64 ((k : Int) + 1))).toNat < n - (intOf (Value.int IntKind.i64 (k : Int))).toNat := by simp [intOf]; omega
        have HMS := hidd hms
        clear hms
        by_cases hlet : (97 ≤ v ∧ v ≤ 122) ∨ (65 ≤ v ∧ v ≤ 90)
        · have hcs := xor_case hlet
          have hbx := bits_case (v := v) (by omega)
          have hlt8 : v ^^^ 32 < 256 := by
            have key : ∀ c : Fin 128, c.1 ^^^ 32 < 256 := by decide
            exact key ⟨v, by omega⟩
          have HNX : Hid (ByS w g n (fun i => if i = k then v ^^^ 32 else h i) (wr.setCell ⟨g, k, none⟩ (.int .u8 ((v ^^^ 32 : Nat) : Int))) ∧ Below w4.heap.size w4 (wr.setCell ⟨g, k, none⟩ (.int .u8 ((v ^^^ 32 : Nat) : Int))) ∧ ∀ i, i < n → (if i = k then v ^^^ 32 else h i) < 256 ∧ CaseR ((bs y).getD i 0) (if i = k then v ^^^ 32 else h i) ∧ (k + 1 ≤ i → (if i = k then v ^^^ 32 else h i) = (bs y).getD i 0)) := by
            refine ⟨HB.out.set hlt _, bel_set HB5.out _ _ hgw, fun i hi => ?_⟩
            by_cases e : i = k
            · subst e
              rw [if_pos rfl, ← (HH.out i hi).2.2 (Nat.le_refl _), HV.out]
              exact ⟨hlt8, hcs, fun q => by omega⟩
            · rw [if_neg e]
              exact ⟨(HH.out i hi).1, (HH.out i hi).2.1, fun q => (HH.out i hi).2.2 (by omega)⟩
          clear hcs
          rcases hlet with ⟨q1, q2⟩ | ⟨q1, q2⟩
          · have r1 : (97 : Int) ≤ (v : Int) := by omega
            have r2 : (v : Int) ≤ 122 := by omega
            go_wp2
            · exact ⟨⟨k + 1, _, by omega, rfl, HNX.out.1, HNX.out.2.1, HNX.out.2.2⟩, HMS.out⟩
            · exact ⟨HKEEP.out, HMS.out⟩
          · have r1 : ¬ (97 : Int) ≤ (v : Int) := by omega
            have r2 : (65 : Int) ≤ (v : Int) := by omega
            have r3 : (v : Int) ≤ 90 := by omega
            go_wp2
            · exact ⟨⟨k + 1, _, by omega, rfl, HNX.out.1, HNX.out.2.1, HNX.out.2.2⟩, HMS.out⟩
            · exact ⟨HKEEP.out, HMS.out⟩
        · by_cases q1 : v < 65
          · have r1 : ¬ (97 : Int) ≤ (v : Int) := by omega
            have r2 : ¬ (65 : Int) ≤ (v : Int) := by omega
            go_wp2
            all_goals exact ⟨HKEEP.out, HMS.out⟩
          · by_cases q2 : v < 97
            · have r1 : ¬ (97 : Int) ≤ (v : Int) := by omega
              have r2 : (65 : Int) ≤ (v : Int) := by omega
              have r3 : ¬ (v : Int) ≤ 90 := by omega
              go_wp2
              all_goals exact ⟨HKEEP.out, HMS.out⟩
            · have r1 : (97 : Int) ≤ (v : Int) := by omega
              have r2 : ¬ (v : Int) ≤ 122 := by omega
              have r3 : (65 : Int) ≤ (v : Int) := by omega
              have r4 : ¬ (v : Int) ≤ 90 := by omega
              go_wp2
              all_goals exact ⟨HKEEP.out, HMS.out⟩
      · have hkn : k = n := by omega
        obtain ⟨xs, hxs⟩ : ∃ xs : List Int, xs = (List.range n).map fun i => ((h i : Nat) : Int) := ⟨_, rfl⟩
        have hxl : xs.length = n := by rw [hxs]; simp
        have hxd : ∀ i, i < n → xs.getD i 0 = ((h i : Nat) : Int) := fun i hi => by
          rw [hxs, List.getD_eq_getElem?_getD, List.getElem?_map, List.getElem?_range hi]
          rfl
        have HSB : Hid (∀ u, Below wr.heap.size wr u → (convert 46 9 (.slice (some ⟨g, 0, none⟩) n cb)).run Tryd.prog u = .ok (.string (strOfNums xs)) u) := fun u hu => by
          have := run_convert_bytes_arg (P := Tryd.prog) u 46 5 Tryd.underlying46 Tryd.underlying5 g 0 n cb xs hxl (fun i hi => by
            rw [Nat.zero_add, hu.cell (by exact hB.lt), hB.cell i hi, hxd i hi]) 9 Tryd.underlying9
          exact this
        obtain ⟨s2, hs2⟩ : ∃ s2, strOfNums xs = s2 := ⟨_, rfl⟩
        rw [hs2] at HSB
        have hsz2 : s2.size = y.size := by rw [← hs2, strOfNums_size, hxl, HNY.out]
        have hbs2 : ∀ i, i < y.size → CaseR ((bs y).getD i 0) ((bs s2).getD i 0) := fun i hi => by
          have hin : i < n := by have := HNY.out; omega
          rw [← hs2, bs_nums xs (fun z hz => by
            obtain ⟨j, hj, rfl⟩ := List.getElem_of_mem hz
            have e := hxd j (by omega)
            rw [List.getD_eq_getElem?_getD, List.getElem?_eq_getElem hj] at e
            have e : xs[j] = ((h j : Nat) : Int) := e
            have := (hh j (by omega)).1
            omega)]
          have e := hxd i hin
          rw [List.getD_eq_getElem?_getD, List.getElem?_eq_getElem (by omega)] at e
          have e : xs[i] = ((h i : Nat) : Int) := e
          rw [List.getD_eq_getElem?_getD (l := xs.map Int.toNat), List.getElem?_map, List.getElem?_eq_getElem (by omega)]
          show CaseR _ (xs[i]).toNat
          rw [e]
          exact (hh i hin).2.1
        obtain ⟨hp1, hp2⟩ := HCS.out s2 hsz2 hbs2
        have HBW : Hid (Below w.heap.size w wr) := hB.bel
        have HN9 : Hid (∀ u, Below wr.heap.size wr u → Nds u u.heap.size A4 (gs.map foldH)) := fun u hu => ((HN4.out.below hb4).more (Nat.le_refl _)).below (hu.mono hb4.size) |>.more (Nat.le_trans hb4.size hu.size)
        have HFY : Hid (∀ u, Below wr.heap.size wr u → IsC #[.slice A4 n1 c4, .string y] (iL (foldL ns) y) u) := fun u hu => HIF.out y (by have := HNY.out; omega) u A4 c4 (HN9.out u hu) (HBW.out.trans (hu.mono HBW.out.size))
        have HFS : Hid (∀ u, Below wr.heap.size wr u → IsC #[.slice A4 n1 c4, .string s2] (iL (foldL ns) y) u) := fun u hu => by
          rw [hp1]
          exact HIF.out s2 (by have := HNY.out; omega) u A4 c4 (HN9.out u hu) (HBW.out.trans (hu.mono HBW.out.size))
        have HIY : Hid (∀ u, Below wr.heap.size wr u → IsC #[.slice A n1 c, .string y] (iL ns y) u) := fun u hu => HIN.out y (by have := HNY.out; omega) u (HBW.out.trans (hu.mono HBW.out.size))
        have HFT : Hid (iL ns y = true → ∀ u, Below wr.heap.size wr u → IsC #[.slice A4 n1 c4, .string s2] true u) := fun q u hu => by
          have := HFS.out u hu
          rw [hp1, hp2 q] at this
          exact this
        clear hB hb4 hh hxs hxl hxd hs2 hsz2 hbs2 hp1 hp2 HCS HIN HIF HN4 HN9 HNY HD
        generalize iL (foldL ns) y = p at *
        generalize iL ns y = q at *
        subst hkn
        cases q with
        | false =>
          clear HFT
          go_upto_region 13 with fail
          refine wp_region_slots (Below wr.heap.size wr) (FoG A A4 n1 c c4 cb g k y s2 p) (by kernel_rfl) (by kernel_rfl) (by kernel_rfl) ?_ (bel_drew (Below.refl _ _)) [0, 7, 8, 9, 10] (by kernel_rfl) ?_ ?_ ?_
          · intro t v u u' h hb
            refine ⟨h.1, fun R hR => ?_⟩
            have h2 := h.2 R hR
            unfold FoGP at hR
            split at hR
            · cases hR; exact h2
            · cases hR; exact h2
            · cases hR; exact h2
            · cases hR; exact h2
            · cases hR
          · intro u _
            refine ⟨⟨_, rfl, ?_⟩, ⟨_, rfl, ?_⟩, ⟨_, rfl, ?_⟩, ⟨_, rfl, ?_⟩, ⟨_, rfl, ?_⟩, trivial⟩ <;> exact ⟨fun _ h => Option.some.inj h, fun _ h => no_some h⟩
          · refine ⟨?_, ?_, ?_, ?_, ?_, ?_, ?_, ?_, ?_, ?_, ?_, ?_, ?_, ?_, ?_, ?_, ?_, ?_, ?_, ?_, ?_, ?_, ?_, ?_, trivial⟩
            · intro a u hS hr K hK
              obtain ⟨⟨vl0, e0, g0⟩, -⟩ := hr
              obtain rfl := g0.1 _ rfl
              clear g0
              rw [if_pos (want_none rfl)]
              unfold Oper.wp
              go_simp
              exact hK _ _ ⟨fun _ h => Option.some.inj h, fun _ h => no_some h⟩ hS (Below.refl _ _)
            · intro a u hS hr K hK
              obtain ⟨⟨vl0, e0, g0⟩, -⟩ := hr
              obtain rfl := g0.1 _ rfl
              clear g0
              rw [if_pos (want_none rfl)]
              unfold Oper.wp
              go_simp
              exact hK _ _ ⟨fun _ h => Option.some.inj h, fun _ h => no_some h⟩ hS (Below.refl _ _)
            · intro a u hS hr K hK
              obtain ⟨⟨vl0, e0, g0⟩, ⟨vl1, e1, g1⟩, -⟩ := hr
              obtain rfl := g0.1 _ rfl
              clear g0
              obtain rfl := g1.1 _ rfl
              clear g1
              rw [if_pos (want_some rfl rfl rfl e1)]
              unfold Oper.wp
              go_simp
              exact hK _ _ ⟨fun _ h => Option.some.inj h, fun _ h => no_some h⟩ hS (Below.refl _ _)
            · intro a u hS hr K hK
              obtain ⟨⟨vl0, e0, g0⟩, ⟨vl1, e1, g1⟩, -⟩ := hr
              obtain rfl := g0.1 _ rfl
              clear g0
              obtain rfl := g1.1 _ rfl
              clear g1
              rw [if_pos (want_some rfl rfl rfl e1)]
              unfold Oper.wp
              go_simp
              exact hK _ _ ⟨fun _ h => Option.some.inj h, fun _ h => no_some h⟩ hS (Below.refl _ _)
            · intro a u hS hr K hK
              obtain ⟨⟨vl0, e0, g0⟩, ⟨vl1, e1, g1⟩, ⟨vl2, e2, g2⟩, -⟩ := hr
              obtain rfl := g0.1 _ rfl
              clear g0
              obtain rfl := g1.1 _ rfl
              clear g1
              obtain rfl := g2.1 _ rfl
              clear g2
              rw [if_pos (want_some rfl rfl rfl e2)]
              unfold Oper.wp
              go_simp
              refine (HFY.out u hS).mono ?_
              rintro e u1 ⟨hb, rfl⟩
              exact hK _ _ ⟨fun _ h => Option.some.inj h, fun _ h => no_some h⟩ (hS.trans (hb.mono hS.size)) hb
            · intro a u hS hr K hK
              obtain ⟨⟨vl0, e0, g0⟩, ⟨vl1, e1, g1⟩, -⟩ := hr
              obtain rfl := g0.1 _ rfl
              clear g0
              obtain rfl := g1.1 _ rfl
              clear g1
              rw [if_pos (want_some rfl rfl rfl e1)]
              unfold Oper.wp
              go_simp
              exact hK _ _ ⟨fun _ h => Option.some.inj h, fun _ h => no_some h⟩ hS (Below.refl _ _)
            · intro a u hS hr K hK
              obtain ⟨⟨vl0, e0, g0⟩, ⟨vl1, e1, g1⟩, -⟩ := hr
              obtain rfl := g0.1 _ rfl
              clear g0
              obtain rfl := g1.1 _ rfl
              clear g1
              rw [if_pos (want_some rfl rfl rfl e1)]
              unfold Oper.wp
              go_simp
              exact hK _ _ ⟨fun _ h => Option.some.inj h, fun _ h => no_some h⟩ hS (Below.refl _ _)
            · intro a u hS hr K hK
              obtain ⟨⟨vl0, e0, g0⟩, ⟨vl1, e1, g1⟩, -⟩ := hr
              obtain rfl := g0.1 _ rfl
              clear g0
              obtain rfl := g1.1 _ rfl
              clear g1
              rw [if_pos (want_some rfl rfl rfl e1)]
              have hcv := HSB.out u hS
              unfold Oper.wp
              go_simp
              exact hK _ _ ⟨fun _ h => Option.some.inj h, fun _ h => no_some h⟩ hS (Below.refl _ _)
            · intro a u hS hr K hK
              obtain ⟨⟨vl0, e0, g0⟩, ⟨vl1, e1, g1⟩, ⟨vl2, e2, g2⟩, -⟩ := hr
              obtain rfl := g0.1 _ rfl
              clear g0
              obtain rfl := g1.1 _ rfl
              clear g1
              obtain rfl := g2.1 _ rfl
              clear g2
              rw [if_pos (want_some rfl rfl rfl e2)]
              unfold Oper.wp
              go_simp
              refine (HFS.out u hS).mono ?_
              rintro e u1 ⟨hb, rfl⟩
              exact hK _ _ ⟨fun _ h => Option.some.inj h, fun _ h => no_some h⟩ (hS.trans (hb.mono hS.size)) hb
            · intro a u hS hr K hK
              obtain ⟨⟨vl0, e0, g0⟩, ⟨vl1, e1, g1⟩, ⟨vl2, e2, g2⟩, -⟩ := hr
              obtain rfl := g0.1 _ rfl
              clear g0
              obtain rfl := g1.1 _ rfl
              clear g1
              obtain rfl := g2.1 _ rfl
              clear g2
              rw [if_pos (want_some rfl rfl rfl e2)]
              have hpp : (p == p) = true := by simp
              unfold Oper.wp
              go_simp
              exact hK _ _ ⟨fun _ h => Option.some.inj h, fun _ h => no_some h⟩ hS (Below.refl _ _)
            · intro a u hS hr K hK
              obtain ⟨⟨vl0, e0, g0⟩, ⟨vl1, e1, g1⟩, -⟩ := hr
              obtain rfl := g0.1 _ rfl
              clear g0
              obtain rfl := g1.1 _ rfl
              clear g1
              rw [if_pos (want_none rfl)]
              unfold Oper.wp
              go_simp
              exact hK _ _ ⟨fun _ h => Option.some.inj h, fun _ h => no_some h⟩ hS (Below.refl _ _)
            · intro a u hS hr K hK
              obtain ⟨⟨vl0, e0, g0⟩, -⟩ := hr
              obtain rfl := g0.1 _ rfl
              clear g0
              rw [if_pos (want_none rfl)]
              unfold Oper.wp
              go_simp
              exact hK _ _ ⟨fun _ h => Option.some.inj h, fun _ h => no_some h⟩ hS (Below.refl _ _)
            · intro a u hS hr K hK
              obtain ⟨⟨vl0, e0, g0⟩, ⟨vl1, e1, g1⟩, -⟩ := hr
              obtain rfl := g0.1 _ rfl
              clear g0
              obtain rfl := g1.1 _ rfl
              clear g1
              rw [if_pos (want_some rfl rfl rfl e1)]
              unfold Oper.wp
              go_simp
              exact hK _ _ ⟨fun _ h => Option.some.inj h, fun _ h => no_some h⟩ hS (Below.refl _ _)
            · intro a u hS hr K hK
              obtain ⟨⟨vl0, e0, g0⟩, ⟨vl1, e1, g1⟩, -⟩ := hr
              obtain rfl := g0.1 _ rfl
              clear g0
              obtain rfl := g1.1 _ rfl
              clear g1
              rw [if_pos (want_some rfl rfl rfl e1)]
              unfold Oper.wp
              go_simp
              exact hK _ _ ⟨fun _ h => Option.some.inj h, fun _ h => no_some h⟩ hS (Below.refl _ _)
            · intro a u hS hr K hK
              obtain ⟨⟨vl0, e0, g0⟩, ⟨vl1, e1, g1⟩, ⟨vl2, e2, g2⟩, -⟩ := hr
              obtain rfl := g0.1 _ rfl
              clear g0
              obtain rfl := g1.1 _ rfl
              clear g1
              obtain rfl := g2.1 _ rfl
              clear g2
              rw [if_pos (want_some rfl rfl rfl e2)]
              unfold Oper.wp
              go_simp
              refine (HIY.out u hS).mono ?_
              rintro e u1 ⟨hb, rfl⟩
              exact hK _ _ ⟨fun _ h => Option.some.inj h, fun _ h => no_some h⟩ (hS.trans (hb.mono hS.size)) hb
            · intro a u hS hr K hK
              obtain ⟨⟨vl0, e0, g0⟩, ⟨vl1, e1, g1⟩, -⟩ := hr
              obtain rfl := g0.1 _ rfl
              clear g0
              obtain rfl := g1.1 _ rfl
              clear g1
              rw [if_pos (want_some rfl rfl rfl e1)]
              unfold Oper.wp
              go_simp
              exact hK _ _ ⟨fun _ h => Option.some.inj h, fun _ h => no_some h⟩ hS (Below.refl _ _)
            · intro a u hS hr K hK
              obtain ⟨⟨vl0, e0, g0⟩, ⟨vl1, e1, g1⟩, -⟩ := hr
              obtain rfl := g0.1 _ rfl
              clear g0
              obtain rfl := g1.1 _ rfl
              clear g1
              rw [if_pos (want_some rfl rfl rfl e1)]
              unfold Oper.wp
              go_simp
              exact hK _ _ ⟨fun _ h => Option.some.inj h, fun _ h => no_some h⟩ hS (Below.refl _ _)
            · intro a u hS hr K hK
              obtain ⟨⟨vl0, e0, g0⟩, ⟨vl1, e1, g1⟩, -⟩ := hr
              obtain rfl := g0.1 _ rfl
              clear g0
              obtain rfl := g1.1 _ rfl
              clear g1
              rw [if_neg (unwant rfl rfl rfl e1 (by decide))]
              exact hK _ _ ⟨fun _ h => no_some h, fun _ h => spec_ok h trivial⟩ hS (Below.refl _ _)
            · intro a u hS hr K hK
              obtain ⟨⟨vl0, e0, g0⟩, ⟨vl1, e1, g1⟩, -⟩ := hr
              obtain rfl := g0.1 _ rfl
              clear g0
              obtain rfl := g1.1 _ rfl
              clear g1
              rw [if_neg (unwant rfl rfl rfl e1 (by decide))]
              exact hK _ _ ⟨fun _ h => no_some h, fun _ h => spec_ok h trivial⟩ hS (Below.refl _ _)
            · intro a u hS hr K hK
              obtain ⟨⟨vl0, e0, g0⟩, ⟨vl1, e1, g1⟩, -⟩ := hr
              replace g0 := g0.2 _ rfl
              obtain rfl := g1.1 _ rfl
              clear g1
              rw [if_neg (unwant rfl rfl rfl e1 (by decide))]
              exact hK _ _ ⟨fun _ h => no_some h, fun _ h => spec_ok h trivial⟩ hS (Below.refl _ _)
            · intro a u hS hr K hK
              obtain ⟨⟨vl0, e0, g0⟩, ⟨vl1, e1, g1⟩, ⟨vl2, e2, g2⟩, -⟩ := hr
              replace g0 := g0.2 _ rfl
              replace g1 := g1.2 _ rfl
              obtain rfl := g2.1 _ rfl
              clear g2
              rw [if_neg (unwant rfl rfl rfl e2 (by decide))]
              exact hK _ _ ⟨fun _ h => no_some h, fun _ h => spec_ok h trivial⟩ hS (Below.refl _ _)
            · intro a u hS hr K hK
              obtain ⟨⟨vl0, e0, g0⟩, ⟨vl1, e1, g1⟩, ⟨vl2, e2, g2⟩, -⟩ := hr
              obtain rfl := g0.1 _ rfl
              clear g0
              replace g1 := g1.2 _ rfl
              obtain rfl := g2.1 _ rfl
              clear g2
              rw [if_pos (want_some rfl rfl rfl e2)]
              unfold Oper.wp
              go_simp
              exact hK _ _ ⟨fun _ h => Option.some.inj h, fun _ h => no_some h⟩ hS (Below.refl _ _)
            · intro a u hS hr K hK
              obtain ⟨⟨vl0, e0, g0⟩, ⟨vl1, e1, g1⟩, -⟩ := hr
              obtain rfl := g0.1 _ rfl
              clear g0
              obtain rfl := g1.1 _ rfl
              clear g1
              rw [if_pos (want_none rfl)]
              unfold Oper.wp
              go_simp
              exact hK _ _ ⟨fun _ h => Option.some.inj h, fun _ h => no_some h⟩ hS (Below.refl _ _)
            · intro a u hS hr K hK
              obtain ⟨⟨vl0, e0, g0⟩, -⟩ := hr
              obtain rfl := g0.1 _ rfl
              clear g0
              rw [if_pos (want_none rfl)]
              unfold Oper.wp
              go_simp
              exact hK _ _ ⟨fun _ h => Option.some.inj h, fun _ h => no_some h⟩ hS (Below.refl _ _)
          intro a w9 hS hts hd hkn hf
          have HF := hidd (HBW.out.trans (hS.mono HBW.out.size))
          clear hS
          obtain ⟨v60, e60, g60⟩ := hf 0 _ 60 rfl rfl
          obtain ⟨v61, e61, g61⟩ := hf 1 _ 61 rfl rfl
          obtain ⟨v62, e62, g62⟩ := hf 2 _ 62 rfl rfl
          obtain ⟨v63, e63, g63⟩ := hf 3 _ 63 rfl rfl
          obtain ⟨v64, e64, g64⟩ := hf 4 _ 64 rfl rfl
          obtain ⟨v65, e65, g65⟩ := hf 5 _ 65 rfl rfl
          obtain ⟨v66, e66, g66⟩ := hf 6 _ 66 rfl rfl
          obtain ⟨v67, e67, g67⟩ := hf 7 _ 67 rfl rfl
          obtain ⟨v68, e68, g68⟩ := hf 8 _ 68 rfl rfl
          obtain ⟨v69, e69, g69⟩ := hf 9 _ 69 rfl rfl
          obtain ⟨v70, e70, g70⟩ := hf 10 _ 70 rfl rfl
          obtain ⟨v71, e71, g71⟩ := hf 11 _ 71 rfl rfl
          obtain ⟨v72, e72, g72⟩ := hf 12 _ 72 rfl rfl
          obtain ⟨v73, e73, g73⟩ := hf 13 _ 73 rfl rfl
          obtain ⟨v74, e74, g74⟩ := hf 14 _ 74 rfl rfl
          obtain ⟨v75, e75, g75⟩ := hf 15 _ 75 rfl rfl
          obtain ⟨v76, e76, g76⟩ := hf 16 _ 76 rfl rfl
          obtain ⟨v77, e77, g77⟩ := hf 17 _ 77 rfl rfl
          obtain ⟨v78, e78, g78⟩ := hf 18 _ 78 rfl rfl
          obtain ⟨v79, e79, g79⟩ := hf 19 _ 79 rfl rfl
          obtain ⟨v80, e80, g80⟩ := hf 20 _ 80 rfl rfl
          obtain ⟨v81, e81, g81⟩ := hf 21 _ 81 rfl rfl
          obtain ⟨v82, e82, g82⟩ := hf 22 _ 82 rfl rfl
          obtain ⟨v6, e6, g6⟩ := hf 23 _ 6 rfl rfl
          have hA := act_puts [(60, v60), (61, v61), (62, v62), (63, v63), (64, v64), (65, v65), (66, v66), (67, v67), (68, v68), (69, v69), (70, v70), (71, v71), (72, v72), (73, v73), (74, v74), (75, v75), (76, v76), (77, v77), (78, v78), (79, v79), (80, v80), (81, v81), (82, v82), (6, v6)] hts hd hkn (by kernel_rfl) (by simp [e60, e61, e62, e63, e64, e65, e66, e67, e68, e69, e70, e71, e72, e73, e74, e75, e76, e77, e78, e79, e80, e81, e82, e6])
          clear hf hts hd hkn e60 e61 e62 e63 e64 e65 e66 e67 e68 e69 e70 e71 e72 e73 e74 e75 e76 e77 e78 e79 e80 e81 e82 e6
          obtain rfl := g60.1 _ rfl
          clear g60
          obtain rfl := g61.1 _ rfl
          clear g61
          obtain rfl := g62.1 _ rfl
          clear g62
          obtain rfl := g63.1 _ rfl
          clear g63
          obtain rfl := g64.1 _ rfl
          clear g64
          obtain rfl := g65.1 _ rfl
          clear g65
          obtain rfl := g66.1 _ rfl
          clear g66
          obtain rfl := g67.1 _ rfl
          clear g67
          obtain rfl := g68.1 _ rfl
          clear g68
          obtain rfl := g69.1 _ rfl
          clear g69
          obtain rfl := g70.1 _ rfl
          clear g70
          obtain rfl := g71.1 _ rfl
          clear g71
          obtain rfl := g72.1 _ rfl
          clear g72
          obtain rfl := g73.1 _ rfl
          clear g73
          obtain rfl := g74.1 _ rfl
          clear g74
          obtain rfl := g75.1 _ rfl
          clear g75
          obtain rfl := g76.1 _ rfl
          clear g76
          replace g77 := g77.2 _ rfl
          replace g78 := g78.2 _ rfl
          replace g79 := g79.2 _ rfl
          replace g80 := g80.2 _ rfl
          obtain rfl := g81.1 _ rfl
          clear g81
          obtain rfl := g82.1 _ rfl
          clear g82
          obtain rfl := g6.1 _ rfl
          clear g6
          subst hA
          simp only [List.foldl, List.setIfInBounds_toArray, List.set_cons_zero, List.set_cons_succ]
          simp only [Exit.then]
          apply_assumption
          go_wp2
          go_ret
          exact ⟨rfl, HF.out⟩
        | true =>
          have HFT : Hid (∀ u, Below wr.heap.size wr u → IsC #[.slice A4 n1 c4, .string s2] true u) := HFT.out (by trivial)
          go_upto_region 13 with fail
          refine wp_region_slots (Below wr.heap.size wr) (FpG A A4 n1 c c4 cb g k y s2 p) (by kernel_rfl) (by kernel_rfl) (by kernel_rfl) ?_ (bel_drew (Below.refl _ _)) [0, 7, 8, 9, 10] (by kernel_rfl) ?_ ?_ ?_
          · intro t v u u' h hb
            refine ⟨h.1, fun R hR => ?_⟩
            have h2 := h.2 R hR
            unfold FpGP at hR
            cases hR
          · intro u _
            refine ⟨⟨_, rfl, ?_⟩, ⟨_, rfl, ?_⟩, ⟨_, rfl, ?_⟩, ⟨_, rfl, ?_⟩, ⟨_, rfl, ?_⟩, trivial⟩ <;> exact ⟨fun _ h => Option.some.inj h, fun _ h => no_some h⟩
          · refine ⟨?_, ?_, ?_, ?_, ?_, ?_, ?_, ?_, ?_, ?_, ?_, ?_, ?_, ?_, ?_, ?_, ?_, ?_, ?_, ?_, ?_, ?_, ?_, ?_, trivial⟩
            · intro a u hS hr K hK
              obtain ⟨⟨vl0, e0, g0⟩, -⟩ := hr
              obtain rfl := g0.1 _ rfl
              clear g0
              rw [if_pos (want_none rfl)]
              unfold Oper.wp
              go_simp
              exact hK _ _ ⟨fun _ h => Option.some.inj h, fun _ h => no_some h⟩ hS (Below.refl _ _)
            · intro a u hS hr K hK
              obtain ⟨⟨vl0, e0, g0⟩, -⟩ := hr
              obtain rfl := g0.1 _ rfl
              clear g0
              rw [if_pos (want_none rfl)]
              unfold Oper.wp
              go_simp
              exact hK _ _ ⟨fun _ h => Option.some.inj h, fun _ h => no_some h⟩ hS (Below.refl _ _)
            · intro a u hS hr K hK
              obtain ⟨⟨vl0, e0, g0⟩, ⟨vl1, e1, g1⟩, -⟩ := hr
              obtain rfl := g0.1 _ rfl
              clear g0
              obtain rfl := g1.1 _ rfl
              clear g1
              rw [if_pos (want_some rfl rfl rfl e1)]
              unfold Oper.wp
              go_simp
              exact hK _ _ ⟨fun _ h => Option.some.inj h, fun _ h => no_some h⟩ hS (Below.refl _ _)
            · intro a u hS hr K hK
              obtain ⟨⟨vl0, e0, g0⟩, ⟨vl1, e1, g1⟩, -⟩ := hr
              obtain rfl := g0.1 _ rfl
              clear g0
              obtain rfl := g1.1 _ rfl
              clear g1
              rw [if_pos (want_some rfl rfl rfl e1)]
              unfold Oper.wp
              go_simp
              exact hK _ _ ⟨fun _ h => Option.some.inj h, fun _ h => no_some h⟩ hS (Below.refl _ _)
            · intro a u hS hr K hK
              obtain ⟨⟨vl0, e0, g0⟩, ⟨vl1, e1, g1⟩, ⟨vl2, e2, g2⟩, -⟩ := hr
              obtain rfl := g0.1 _ rfl
              clear g0
              obtain rfl := g1.1 _ rfl
              clear g1
              obtain rfl := g2.1 _ rfl
              clear g2
              rw [if_pos (want_some rfl rfl rfl e2)]
              unfold Oper.wp
              go_simp
              refine (HFY.out u hS).mono ?_
              rintro e u1 ⟨hb, rfl⟩
              exact hK _ _ ⟨fun _ h => Option.some.inj h, fun _ h => no_some h⟩ (hS.trans (hb.mono hS.size)) hb
            · intro a u hS hr K hK
              obtain ⟨⟨vl0, e0, g0⟩, ⟨vl1, e1, g1⟩, -⟩ := hr
              obtain rfl := g0.1 _ rfl
              clear g0
              obtain rfl := g1.1 _ rfl
              clear g1
              rw [if_pos (want_some rfl rfl rfl e1)]
              unfold Oper.wp
              go_simp
              exact hK _ _ ⟨fun _ h => Option.some.inj h, fun _ h => no_some h⟩ hS (Below.refl _ _)
            · intro a u hS hr K hK
              obtain ⟨⟨vl0, e0, g0⟩, ⟨vl1, e1, g1⟩, -⟩ := hr
              obtain rfl := g0.1 _ rfl
              clear g0
              obtain rfl := g1.1 _ rfl
              clear g1
              rw [if_pos (want_some rfl rfl rfl e1)]
              unfold Oper.wp
              go_simp
              exact hK _ _ ⟨fun _ h => Option.some.inj h, fun _ h => no_some h⟩ hS (Below.refl _ _)
            · intro a u hS hr K hK
              obtain ⟨⟨vl0, e0, g0⟩, ⟨vl1, e1, g1⟩, -⟩ := hr
              obtain rfl := g0.1 _ rfl
              clear g0
              obtain rfl := g1.1 _ rfl
              clear g1
              rw [if_pos (want_some rfl rfl rfl e1)]
              have hcv := HSB.out u hS
              unfold Oper.wp
              go_simp
              exact hK _ _ ⟨fun _ h => Option.some.inj h, fun _ h => no_some h⟩ hS (Below.refl _ _)
            · intro a u hS hr K hK
              obtain ⟨⟨vl0, e0, g0⟩, ⟨vl1, e1, g1⟩, ⟨vl2, e2, g2⟩, -⟩ := hr
              obtain rfl := g0.1 _ rfl
              clear g0
              obtain rfl := g1.1 _ rfl
              clear g1
              obtain rfl := g2.1 _ rfl
              clear g2
              rw [if_pos (want_some rfl rfl rfl e2)]
              unfold Oper.wp
              go_simp
              refine (HFS.out u hS).mono ?_
              rintro e u1 ⟨hb, rfl⟩
              exact hK _ _ ⟨fun _ h => Option.some.inj h, fun _ h => no_some h⟩ (hS.trans (hb.mono hS.size)) hb
            · intro a u hS hr K hK
              obtain ⟨⟨vl0, e0, g0⟩, ⟨vl1, e1, g1⟩, ⟨vl2, e2, g2⟩, -⟩ := hr
              obtain rfl := g0.1 _ rfl
              clear g0
              obtain rfl := g1.1 _ rfl
              clear g1
              obtain rfl := g2.1 _ rfl
              clear g2
              rw [if_pos (want_some rfl rfl rfl e2)]
              have hpp : (p == p) = true := by simp
              unfold Oper.wp
              go_simp
              exact hK _ _ ⟨fun _ h => Option.some.inj h, fun _ h => no_some h⟩ hS (Below.refl _ _)
            · intro a u hS hr K hK
              obtain ⟨⟨vl0, e0, g0⟩, ⟨vl1, e1, g1⟩, -⟩ := hr
              obtain rfl := g0.1 _ rfl
              clear g0
              obtain rfl := g1.1 _ rfl
              clear g1
              rw [if_pos (want_none rfl)]
              unfold Oper.wp
              go_simp
              exact hK _ _ ⟨fun _ h => Option.some.inj h, fun _ h => no_some h⟩ hS (Below.refl _ _)
            · intro a u hS hr K hK
              obtain ⟨⟨vl0, e0, g0⟩, -⟩ := hr
              obtain rfl := g0.1 _ rfl
              clear g0
              rw [if_pos (want_none rfl)]
              unfold Oper.wp
              go_simp
              exact hK _ _ ⟨fun _ h => Option.some.inj h, fun _ h => no_some h⟩ hS (Below.refl _ _)
            · intro a u hS hr K hK
              obtain ⟨⟨vl0, e0, g0⟩, ⟨vl1, e1, g1⟩, -⟩ := hr
              obtain rfl := g0.1 _ rfl
              clear g0
              obtain rfl := g1.1 _ rfl
              clear g1
              rw [if_pos (want_some rfl rfl rfl e1)]
              unfold Oper.wp
              go_simp
              exact hK _ _ ⟨fun _ h => Option.some.inj h, fun _ h => no_some h⟩ hS (Below.refl _ _)
            · intro a u hS hr K hK
              obtain ⟨⟨vl0, e0, g0⟩, ⟨vl1, e1, g1⟩, -⟩ := hr
              obtain rfl := g0.1 _ rfl
              clear g0
              obtain rfl := g1.1 _ rfl
              clear g1
              rw [if_pos (want_some rfl rfl rfl e1)]
              unfold Oper.wp
              go_simp
              exact hK _ _ ⟨fun _ h => Option.some.inj h, fun _ h => no_some h⟩ hS (Below.refl _ _)
            · intro a u hS hr K hK
              obtain ⟨⟨vl0, e0, g0⟩, ⟨vl1, e1, g1⟩, ⟨vl2, e2, g2⟩, -⟩ := hr
              obtain rfl := g0.1 _ rfl
              clear g0
              obtain rfl := g1.1 _ rfl
              clear g1
              obtain rfl := g2.1 _ rfl
              clear g2
              rw [if_pos (want_some rfl rfl rfl e2)]
              unfold Oper.wp
              go_simp
              refine (HIY.out u hS).mono ?_
              rintro e u1 ⟨hb, rfl⟩
              exact hK _ _ ⟨fun _ h => Option.some.inj h, fun _ h => no_some h⟩ (hS.trans (hb.mono hS.size)) hb
            · intro a u hS hr K hK
              obtain ⟨⟨vl0, e0, g0⟩, ⟨vl1, e1, g1⟩, -⟩ := hr
              obtain rfl := g0.1 _ rfl
              clear g0
              obtain rfl := g1.1 _ rfl
              clear g1
              rw [if_pos (want_some rfl rfl rfl e1)]
              unfold Oper.wp
              go_simp
              exact hK _ _ ⟨fun _ h => Option.some.inj h, fun _ h => no_some h⟩ hS (Below.refl _ _)
            · intro a u hS hr K hK
              obtain ⟨⟨vl0, e0, g0⟩, ⟨vl1, e1, g1⟩, -⟩ := hr
              obtain rfl := g0.1 _ rfl
              clear g0
              obtain rfl := g1.1 _ rfl
              clear g1
              rw [if_pos (want_some rfl rfl rfl e1)]
              unfold Oper.wp
              go_simp
              exact hK _ _ ⟨fun _ h => Option.some.inj h, fun _ h => no_some h⟩ hS (Below.refl _ _)
            · intro a u hS hr K hK
              obtain ⟨⟨vl0, e0, g0⟩, ⟨vl1, e1, g1⟩, -⟩ := hr
              obtain rfl := g0.1 _ rfl
              clear g0
              obtain rfl := g1.1 _ rfl
              clear g1
              rw [if_pos (want_some rfl rfl rfl e1)]
              unfold Oper.wp
              go_simp
              exact hK _ _ ⟨fun _ h => Option.some.inj h, fun _ h => no_some h⟩ hS (Below.refl _ _)
            · intro a u hS hr K hK
              obtain ⟨⟨vl0, e0, g0⟩, ⟨vl1, e1, g1⟩, -⟩ := hr
              obtain rfl := g0.1 _ rfl
              clear g0
              obtain rfl := g1.1 _ rfl
              clear g1
              rw [if_pos (want_some rfl rfl rfl e1)]
              unfold Oper.wp
              go_simp
              exact hK _ _ ⟨fun _ h => Option.some.inj h, fun _ h => no_some h⟩ hS (Below.refl _ _)
            · intro a u hS hr K hK
              obtain ⟨⟨vl0, e0, g0⟩, ⟨vl1, e1, g1⟩, -⟩ := hr
              obtain rfl := g0.1 _ rfl
              clear g0
              obtain rfl := g1.1 _ rfl
              clear g1
              rw [if_pos (want_some rfl rfl rfl e1)]
              have hcv := HSB.out u hS
              unfold Oper.wp
              go_simp
              exact hK _ _ ⟨fun _ h => Option.some.inj h, fun _ h => no_some h⟩ hS (Below.refl _ _)
            · intro a u hS hr K hK
              obtain ⟨⟨vl0, e0, g0⟩, ⟨vl1, e1, g1⟩, ⟨vl2, e2, g2⟩, -⟩ := hr
              obtain rfl := g0.1 _ rfl
              clear g0
              obtain rfl := g1.1 _ rfl
              clear g1
              obtain rfl := g2.1 _ rfl
              clear g2
              rw [if_pos (want_some rfl rfl rfl e2)]
              unfold Oper.wp
              go_simp
              refine (HFT.out u hS).mono ?_
              rintro e u1 ⟨hb, rfl⟩
              exact hK _ _ ⟨fun _ h => Option.some.inj h, fun _ h => no_some h⟩ (hS.trans (hb.mono hS.size)) hb
            · intro a u hS hr K hK
              obtain ⟨⟨vl0, e0, g0⟩, ⟨vl1, e1, g1⟩, ⟨vl2, e2, g2⟩, -⟩ := hr
              obtain rfl := g0.1 _ rfl
              clear g0
              obtain rfl := g1.1 _ rfl
              clear g1
              obtain rfl := g2.1 _ rfl
              clear g2
              rw [if_pos (want_some rfl rfl rfl e2)]
              unfold Oper.wp
              go_simp
              exact hK _ _ ⟨fun _ h => Option.some.inj h, fun _ h => no_some h⟩ hS (Below.refl _ _)
            · intro a u hS hr K hK
              obtain ⟨⟨vl0, e0, g0⟩, ⟨vl1, e1, g1⟩, -⟩ := hr
              obtain rfl := g0.1 _ rfl
              clear g0
              obtain rfl := g1.1 _ rfl
              clear g1
              rw [if_pos (want_none rfl)]
              unfold Oper.wp
              go_simp
              exact hK _ _ ⟨fun _ h => Option.some.inj h, fun _ h => no_some h⟩ hS (Below.refl _ _)
            · intro a u hS hr K hK
              obtain ⟨⟨vl0, e0, g0⟩, -⟩ := hr
              obtain rfl := g0.1 _ rfl
              clear g0
              rw [if_pos (want_none rfl)]
              unfold Oper.wp
              go_simp
              exact hK _ _ ⟨fun _ h => Option.some.inj h, fun _ h => no_some h⟩ hS (Below.refl _ _)
          intro a w9 hS hts hd hkn hf
          have HF := hidd (HBW.out.trans (hS.mono HBW.out.size))
          clear hS
          obtain ⟨v60, e60, g60⟩ := hf 0 _ 60 rfl rfl
          obtain ⟨v61, e61, g61⟩ := hf 1 _ 61 rfl rfl
          obtain ⟨v62, e62, g62⟩ := hf 2 _ 62 rfl rfl
          obtain ⟨v63, e63, g63⟩ := hf 3 _ 63 rfl rfl
          obtain ⟨v64, e64, g64⟩ := hf 4 _ 64 rfl rfl
          obtain ⟨v65, e65, g65⟩ := hf 5 _ 65 rfl rfl
          obtain ⟨v66, e66, g66⟩ := hf 6 _ 66 rfl rfl
          obtain ⟨v67, e67, g67⟩ := hf 7 _ 67 rfl rfl
          obtain ⟨v68, e68, g68⟩ := hf 8 _ 68 rfl rfl
          obtain ⟨v69, e69, g69⟩ := hf 9 _ 69 rfl rfl
          obtain ⟨v70, e70, g70⟩ := hf 10 _ 70 rfl rfl
          obtain ⟨v71, e71, g71⟩ := hf 11 _ 71 rfl rfl
          obtain ⟨v72, e72, g72⟩ := hf 12 _ 72 rfl rfl
          obtain ⟨v73, e73, g73⟩ := hf 13 _ 73 rfl rfl
          obtain ⟨v74, e74, g74⟩ := hf 14 _ 74 rfl rfl
          obtain ⟨v75, e75, g75⟩ := hf 15 _ 75 rfl rfl
          obtain ⟨v76, e76, g76⟩ := hf 16 _ 76 rfl rfl
          obtain ⟨v77, e77, g77⟩ := hf 17 _ 77 rfl rfl
          obtain ⟨v78, e78, g78⟩ := hf 18 _ 78 rfl rfl
          obtain ⟨v79, e79, g79⟩ := hf 19 _ 79 rfl rfl
          obtain ⟨v80, e80, g80⟩ := hf 20 _ 80 rfl rfl
          obtain ⟨v81, e81, g81⟩ := hf 21 _ 81 rfl rfl
          obtain ⟨v82, e82, g82⟩ := hf 22 _ 82 rfl rfl
          obtain ⟨v6, e6, g6⟩ := hf 23 _ 6 rfl rfl
          have hA := act_puts [(60, v60), (61, v61), (62, v62), (63, v63), (64, v64), (65, v65), (66, v66), (67, v67), (68, v68), (69, v69), (70, v70), (71, v71), (72, v72), (73, v73), (74, v74), (75, v75), (76, v76), (77, v77), (78, v78), (79, v79), (80, v80), (81, v81), (82, v82), (6, v6)] hts hd hkn (by kernel_rfl) (by simp [e60, e61, e62, e63, e64, e65, e66, e67, e68, e69, e70, e71, e72, e73, e74, e75, e76, e77, e78, e79, e80, e81, e82, e6])
          clear hf hts hd hkn e60 e61 e62 e63 e64 e65 e66 e67 e68 e69 e70 e71 e72 e73 e74 e75 e76 e77 e78 e79 e80 e81 e82 e6
          obtain rfl := g60.1 _ rfl
          clear g60
          obtain rfl := g61.1 _ rfl
          clear g61
          obtain rfl := g62.1 _ rfl
          clear g62
          obtain rfl := g63.1 _ rfl
          clear g63
          obtain rfl := g64.1 _ rfl
          clear g64
          obtain rfl := g65.1 _ rfl
          clear g65
          obtain rfl := g66.1 _ rfl
          clear g66
          obtain rfl := g67.1 _ rfl
          clear g67
          obtain rfl := g68.1 _ rfl
          clear g68
          obtain rfl := g69.1 _ rfl
          clear g69
          obtain rfl := g70.1 _ rfl
          clear g70
          obtain rfl := g71.1 _ rfl
          clear g71
          obtain rfl := g72.1 _ rfl
          clear g72
          obtain rfl := g73.1 _ rfl
          clear g73
          obtain rfl := g74.1 _ rfl
          clear g74
          obtain rfl := g75.1 _ rfl
          clear g75
          obtain rfl := g76.1 _ rfl
          clear g76
          obtain rfl := g77.1 _ rfl
          clear g77
          obtain rfl := g78.1 _ rfl
          clear g78
          obtain rfl := g79.1 _ rfl
          clear g79
          obtain rfl := g80.1 _ rfl
          clear g80
          obtain rfl := g81.1 _ rfl
          clear g81
          obtain rfl := g82.1 _ rfl
          clear g82
          obtain rfl := g6.1 _ rfl
          clear g6
          subst hA
          simp only [List.foldl, List.setIfInBounds_toArray, List.set_cons_zero, List.set_cons_succ]
          simp only [Exit.then]
          apply_assumption
          go_wp2
          go_ret
          exact ⟨rfl, HF.out⟩
end Go.Proofs.YtcgondjekpcpgaaDoor.Sy.Lg.En

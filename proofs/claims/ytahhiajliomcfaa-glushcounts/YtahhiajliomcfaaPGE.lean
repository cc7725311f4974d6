/- The landed glush: rows of plans, whether each is one, how many places; which places follow one. -/
import Derived.Test.YtahhiajliomcfaaPGD
namespace Go.Proofs.Ytahhiajliomcfaa.Sy.Gl
open Go.RowKit Go.Proofs.Ytahhiajliomcfaa.Sy.Ap Go.Proofs.Ytahhiajliomcfaa.Sy.Ap.Wk Go.Proofs.Ytahhiajliomcfaa.Sy.Lg Go.Proofs.Ytahhiajliomcfaa.Sy.Pl
set_option maxRecDepth 100000
set_option linter.unusedVariables false

/-- The slice at A reads as these rows of nodes. -/
def Pls (w : World) (B : Nat) (A : Option Addr) (pl : List (List Gd)) : Prop :=
  pl ≠ [] → ∃ g off, A = some ⟨g, off, none⟩ ∧ g < B ∧ ∀ i, i < pl.length → ∃ A' c', w.cell? ⟨g, off + i, none⟩ = some (.slice A' (pl.getD i []).length c') ∧ Nds w B A' (pl.getD i [])
theorem Pls.below {w w' : World} {B : Nat} {A : Option Addr} {pl : List (List Gd)} (h : Pls w B A pl) (hb : Below B w w') : Pls w' B A pl := fun hne => by
  obtain ⟨g, off, e1, e2, e3⟩ := h hne
  exact ⟨g, off, e1, e2, fun i hi => by
    obtain ⟨A', c', h1, h2⟩ := e3 i hi
    exact ⟨A', c', (hb.cell e2).trans h1, h2.below hb⟩⟩
theorem Pls.more {w : World} {B B' : Nat} {A : Option Addr} {pl : List (List Gd)} (h : Pls w B A pl) (hB : B ≤ B') : Pls w B' A pl := fun hne => by
  obtain ⟨g, off, e1, e2, e3⟩ := h hne
  exact ⟨g, off, e1, by omega, fun i hi => by
    obtain ⟨A', c', h1, h2⟩ := e3 i hi
    exact ⟨A', c', h1, h2.more hB⟩⟩
theorem Pls.at_ {w : World} {B : Nat} {A : Option Addr} {pl : List (List Gd)} (h : Pls w B A pl) {i : Nat} (hi : i < pl.length) : ∃ g off A' c', A = some ⟨g, off, none⟩ ∧ g < B ∧ w.cell? ⟨g, off + i, none⟩ = some (.slice A' (pl.getD i []).length c') ∧ Nds w B A' (pl.getD i []) := by
  obtain ⟨g, off, e1, e2, e3⟩ := h (fun e => by rw [e] at hi; cases hi)
  obtain ⟨A', c', h1, h2⟩ := e3 i hi
  exact ⟨g, off, A', c', e1, e2, h1, h2⟩
/-- All may be asked. -/
def PlsOk (pl : List (List Gd)) : Prop := ∀ gs ∈ pl, gs.length ≤ 2000 ∧ Small gs
theorem getD_mem' {α : Type} {l : List α} {i : Nat} {d : α} (hi : i < l.length) : l.getD i d ∈ l := by
  rw [List.getD_eq_getElem?_getD, List.getElem?_eq_getElem hi]
  exact List.getElem_mem hi
theorem of1_any (A : Option Addr) (c : Nat) (gs : List Gd) (w : World) (hx : Nds w w.heap.size A gs) (hl : gs.length ≤ 2000) (hsm : Small gs) :
    Calls Try.prog 21 #[.slice A gs.length c] w fun e w' => (∃ z, e = .returned (.bool z) ∧ (z = false ↔ RgtP gs)) ∧ Below w.heap.size w w' := by
  have hR := rightP_any A c gs w hx hl hsm
  clear hx hl hsm
  generalize gs.length = n at *
  go_enter Try.func21, Try.ntmps21
  go_wp2_with fail
  refine hR.mono ?_
  rintro e w1 ⟨⟨z, rfl, hz⟩, b1⟩
  have HB := hidd b1
  have HZ := hidd hz
  clear hR b1 hz
  go_wp2
  go_ret
  refine ⟨⟨!z, rfl, ?_⟩, HB.out⟩
  rw [← HZ.out]
  cases z <;> simp
theorem idxP_any (A : Option Addr) (c : Nat) (pl : List (List Gd)) (w : World) (hx : Pls w w.heap.size A pl) (hok : PlsOk pl) (hl : pl.length ≤ 100000) :
    Calls Try.prog 39 #[.slice A pl.length c, .func (.func 21) #[] #[]] w fun e w' => Below w.heap.size w w' ∧ ∃ r : Int, e = .returned (.int .i64 r) ∧ (r < 0 ↔ ∀ gs ∈ pl, RgtP gs) := by
  generalize hn : pl.length = n at *
  have HN0 := hidd hn
  clear hn
  go_enter Try.func39, Try.ntmps39
  go_wp2
  go_loopw [8] (fun s8 wr => ∃ k : Nat, k ≤ n ∧ s8 = .int .i64 (k : Int) ∧ (∀ i, i < k → RgtP (pl.getD i [])) ∧ Below w.heap.size w wr) (fun s8 _ => n - (intOf s8).toNat)
  case atStart => exact ⟨0, Nat.zero_le _, rfl, fun i hi => absurd hi (Nat.not_lt_zero _), Below.refl _ _⟩
  case round =>
    obtain ⟨k, hk0, rfl, hp, hb⟩ := hrel
    have HP := hidd hp
    have HB := hidd hb
    clear hp hb
    by_cases hlt : k < n
    · have hk2 : k < pl.length := by rw [HN0.out]; exact hlt
      obtain ⟨g1, o1, A', c', rfl, hg1, x1, N1⟩ := (hx.below HB.out).at_ (i := k) hk2
      have hki : (k : Int) < (n : Int) := by omega
      have hm := getD_mem' (d := ([] : List Gd)) hk2
      have hok1 := hok _ hm
      have HM := hidd hm
      have HPK : Hid (RgtP (pl.getD k []) → ∀ i, i < k + 1 → RgtP (pl.getD i [])) := fun q i hi => by
        by_cases e : i = k
        · subst e; exact q
        · exact HP.out i (by omega)
      generalize pl.getD k [] = gs at *
      have hcl := of1_any A' c' gs wr (N1.more HB.out.size) hok1.1 hok1.2
      clear N1 hm hok1 hk2
      go_wp2_with fail
      refine hcl.mono ?_
      rintro e w2 ⟨⟨z, rfl, hz⟩, b2⟩
      have HB2 := hidd (HB.out.trans (b2.mono HB.out.size))
      have HZ := hidd hz
      clear hcl b2 hz
      cases z with
      | true =>
        go_wp2
        go_ret
        exact ⟨HB2.out, _, rfl, (fun h => by omega), fun h => by have := HZ.out.2 (h _ HM.out); cases this⟩
      | false =>
        have HN := hidd (HPK.out (HZ.out.1 rfl))
        go_wp2
        exact ⟨⟨k + 1, by omega, rfl, HN.out, HB2.out⟩, by simp [intOf]; omega⟩
    · have hke : k = n := by omega
      have HN : Hid (∀ gs ∈ pl, RgtP gs) := fun gs hg => by
        obtain ⟨i, hi, rfl⟩ := List.getElem_of_mem hg
        have := HP.out i (by have := HN0.out; omega)
        rw [List.getD_eq_getElem?_getD, List.getElem?_eq_getElem hi] at this
        exact this
      subst hke
      go_wp2
      go_ret
      exact ⟨HB.out, _, rfl, (fun _ => HN.out), fun _ => by omega⟩
theorem hasP_any (A : Option Addr) (c : Nat) (pl : List (List Gd)) (w : World) (hx : Pls w w.heap.size A pl) (hok : PlsOk pl) (hl : pl.length ≤ 100000) :
    Calls Try.prog 20 #[.slice A pl.length c, .func (.func 21) #[] #[]] w fun e w' => Below w.heap.size w w' ∧ ∃ z, e = .returned (.bool z) ∧ (z = false ↔ ∀ gs ∈ pl, RgtP gs) := by
  have hc := idxP_any A c pl w hx hok hl
  clear hx hok hl
  generalize pl.length = n at *
  go_enter Try.func20, Try.ntmps20
  go_wp2_with fail
  refine hc.mono ?_
  rintro e w2 ⟨b2, r, rfl, hr⟩
  have HB := hidd b2
  have HR := hidd hr
  clear hc b2 hr
  go_wp2
  go_ret
  refine ⟨HB.out, _, rfl, ?_⟩
  rw [← HR.out]
  simp
/-- How many Bytes, as memory has them. -/
def bytesG (gs : List Gd) : Nat := gs.countP fun g => g.op == 2
theorem bytes_gn {gs : List Gd} {ns : List Nd} (h : GN gs ns) : bytesG gs = bytesN ns := by
  have : gs.map (fun g => g.op == 2) = ns.map (fun n => n.op == 2) := by
    apply List.ext_getElem
    · simp [h.1]
    · intro i h1 h2
      have hi : i < gs.length := by simpa using h1
      have hj : i < ns.length := by simpa using h2
      have h3 := (h.2 i hi).op
      have e1 : gs.getD i gd0 = gs[i] := by rw [List.getD_eq_getElem?_getD, List.getElem?_eq_getElem hi]; rfl
      have e2 : ns.getD i nd0 = ns[i] := by rw [List.getD_eq_getElem?_getD, List.getElem?_eq_getElem hj]; rfl
      rw [e1, e2] at h3
      simp only [List.getElem_map]
      rw [h3, Bool.eq_iff_iff]
      simp only [beq_iff_eq]
      omega
  have e1 : bytesG gs = (gs.map (fun g => g.op == 2)).countP id := by unfold bytesG; rw [List.countP_map]; rfl
  have e2 : bytesN ns = (ns.map (fun n => n.op == 2)).countP id := by unfold bytesN; rw [List.countP_map]; rfl
  rw [e1, e2, this]
theorem bytes_take {gs : List Gd} {i : Nat} (h : i < gs.length) : bytesG (gs.take (i + 1)) = bytesG (gs.take i) + if (gs.getD i gd0).op = 2 then 1 else 0 := by
  have e : gs.getD i gd0 = gs[i] := by rw [List.getD_eq_getElem?_getD, List.getElem?_eq_getElem h]; rfl
  rw [e, List.take_succ_eq_append_getElem h]
  unfold bytesG
  rw [List.countP_append, List.countP_singleton]
  by_cases h2 : gs[i].op = 2 <;> simp [h2]
theorem bytes_le (gs : List Gd) : bytesG gs ≤ gs.length := List.countP_le_length
def manyG (pl : List (List Gd)) : Nat := (pl.map bytesG).sum
theorem many_take {pl : List (List Gd)} {i : Nat} (h : i < pl.length) : manyG (pl.take (i + 1)) = manyG (pl.take i) + bytesG (pl.getD i []) := by
  have e : pl.getD i [] = pl[i] := by rw [List.getD_eq_getElem?_getD, List.getElem?_eq_getElem h]; rfl
  rw [e, List.take_succ_eq_append_getElem h]
  unfold manyG
  rw [List.map_append, List.sum_append]
  simp
theorem many_le {pl : List (List Gd)} (hok : PlsOk pl) : manyG pl ≤ pl.length * 2000 := by
  induction pl with
  | nil => exact Nat.le_refl _
  | cons a l ih =>
    have h1 := ih (fun gs hg => hok gs (List.mem_cons_of_mem _ hg))
    have h2 := bytes_le a
    have h3 := (hok a List.mem_cons_self).1
    have e : manyG (a :: l) = bytesG a + manyG l := by unfold manyG; rw [List.map_cons, List.sum_cons]
    rw [e, List.length_cons]
    omega
set_option maxHeartbeats 1000000 in
theorem many_any (A : Option Addr) (c : Nat) (pl : List (List Gd)) (w : World) (hx : Pls w w.heap.size A pl) (hok : PlsOk pl) (hl : pl.length ≤ 512) :
    Calls Try.prog 23 #[.slice A pl.length c] w fun e w' => e = .returned (.int .i64 ((manyG pl : Nat) : Int)) ∧ Below w.heap.size w w' := by
  generalize hn : pl.length = n at *
  have HN0 := hidd hn
  have HOK := hidd hok
  clear hn
  go_enter Try.func23, Try.ntmps23
  go_wp2
  go_loopw [3, 10] (fun s3 s10 wr => ∃ k : Nat, k ≤ n ∧ s10 = .int .i64 (k : Int) ∧ s3 = .int .i64 ((manyG (pl.take k) : Nat) : Int) ∧ Below w.heap.size w wr) (fun _ s10 _ => n - (intOf s10).toNat)
  case atStart => exact ⟨0, Nat.zero_le _, rfl, rfl, Below.refl _ _⟩
  case round =>
    obtain ⟨k, hk0, rfl, rfl, hb⟩ := hrel
    have HB := hidd hb
    clear hb
    by_cases hlt : k < n
    · have hk2 : k < pl.length := by rw [HN0.out]; exact hlt
      obtain ⟨g1, o1, A', c', rfl, hg1, x1, N1⟩ := (hx.below HB.out).at_ (i := k) hk2
      have hki : (k : Int) < (n : Int) := by omega
      have hm := HOK.out _ (getD_mem' (d := ([] : List Gd)) hk2)
      have HMT := hidd (many_take hk2)
      have hle : manyG (pl.take k) ≤ 512 * 2000 := by
        have h1 := many_le (pl := pl.take k) (fun gs hg => HOK.out gs (List.mem_of_mem_take hg))
        rw [List.length_take] at h1
        have : min k pl.length * 2000 ≤ 512 * 2000 := Nat.mul_le_mul_right _ (by omega)
        omega
      generalize pl.getD k [] = gs at *
      generalize manyG (pl.take k) = mk at *
      have HN1 := hidd (N1.more HB.out.size)
      obtain ⟨wo, hwo⟩ : ∃ wo, wo = wr := ⟨_, rfl⟩
      rw [← hwo] at HN1
      have HWO : Hid (Below w.heap.size w wo) := by rw [hwo]; exact HB.out
      obtain ⟨m, hmm⟩ : ∃ m, gs.length = m := ⟨_, rfl⟩
      have HML := hidd hmm
      have hm2 : m ≤ 2000 := by rw [← hmm]; exact hm.1
      rw [hmm] at x1
      clear N1 hm hk2 hmm
      go_wp2
      go_loopw [3, 16] (fun s3 s16 wr' => ∃ j : Nat, j ≤ m ∧ s16 = .int .i64 (j : Int) ∧ s3 = .int .i64 ((mk + bytesG (gs.take j) : Nat) : Int) ∧ Below wo.heap.size wo wr') (fun _ s16 _ => m - (intOf s16).toNat)
      case atStart => exact ⟨0, Nat.zero_le _, rfl, rfl, by rw [hwo]; exact Below.refl _ _⟩
      case round =>
        obtain ⟨j, hj0, rfl, rfl, hb2⟩ := hrel
        clear x1 hwo HB
        by_cases hltj : j < m
        · have hj2 : j < gs.length := by rw [HML.out]; exact hltj
          obtain ⟨b1, o2, rfl, hb1, A3, c3, -, r1⟩ := ((HN1.out.below hb2).more hb2.size).at_ (k := j) hj2
          have HBT := hidd (bytes_take hj2)
          have hle2 : bytesG (gs.take j) ≤ 2000 := by have := bytes_le (gs.take j); rw [List.length_take] at this; omega
          generalize bytesG (gs.take j) = bj at *
          generalize gs.getD j gd0 = g at *
          have Z1 := RowA.new wr 42 zeroC
          have hW1 : Below wr.heap.size wr ((wr.alloc (.cells zeroC 42)).setRow wr.heap.size (gdL g A3 c3).toArray) := bel_setRow ((Below.refl _ _).alloc (Nat.le_refl _) _) _ _ (Nat.le_refl _)
          have R1 := Z1.row (gdL g A3 c3).toArray
          have hji : (j : Int) < (m : Int) := by omega
          clear hj2
          go_upto_region 8 with (first
            | refine wpList_load_mid rfl 42 (.tmp 18) rfl b1 (o2 + j * 9) rfl (gdL g A3 c3) _ r1 Try.underlying42 rfl (gdL_info g A3 c3) ?_
            | refine wpList_store_row rfl 42 (.tmp 7) (.tmp 19) rfl wr.heap.size (gdL g A3 c3).toArray rfl rfl 42 zeroC Z1 (gdL_infoA g A3 c3) rfl (gdL_one g A3 c3) ?_)
          change RowA ((wr.alloc (.cells zeroC 42)).setRow wr.heap.size (gdL g A3 c3).toArray) _ _ _ at R1
          generalize (wr.alloc (.cells zeroC 42)).setRow wr.heap.size (gdL g A3 c3).toArray = w2 at *
          have x0 : w2.cell? ⟨wr.heap.size, 0, none⟩ = some (.int .u8 g.op) := R1.at_ rfl
          rw [put_non]
          have HB2 := hidd (hb2.trans (hW1.mono hb2.size))
          clear Z1 r1 hW1 R1 hb2
          by_cases h2 : g.op = 2
          · have HF : Hid (bytesG (gs.take (j + 1)) = bj + 1) := by show _ = _; rw [HBT.out, if_pos h2]
            have h2b : (g.op == 2) = true := by simp [h2]
            clear h2 HBT
            go_wp2
            exact ⟨⟨j + 1, by omega, rfl, by rw [HF.out]; rfl, HB2.out⟩, by simp [intOf]; omega⟩
          · have HF : Hid (bytesG (gs.take (j + 1)) = bj) := by show _ = _; rw [HBT.out, if_neg h2]; rfl
            have h2b : (g.op == 2) = false := by simp [h2]
            clear h2 HBT
            go_wp2
            exact ⟨⟨j + 1, by omega, rfl, by rw [HF.out]; rfl, HB2.out⟩, by simp [intOf]; omega⟩
        · have hje : m = j := by omega
          subst hje
          have HB2 := hidd (HWO.out.trans (hb2.mono HWO.out.size))
          have HF : Hid (manyG (pl.take (k + 1)) = mk + bytesG (gs.take m)) := by
            show _ = _
            rw [HMT.out, List.take_of_length_le (by rw [HML.out]; exact Nat.le_refl _)]
          clear hb2
          go_wp2
          exact ⟨⟨k + 1, by omega, rfl, by rw [HF.out], HB2.out⟩, by simp [intOf]; omega⟩
    · have hke : k = n := by omega
      subst hke
      have HF : Hid (manyG (pl.take k) = manyG pl) := by show _ = _; rw [List.take_of_length_le (by rw [HN0.out]; exact Nat.le_refl _)]
      go_wp2
      go_ret
      exact ⟨by rw [HF.out]; rfl, HB.out⟩
set_option maxHeartbeats 1000000 in
theorem next_any {B : Nat} {u : World} {bb fb many : Nat} {pv : Value} {l : List Pv} {f : Fol} (hS : BS B u bb fb many pv l f) (k : Nat) (hk : k < l.length) (hm : l.length ≤ many) :
    Calls Try.prog 25 #[.pointer (some ⟨bb, 0, none⟩), .int .i64 (k : Int)] u fun e u' => ∃ A c, e = .returned (.slice A (followL f l.length k).length c) ∧ IR u' u.heap.size A c (followL f l.length k) ∧ (followL f l.length k = [] → A = none) ∧ Below u.heap.size u u' := by
  have HS := hidd hS
  obtain ⟨A2, c2, rfl⟩ := own_form hS.places
  obtain ⟨d0, d1⟩ := hS.cells
  have hfew := hS.few
  obtain ⟨L, hL⟩ : ∃ L, l.length = L := ⟨_, rfl⟩
  have HL := hidd hL
  rw [hL] at d0 hk hm ⊢
  clear hS hL
  obtain ⟨jf, hjf, hy0, hy1, hy2⟩ := info_parts int_info
  have hki : (k : Int) < (many : Int) := by omega
  go_enter Try.func25, Try.ntmps25
  go_wp2
  go_loopw [5, 12] (fun s5 s12 wr => ∃ (j : Nat) (A : Option Addr) (c : Nat), j ≤ L ∧ s12 = .int .i64 (j : Int) ∧ s5 = .slice A ((List.range j).filter (f k)).length c ∧ IR wr u.heap.size A c ((List.range j).filter (f k)) ∧ ((List.range j).filter (f k) = [] → A = none) ∧ Below u.heap.size u wr) (fun _ s12 _ => L - (intOf s12).toNat)
  case atStart => exact ⟨0, none, 0, Nat.zero_le _, rfl, rfl, World.ownsRow_nil _ _ _ _, (fun _ => rfl), Below.refl _ _⟩
  case round =>
    obtain ⟨j, A, c, hj0, rfl, rfl, oR, hnn, hb⟩ := hrel
    have HNN0 := hidd hnn
    clear hnn
    clear d0 d1
    by_cases hlt : j < L
    · have S2 := HS.out.below hb
      have d1 : wr.cell? ⟨bb, 1, none⟩ = some (.slice (some ⟨fb, 0, none⟩) many many) := S2.cells.2
      have x1 : wr.cell? ⟨fb, k * 512 + j, none⟩ = some (.bool (f k j)) := by
        have h := S2.fol.at_ (k * 512 + j) (by omega)
        unfold folV at h
        rw [show (k * 512 + j) / 512 = k by omega, show (k * 512 + j) % 512 = j by omega] at h
        exact h
      have hji : (j : Int) < (L : Int) := by omega
      have hj5 : (j : Int) < 512 := by omega
      have HFS : Hid (∀ z, f k j = z → (List.range (j + 1)).filter (f k) = if z = true then (List.range j).filter (f k) ++ [j] else (List.range j).filter (f k)) := fun z hz => by
        rw [List.range_succ, List.filter_append]
        cases z <;> simp [hz]
      obtain ⟨z, hz⟩ : ∃ z, f k j = z := ⟨_, rfl⟩
      have HFZ := hidd (HFS.out z hz)
      rw [hz] at x1
      have hlen : ((List.range j).filter (f k)).length ≤ 512 := by
        have := List.length_filter_le (f k) (List.range j)
        rw [List.length_range] at this
        omega
      clear HFS hz S2
      generalize (List.range j).filter (f k) = R at *
      have HOR := hidd oR
      have HB := hidd hb
      cases z with
      | false =>
        have HF : Hid ((List.range (j + 1)).filter (f k) = R) := by show _ = _; rw [HFZ.out]; rfl
        clear oR hb HFZ
        go_wp2
        exact ⟨⟨j + 1, A, c, by omega, rfl, by rw [HF.out], by rw [HF.out]; exact HOR.out, by rw [HF.out]; exact HNN0.out, HB.out⟩, by simp [intOf]; omega⟩
      | true =>
        have HF : Hid ((List.range (j + 1)).filter (f k) = R ++ [j]) := by show _ = _; rw [HFZ.out]; rfl
        obtain ⟨N, hN⟩ : ∃ N, R.length = N := ⟨_, rfl⟩
        have HNN := hidd hN
        have hown0 : wr.ownsRow u.heap.size 3 1 (.slice A N c) N (i64s R) := by rw [← hN]; exact oR
        have hown := hown0.alloc (.cells #[.int .i64 (j : Int)] 3)
        have hnews := int_news wr (j : Int)
        have hH : (wr.alloc (.cells #[.int .i64 (j : Int)] 3)).heap.size = wr.heap.size + 1 := World.size_alloc ..
        have hbase : u.heap.size ≤ (wr.alloc (.cells #[.int .i64 (j : Int)] 3)).heap.size := by rw [hH]; have := hb.size; omega
        have HB3 : Hid (Below u.heap.size u (wr.alloc (.cells #[.int .i64 (j : Int)] 3))) := hb.trans (((Below.refl _ _).alloc (Nat.le_refl _) _).mono hb.size)
        rw [hN] at hlen ⊢
        clear oR hb HFZ HOR HB hown0 hN
        go_upto_region 7 with (at_builtin; refine wpList_append_lies _ rfl (.tmp 24) (.tmp 26) 23 rfl u.heap.size 3 jf (.int .i64 0) 1 8 Try.underlying23 hjf hy0 hy1 hy2 rfl (by omega) (.slice A N c) N (i64s R) rfl hown ⟨wr.heap.size, 0, none⟩ 1 1 [.int .i64 (j : Int)] rfl rfl hnews (by simp [Value.oneCell']) (by omega) (by simp only [maxLen]; omega) (by omega) hbase (wr.heap.size + 1) hH ?_; intro g7 cap7 w7 hown7 hgrow hat hlt7; refine Hid.out ?_)
        have HG : Hid (IR w7 u.heap.size (some ⟨g7, 0, none⟩) cap7 (R ++ [j]) ∧ Below u.heap.size u w7) := by
          refine ⟨?_, bel_row HB3.out hbase hgrow (fun k hk => (hown.lt k hk).1)⟩
          have e : (R ++ [j]).length = N + 1 := by rw [List.length_append, HNN.out]; rfl
          show World.ownsRow _ _ _ _ _ _ _
          rw [e, ← i64s_snoc']
          exact hown7
        clear hown hnews hH hbase hown7 hgrow hat hlt7 HB3
        refine Lib.hid ?_
        go_wp2
        exact ⟨⟨j + 1, _, _, by omega, rfl, by rw [HF.out, List.length_append, HNN.out]; rfl, by rw [HF.out]; exact HG.out.1, (by rw [HF.out]; intro h; simp at h), HG.out.2⟩, by simp [intOf]; omega⟩
    · have hje : L = j := by omega
      subst hje
      have HF : Hid (IR wr u.heap.size A c (followL f L k) ∧ (followL f L k = [] → A = none) ∧ Below u.heap.size u wr) := ⟨oR, HNN0.out, hb⟩
      have HFL : Hid (followL f L k = (List.range L).filter (f k)) := rfl
      clear oR hb
      generalize (List.range L).filter (f k) = R at *
      go_wp2
      go_ret
      exact ⟨A, c, by rw [HFL.out]; rfl, HF.out.1, HF.out.2.1, HF.out.2.2⟩
end Go.Proofs.Ytahhiajliomcfaa.Sy.Gl

/- Whether a tree is light: the statement's own question. -/
import Derived.Test.YtdaaigkmlbpbgaaPJs
import Derived.Test.YtdaaigkmlbpbgaaPGc
namespace Go.Proofs.Ytdaaigkmlbpbgaa.Sy.Pl
open Go.RowKit Go.Proofs.Ytdaaigkmlbpbgaa.Sy.Ap Go.Proofs.Ytdaaigkmlbpbgaa.Sy.Lg Go.Proofs.Ytdaaigkmlbpbgaa.Sy.Lg.En
set_option maxRecDepth 100000
set_option linter.unusedVariables false

set_option linter.unusedVariables false in
def LtGV (q n i k : Nat) (x y : Int) (t : Nat) : Option Value :=
  match t with
  | 3 => some (.slice (some ⟨q, 0, none⟩) n n)
  | 5 => some (.int .i64 (i : Int))
  | 8 => some (.int .i64 (k : Int))
  | 26 => some (.slice (some ⟨q, 0, none⟩) n n)
  | 27 => some (.int .i64 (i : Int))
  | 28 => some (.slice (some ⟨q, 0, none⟩) n n)
  | 29 => some (.int .i64 (i : Int))
  | 30 => some (.pointer (some ⟨q, i, none⟩))
  | 31 => some (.int .i64 x)
  | 32 => some (.slice (some ⟨q, 0, none⟩) n n)
  | 33 => some (.int .i64 (k : Int))
  | 34 => some (.pointer (some ⟨q, k, none⟩))
  | 35 => some (.int .i64 y)
  | 36 => some (.int .i64 (max x y))
  | 37 => some (.pointer (some ⟨q, i, none⟩))
  | _ => none
set_option linter.unusedVariables false in
def LtGP (q n i k : Nat) (x y : Int) (t : Nat) : Option (Value → World → Prop) :=
  match t with
  | _ => none
def LtG (q n i k : Nat) (x y : Int) (t : Nat) (v : Value) (u : World) : Prop := (∀ z9, LtGV q n i k x y t = some z9 → v = z9) ∧ ∀ R, LtGP q n i k x y t = some R → R v u
set_option maxHeartbeats 2000000 in
theorem light8_any (A : Option Addr) (c : Nat) (gs : List Gd) (w : World) (hx : Nds w w.heap.size A gs) (hl : gs.length ≤ 2000) (hsm : Small gs) (ns : List Nd) (hg : GN gs ns) (ht : TreeN ns) :
    Calls Try.prog 20 #[.slice A gs.length c] w fun e w' => BoolR w e w' := by
  obtain ⟨n, hn⟩ : ∃ n, gs.length = n := ⟨_, rfl⟩
  rw [hn]
  rw [hn] at hl
  have HN := hidd hn
  have HSM := hidd hsm
  have hmk := make_intsL n (by omega)
  have HX := hidd hx
  have HKV : Hid (∀ i k, i < gs.length → k < (gs.getD i gd0).l.length → ∃ kn : Nat, (gs.getD i gd0).l.getD k 0 = (kn : Int) ∧ kn < i) := fun i k h1 h2 => by
    have h3 := (hg.2 i h1).l
    have h4 : i < ns.length := by rw [← hg.1]; exact h1
    have e : ns.getD i nd0 = ns[i] := by rw [List.getD_eq_getElem?_getD, List.getElem?_eq_getElem h4]; rfl
    rw [e] at h3
    rw [h3, List.length_map] at h2
    refine ⟨ns[i].l[k], ?_, (ht.low i _ (List.getElem?_eq_getElem h4)).2 _ (List.getElem_mem h2)⟩
    rw [h3, List.getD_eq_getElem?_getD, List.getElem?_map, List.getElem?_eq_getElem h2]
    rfl
  clear hn hsm hx hg ht
  go_enter Try.func20, Try.ntmps20
  go_upto_region 2 with fail
  have R0 : DpF (w.alloc (.cells (fnC n (fun _ => .int .i64 0)) 3)) w.heap.size n (fun _ => 0) := RowF.new w 3 n _
  have B0 : Below w.heap.size w (w.alloc (.cells (fnC n (fun _ => .int .i64 0)) 3)) := (Below.refl _ _).alloc (Nat.le_refl _) _
  generalize w.alloc (.cells (fnC n (fun _ => .int .i64 0)) 3) = w1 at *
  obtain ⟨q, hq⟩ : ∃ q, w.heap.size = q := ⟨_, rfl⟩
  rw [hq] at R0
  rw [hq]
  have HQ := hidd hq
  have HS0 : Hid (∃ f, LtS w q n f w1 ∧ ∀ j, 0 ≤ f j ∧ f j ≤ 2) := ⟨_, ⟨R0, B0⟩, fun j => ⟨Int.le_refl _, by show (0 : Int) ≤ 2; omega⟩⟩
  clear hq R0 B0 hmk
  go_wp2
  go_loopw [4, 14] (fun s4 s14 wr => ∃ (i : Nat) (m : Nat), i ≤ n ∧ s14 = .int .i64 (i : Int) ∧ s4 = .int .i64 (m : Int) ∧ m ≤ i ∧ ∃ f, LtS w q n f wr ∧ ∀ j, 0 ≤ f j ∧ f j ≤ 2) (fun _ s14 _ => n - (intOf s14).toNat)
  case atStart => exact ⟨0, 0, Nat.zero_le _, rfl, rfl, Nat.le_refl _, HS0.out⟩
  case round =>
    clear HS0
    obtain ⟨i, m, hi0, rfl, rfl, hmi, f, hS, hf4⟩ := hrel
    by_cases hlt : i < n
    · have hi2 : i < gs.length := by rw [HN.out]; exact hlt
      obtain ⟨b1, o1, rfl, hb1, A3, c3, hI, r1⟩ := (HX.out.below hS.bel).at_ (k := i) hi2
      have hii : (i : Int) < (n : Int) := by omega
      have hgm : gs.getD i gd0 ∈ gs := by
        rw [List.getD_eq_getElem?_getD, List.getElem?_eq_getElem hi2]
        exact List.getElem_mem hi2
      have hkl := (HSM.out _ hgm).2
      unfold maxLen at hkl
      clear hgm
      have HKG := hidd (fun k => HKV.out i k hi2)
      generalize gs.getD i gd0 = g at *
      have Z1 := RowA.new wr 38 zeroC
      have bW : Below wr.heap.size wr ((wr.alloc (.cells zeroC 38)).setRow wr.heap.size (gdL g A3 c3).toArray) := bel_setRow ((Below.refl _ _).alloc (Nat.le_refl _) _) _ _ (Nat.le_refl _)
      have R1 := Z1.row (gdL g A3 c3).toArray
      have S1 := hS.below bW
      have hqlt : q < wr.heap.size := hS.dp.lt
      go_upto_region 6 with (first
        | refine wpList_load_mid rfl 38 (.tmp 17) rfl b1 (o1 + i * 9) rfl (gdL g A3 c3) _ r1 Try.underlying38 rfl (gdL_info g A3 c3) ?_
        | refine wpList_store_row rfl 38 (.tmp 6) (.tmp 18) rfl wr.heap.size (gdL g A3 c3).toArray rfl rfl 38 zeroC Z1 (gdL_infoA g A3 c3) rfl (gdL_one g A3 c3) ?_)
      change RowA ((wr.alloc (.cells zeroC 38)).setRow wr.heap.size (gdL g A3 c3).toArray) _ _ _ at R1
      have hI1 : Its ((wr.alloc (.cells zeroC 38)).setRow wr.heap.size (gdL g A3 c3).toArray) w.heap.size A3 g.l := hI.keep (fun p hp => bW.cell (by have := hS.bel.size; omega))
      generalize (wr.alloc (.cells zeroC 38)).setRow wr.heap.size (gdL g A3 c3).toArray = w2 at *
      obtain ⟨q6, hq6⟩ : ∃ q6, wr.heap.size = q6 := ⟨_, rfl⟩
      rw [hq6] at R1 hqlt
      rw [hq6]
      clear Z1 bW r1 hq6 hI hS
      rw [put_none]
      have x0 : w2.cell? ⟨q6, 0, none⟩ = some (.int .u8 g.op) := R1.at_ rfl
      have x5 : w2.cell? ⟨q6, 5, none⟩ = some (.slice A3 g.l.length c3) := R1.at_ rfl
      have HS1 := hidd S1
      have HR1 := hidd R1
      have HI := hidd hI1
      have HF4 := hidd hf4
      have hbw : w.heap.size ≤ w2.heap.size := S1.bel.size
      clear S1 R1 hI1 hf4
      have HBW2 : Hid (Below w.heap.size w w2) := HS1.out.bel
      generalize hmm : g.l.length = mm at *
      have HMM := hidd hmm
      clear hmm
      go_wp2
      go_loopw [22] (fun s22 wq => ∃ (k : Nat) (f : Nat → Int), s22 = .int .i64 (k : Int) ∧ k ≤ mm ∧ LtS w q n f wq ∧ RowA wq q6 38 (gdL g A3 c3).toArray ∧ w2.heap.size ≤ wq.heap.size ∧ ∀ j, 0 ≤ f j ∧ f j ≤ 2) (fun s22 _ => mm - (intOf s22).toNat)
      case atStart => exact ⟨0, f, rfl, Nat.zero_le _, HS1.out, HR1.out, Nat.le_refl _, HF4.out⟩
      case round =>
        clear HS1 HR1 HF4 x0 x5
        obtain ⟨k, f, rfl, hk0, hS, hR, hsz, hf4⟩ := hrel
        have x0 : wr.cell? ⟨q6, 0, none⟩ = some (.int .u8 g.op) := hR.at_ rfl
        have HF4 := hidd hf4
        by_cases hkm : k < mm
        · obtain ⟨gb, go, rfl, hgb, hcell⟩ := HI.out.at_ (k := k) (by rw [HMM.out]; exact hkm)
          have hcw : wr.cell? ⟨gb, go + k, none⟩ = some (.int .i64 (g.l.getD k 0)) := by
            have hlo : gb < w.heap.size := hgb
            have h2 : w2.cell? ⟨gb, go + k, none⟩ = wr.cell? ⟨gb, go + k, none⟩ := by
              rw [hS.bel.cell (by exact hlo), HBW2.out.cell (by exact hlo)]
            rw [← h2]; exact hcell
          have hki : (k : Int) < (mm : Int) := by omega
          clear hcell
          obtain ⟨kn, hkv, hkin⟩ := HKG.out k hkm
          rw [hkv] at hcw
          have hknn : kn < n := by omega
          have hkni : (kn : Int) < (n : Int) := by omega
          have hin := hlt
          have HR := hidd hR
          have HSZ := hidd hsz
          obtain ⟨x, hfi⟩ : ∃ x, f i = x := ⟨_, rfl⟩
          obtain ⟨y, hfk⟩ : ∃ y, f kn = y := ⟨_, rfl⟩
          have hx4 := hf4 i
          have hy4 := hf4 kn
          rw [hfi] at hx4
          rw [hfk] at hy4
          have HFI := hidd hfi
          have HFK := hidd hfk
          have hS0 := LtS.mk (w := wr) hS.dp (Below.refl _ _)
          have HS := hidd hS
          clear hf4 hR hS hsz hkv
          go_upto_region 9 with fail
          refine wp_region_slotsH 12 (by decide) (by kernel_rfl) (by kernel_rfl) (fun _ _ => true) (LtS wr q n f) (LtG q n i kn x y) EbL (by kernel_rfl) (by kernel_rfl) (by kernel_rfl) (by kernel_rfl) ?_ (hS0.below (bel_drew (Below.refl _ _))) [3, 5, 8] (by kernel_rfl) ?_ ?_ ?_
          · intro t dd v u u' _ _ h hE
            refine ⟨h.1, fun R hR => ?_⟩
            unfold LtGP at hR
            cases hR
          · intro u _
            refine ⟨⟨_, rfl, ?_⟩, ⟨_, rfl, ?_⟩, ⟨_, rfl, ?_⟩, trivial⟩ <;> exact ⟨fun _ h => Option.some.inj h, fun _ h => no_some h⟩
          · refine ⟨?_, ?_, ?_, ?_, ?_, ?_, ?_, ?_, ?_, ?_, ?_, ?_, trivial⟩
            · intro a u hS hr K hK
              obtain ⟨⟨vl0, e0, g0⟩, -⟩ := hr
              obtain rfl := g0.1 _ rfl
              clear g0
              rw [if_pos (want_none rfl)]
              unfold Oper.wp
              go_simp
              exact hK _ _ ⟨fun _ h => Option.some.inj h, fun _ h => no_some h⟩ hS (eby rfl (Below.refl _ _))
            · intro a u hS hr K hK
              obtain ⟨⟨vl0, e0, g0⟩, -⟩ := hr
              obtain rfl := g0.1 _ rfl
              clear g0
              rw [if_pos (want_none rfl)]
              unfold Oper.wp
              go_simp
              exact hK _ _ ⟨fun _ h => Option.some.inj h, fun _ h => no_some h⟩ hS (eby rfl (Below.refl _ _))
            · intro a u hS hr K hK
              obtain ⟨⟨vl0, e0, g0⟩, -⟩ := hr
              obtain rfl := g0.1 _ rfl
              clear g0
              rw [if_pos (want_none rfl)]
              unfold Oper.wp
              go_simp
              exact hK _ _ ⟨fun _ h => Option.some.inj h, fun _ h => no_some h⟩ hS (eby rfl (Below.refl _ _))
            · intro a u hS hr K hK
              obtain ⟨⟨vl0, e0, g0⟩, -⟩ := hr
              obtain rfl := g0.1 _ rfl
              clear g0
              rw [if_pos (want_none rfl)]
              unfold Oper.wp
              go_simp
              exact hK _ _ ⟨fun _ h => Option.some.inj h, fun _ h => no_some h⟩ hS (eby rfl (Below.refl _ _))
            · intro a u hS hr K hK
              obtain ⟨⟨vl0, e0, g0⟩, ⟨vl1, e1, g1⟩, -⟩ := hr
              obtain rfl := g0.1 _ rfl
              clear g0
              obtain rfl := g1.1 _ rfl
              clear g1
              rw [if_pos (want_none rfl)]
              unfold Oper.wp
              go_simp
              exact hK _ _ ⟨fun _ h => Option.some.inj h, fun _ h => no_some h⟩ hS (eby rfl (Below.refl _ _))
            · intro a u hS hr K hK
              obtain ⟨⟨vl0, e0, g0⟩, -⟩ := hr
              obtain rfl := g0.1 _ rfl
              clear g0
              rw [if_pos (want_none rfl)]
              have d0 := hS.dp.at_ i hin
              rw [hfi] at d0
              unfold Oper.wp
              go_simp
              exact hK _ _ ⟨fun _ h => Option.some.inj h, fun _ h => no_some h⟩ hS (eby rfl (Below.refl _ _))
            · intro a u hS hr K hK
              obtain ⟨⟨vl0, e0, g0⟩, -⟩ := hr
              obtain rfl := g0.1 _ rfl
              clear g0
              rw [if_pos (want_none rfl)]
              unfold Oper.wp
              go_simp
              exact hK _ _ ⟨fun _ h => Option.some.inj h, fun _ h => no_some h⟩ hS (eby rfl (Below.refl _ _))
            · intro a u hS hr K hK
              obtain ⟨⟨vl0, e0, g0⟩, -⟩ := hr
              obtain rfl := g0.1 _ rfl
              clear g0
              rw [if_pos (want_none rfl)]
              unfold Oper.wp
              go_simp
              exact hK _ _ ⟨fun _ h => Option.some.inj h, fun _ h => no_some h⟩ hS (eby rfl (Below.refl _ _))
            · intro a u hS hr K hK
              obtain ⟨⟨vl0, e0, g0⟩, ⟨vl1, e1, g1⟩, -⟩ := hr
              obtain rfl := g0.1 _ rfl
              clear g0
              obtain rfl := g1.1 _ rfl
              clear g1
              rw [if_pos (want_none rfl)]
              unfold Oper.wp
              go_simp
              exact hK _ _ ⟨fun _ h => Option.some.inj h, fun _ h => no_some h⟩ hS (eby rfl (Below.refl _ _))
            · intro a u hS hr K hK
              obtain ⟨⟨vl0, e0, g0⟩, -⟩ := hr
              obtain rfl := g0.1 _ rfl
              clear g0
              rw [if_pos (want_none rfl)]
              have d0 := hS.dp.at_ kn hknn
              rw [hfk] at d0
              unfold Oper.wp
              go_simp
              exact hK _ _ ⟨fun _ h => Option.some.inj h, fun _ h => no_some h⟩ hS (eby rfl (Below.refl _ _))
            · intro a u hS hr K hK
              obtain ⟨⟨vl0, e0, g0⟩, ⟨vl1, e1, g1⟩, -⟩ := hr
              obtain rfl := g0.1 _ rfl
              clear g0
              obtain rfl := g1.1 _ rfl
              clear g1
              rw [if_pos (want_none rfl)]
              unfold Oper.wp
              go_simp
              exact hK _ _ ⟨fun _ h => Option.some.inj h, fun _ h => no_some h⟩ hS (eby rfl (Below.refl _ _))
            · intro a u hS hr K hK
              obtain ⟨⟨vl0, e0, g0⟩, ⟨vl1, e1, g1⟩, -⟩ := hr
              obtain rfl := g0.1 _ rfl
              clear g0
              obtain rfl := g1.1 _ rfl
              clear g1
              rw [if_pos (want_none rfl)]
              unfold Oper.wp
              go_simp
              exact hK _ _ ⟨fun _ h => Option.some.inj h, fun _ h => no_some h⟩ hS (eby rfl (Below.refl _ _))
          intro a u4 hS4 hts hd hkn hf
          obtain ⟨v26, e26, g26⟩ := hf 0 _ 26 (by decide) rfl rfl (fun _ => rfl)
          obtain ⟨v27, e27, g27⟩ := hf 1 _ 27 (by decide) rfl rfl (fun _ => rfl)
          obtain ⟨v28, e28, g28⟩ := hf 2 _ 28 (by decide) rfl rfl (fun _ => rfl)
          obtain ⟨v29, e29, g29⟩ := hf 3 _ 29 (by decide) rfl rfl (fun _ => rfl)
          obtain ⟨v30, e30, g30⟩ := hf 4 _ 30 (by decide) rfl rfl (fun _ => rfl)
          obtain ⟨v31, e31, g31⟩ := hf 5 _ 31 (by decide) rfl rfl (fun _ => rfl)
          obtain ⟨v32, e32, g32⟩ := hf 6 _ 32 (by decide) rfl rfl (fun _ => rfl)
          obtain ⟨v33, e33, g33⟩ := hf 7 _ 33 (by decide) rfl rfl (fun _ => rfl)
          obtain ⟨v34, e34, g34⟩ := hf 8 _ 34 (by decide) rfl rfl (fun _ => rfl)
          obtain ⟨v35, e35, g35⟩ := hf 9 _ 35 (by decide) rfl rfl (fun _ => rfl)
          obtain ⟨v36, e36, g36⟩ := hf 10 _ 36 (by decide) rfl rfl (fun _ => rfl)
          obtain ⟨v37, e37, g37⟩ := hf 11 _ 37 (by decide) rfl rfl (fun _ => rfl)
          have hA := act_putsH [(26, v26), (27, v27), (28, v28), (29, v29), (30, v30), (31, v31), (32, v32), (33, v33), (34, v34), (35, v35), (36, v36), (37, v37)] hts hd hkn (by kernel_rfl) (by simp [e26, e27, e28, e29, e30, e31, e32, e33, e34, e35, e36, e37])
          clear hf hts hd hkn e26 e27 e28 e29 e30 e31 e32 e33 e34 e35 e36 e37
          obtain rfl := g26.1 _ rfl
          clear g26
          obtain rfl := g27.1 _ rfl
          clear g27
          obtain rfl := g28.1 _ rfl
          clear g28
          obtain rfl := g29.1 _ rfl
          clear g29
          obtain rfl := g30.1 _ rfl
          clear g30
          obtain rfl := g31.1 _ rfl
          clear g31
          obtain rfl := g32.1 _ rfl
          clear g32
          obtain rfl := g33.1 _ rfl
          clear g33
          obtain rfl := g34.1 _ rfl
          clear g34
          obtain rfl := g35.1 _ rfl
          clear g35
          obtain rfl := g36.1 _ rfl
          clear g36
          obtain rfl := g37.1 _ rfl
          clear g37
          subst hA
          simp only [List.foldl, List.setIfInBounds_toArray, List.set_cons_zero, List.set_cons_succ]
          simp only [List.drop_succ_cons, List.drop_zero]
          have S5 : LtS w q n f u4 := ⟨hS4.dp, HS.out.bel.trans (hS4.bel.mono HS.out.bel.size)⟩
          have S6 := S5.set (Nat.le_of_eq HQ.out) i (max x y)
          have tg := hS4.dp.thawed i
          have cg := hS4.dp.at_ i hlt
          have HN6 : Hid (LtS w q n (fun j => if j = i then max x y else f j) (u4.setCell ⟨q, i, none⟩ (.int .i64 (max x y))) ∧ RowA (u4.setCell ⟨q, i, none⟩ (.int .i64 (max x y))) q6 38 (gdL g (some ⟨gb, go, none⟩) c3).toArray ∧ w2.heap.size ≤ (u4.setCell ⟨q, i, none⟩ (.int .i64 (max x y))).heap.size ∧ ∀ j, 0 ≤ (if j = i then max x y else f j) ∧ (if j = i then max x y else f j) ≤ 2) := by
            refine ⟨S6, (HR.out.below hS4.bel HR.out.lt).far (a := ⟨q, i, none⟩) (by show q6 ≠ q; omega) _, ?_, fun j => ?_⟩
            · have := HSZ.out
              have := hS4.bel.size
              simpa [World.setCell] using Nat.le_trans HSZ.out hS4.bel.size
            · split
              · omega
              · exact HF4.out j
          clear hS4 S5 S6 hS0 hfi hfk
          go_wp2
          exact ⟨⟨k + 1, _, rfl, by omega, HN6.out.1, HN6.out.2.1, HN6.out.2.2.1, HN6.out.2.2.2⟩, by simp [intOf]; omega⟩
        · have hkk : k = mm := by omega
          have cg := hS.dp.at_ i hlt
          have tg := hS.dp.thawed i
          obtain ⟨x, hfi⟩ : ∃ x, f i = x := ⟨_, rfl⟩
          have hx4 := hf4 i
          rw [hfi] at hx4 cg
          have HS := hidd hS
          have HBO := hidd hS.bel
          have HRW := hidd hR
          have HQ2 := HQ.out
          have HOLD : Hid (∃ f, LtS w q n f wr ∧ ∀ j, 0 ≤ f j ∧ f j ≤ 2) := ⟨f, hS, hf4⟩
          have HNEW : Hid (x + 1 ≤ 2 → ∃ f, LtS w q n f (wr.setCell ⟨q, i, none⟩ (.int .i64 (x + 1))) ∧ ∀ j, 0 ≤ f j ∧ f j ≤ 2) := fun h => ⟨_, hS.set (Nat.le_of_eq HQ.out) i (x + 1), fun j => by
            show 0 ≤ (if j = i then x + 1 else f j) ∧ (if j = i then x + 1 else f j) ≤ 2
            split
            · omega
            · exact hf4 j⟩
          have HBN : Hid (Below w.heap.size w (wr.setCell ⟨q, i, none⟩ (.int .i64 (x + 1)))) := (hS.set (Nat.le_of_eq HQ.out) i (x + 1)).bel
          have RN := hS.set (Nat.le_of_eq HQ.out) i (x + 1)
          have cn : (wr.setCell ⟨q, i, none⟩ (.int .i64 (x + 1))).cell? ⟨q, i, none⟩ = some (.int .i64 (x + 1)) := by
            have := RN.dp.at_ i hlt
            simpa using this
          have HCN := hidd cn
          clear hf4 hS hR hfi RN cn hsz
          subst hkk
          have HT2 : Hid (∀ m' : Nat, m' ≤ i + 1 → ∀ u, (∃ f, LtS w q n f u ∧ ∀ j, 0 ≤ f j ∧ f j ≤ 2) → True) := fun _ _ _ _ => trivial
          clear HT2
          have y6 : wr.cell? ⟨q6, 6, none⟩ = some (.int .i64 g.lo) := HRW.out.at_ rfl
          have y7 : wr.cell? ⟨q6, 7, none⟩ = some (.int .i64 g.hi) := HRW.out.at_ rfl
          have z6 : (wr.setCell ⟨q, i, none⟩ (.int .i64 (x + 1))).cell? ⟨q6, 6, none⟩ = some (.int .i64 g.lo) := (HRW.out.far (a := ⟨q, i, none⟩) (by show q6 ≠ q; omega) _).at_ rfl
          have z7 : (wr.setCell ⟨q, i, none⟩ (.int .i64 (x + 1))).cell? ⟨q6, 7, none⟩ = some (.int .i64 g.hi) := (HRW.out.far (a := ⟨q, i, none⟩) (by show q6 ≠ q; omega) _).at_ rfl
          have HZ := hidd (And.intro z6 z7)
          clear z6 z7 HRW
          generalize g.lo = lo at *
          generalize g.hi = hi at *
          by_cases h5 : g.op = 5
          · have h5b : (g.op == 5) = true := by simp [h5]
            have cn := HCN.out
            obtain ⟨z6, z7⟩ := HZ.out
            clear y6 y7
            go_upto_region 14 with fail
            generalize wr.setCell ⟨q, i, none⟩ (.int .i64 (x + 1)) = w7 at *
            clear cg tg h5 h5b x0
            have cn := HCN.out
            by_cases hx : x + 1 ≤ 2
            · have HN7 := hidd (HNEW.out hx)
              clear HNEW HOLD
              have hx5 : ¬ 2 < x + 1 := by omega
              by_cases hlo : 40 < lo
              · go_wp2
                go_ret
                exact ⟨HBN.out, _, rfl⟩
              · by_cases hhi : 40 < hi
                · go_wp2
                  go_ret
                  exact ⟨HBN.out, _, rfl⟩
                · go_wp2
                  exact ⟨⟨i + 1, m + 1, by omega, rfl, rfl, by omega, HN7.out⟩, by simp [intOf]; omega⟩
            · have hx5 : 2 < x + 1 := by omega
              clear HNEW HOLD
              go_wp2
              go_ret
              exact ⟨HBN.out, _, rfl⟩
          · have h5b : (g.op == 5) = false := by simp [h5]
            have hx5 : ¬ 2 < x := by omega
            have HBN : Hid (Below w.heap.size w wr) := HBO.out
            clear HNEW HCN HZ
            by_cases hlo : 40 < lo
            · go_wp2
              go_ret
              exact ⟨HBN.out, _, rfl⟩
            · by_cases hhi : 40 < hi
              · go_wp2
                go_ret
                exact ⟨HBN.out, _, rfl⟩
              · go_wp2
                exact ⟨⟨i + 1, m, by omega, rfl, rfl, by omega, HOLD.out⟩, by simp [intOf]; omega⟩
    · have hin : i = n := by omega
      have HB := hidd hS.bel
      clear hS hf4
      subst hin
      go_wp2
      go_ret
      exact ⟨HB.out, _, rfl⟩
end Go.Proofs.Ytdaaigkmlbpbgaa.Sy.Pl

/- The landed plan of a tree: Tree tells what planN does. -/
import Derived.Test.YtaagkfiaccmepaaPJn
import Derived.Test.YtaagkfiaccmepaaPDh
namespace Go.Proofs.Ytaagkfiaccmepaa.Sy.Pl
open Go.RowKit Go.Proofs.Ytaagkfiaccmepaa.Sy.Ap Go.Proofs.Ytaagkfiaccmepaa.Sy.Lg
set_option maxRecDepth 100000
set_option linter.unusedVariables false

set_option maxHeartbeats 1000000 in
theorem tree_ok (A : Option Addr) (c : Nat) (gs : List Gd) (ns : List Nd) (most : Nat) (m1 : 1 ≤ most) (m2 : most ≤ 4096) (w : World) (hN : Nds w w.heap.size A gs) (hg : GN gs ns) (ht : TreeN ns) (hp : PlainN ns) :
    Calls Try.prog 5 #[.slice A gs.length c, .int .i64 (most : Int)] w fun e w' => TrR (planN ns most) w e w' := by
  have hl : gs.length ≤ 2000 := by have := hg.1; have := ht.few; omega
  have hn := nameless_any A c gs w hN hl (gn_sm hg ht)
  have HP := hidd (plain_of hg ht hp)
  have hpos := ht.pos
  have hlen := hg.1
  have HC : Hid (∀ (B b : Nat), PC B b A c gs (most : Int) (pl ns most (ns.length - 1)) (ns.length - 1)) := fun B b => planC m1 hg ht hp (ns.length - 1) (by omega)
  have HN := hidd hN
  obtain ⟨k, hk⟩ : ∃ k, ns.length - 1 = k := ⟨_, rfl⟩
  have hlk : gs.length = k + 1 := by omega
  have HPN : Hid (planN ns most = pl ns most k []) := by show _ = _; unfold planN; rw [hk]
  rw [hk] at HC
  have HST : Hid (∀ (u : World), RowA u w.heap.size 42 #[.slice A (k + 1) c, .int .i64 (most : Int), .slice none 0 0, .slice none 0 0] → True) := fun _ _ => trivial
  have HLK := hidd hlk
  rw [hlk] at hn ⊢
  obtain ⟨RES, hRES⟩ : ∃ RES, planN ns most = RES := ⟨_, rfl⟩
  rw [hRES] at HPN ⊢
  have hki : ((k + 1 : Nat) : Int) - 1 = (k : Int) := by omega
  have hk9 : k ≤ 2000 := by omega
  clear hl hg ht hp hN hpos hlen hk hlk hRES HST
  generalize k + 1 = n at *
  go_enter Try.func5, Try.ntmps5
  go_wp2_with fail
  refine hn.mono ?_
  rintro e w1 ⟨z, rfl, hz, b1⟩
  have hzt : z = true := hz.2 HP.out
  subst hzt
  have HB := hidd b1
  clear hn b1 hz HP
  have m3 : ¬ ((most : Int) < 1) := by omega
  have m4 : ¬ ((4096 : Int) < (most : Int)) := by omega
  have R1 := RowA.new w1 42 #[.slice A n c, .int .i64 (most : Int), .slice none 0 0, .slice none 0 0]
  have hW1 : Below w1.heap.size w1 (w1.alloc (.cells #[.slice A n c, .int .i64 (most : Int), .slice none 0 0, .slice none 0 0] 42)) := (Below.refl _ _).alloc (Nat.le_refl _) _
  go_upto_region 4 with fail
  generalize w1.alloc (.cells #[.slice A n c, .int .i64 (most : Int), .slice none 0 0, .slice none 0 0] 42) = w2 at *
  have hS : St (fun _ => False) w1.heap.size w1.heap.size A c gs (most : Int) w2 [] [] := by
    refine ⟨.slice none 0 0, .slice none 0 0, [], ⟨?_, World.ownsRow_nil _ _ _ _, World.ownsRow_nil _ _ _ _, fun x hx => absurd hx List.not_mem_nil, Nat.le_refl _⟩, ⟨rfl, fun i hi => absurd hi (Nat.not_lt_zero _)⟩, Nat.le_refl _, Nat.zero_le _, fun q h => h.elim⟩
    rw [HLK.out]
    exact R1
  have hc := HC.out w1.heap.size w1.heap.size (fun _ => False) w2 [] [] hS (((HN.out.below HB.out).more HB.out.size).below hW1)
  have HB2 := hidd (HB.out.trans (hW1.mono HB.out.size))
  have HW := hidd HB.out.size
  clear hS R1 hW1 HC HN HB m3 m4
  generalize hq : pl ns most k [] = R at *
  clear hq
  go_wp2_with fail
  refine hc.mono ?_
  rintro e w3 ⟨b3, h3⟩
  have HB3 := hidd (HB2.out.trans (b3.bel.mono HW.out))
  clear b3 hc HB2 HW
  cases R with
  | none =>
    obtain rfl := h3
    go_wp2
    go_ret2
    rw [HPN.out]
    exact ⟨HB3.out, rfl⟩
  | some o =>
    obtain ⟨rfl, nv, rv, l, p, gn, r1, r2, r3⟩ := h3
    obtain ⟨A5, c5, rfl, N5, hc5⟩ := p.nds
    obtain ⟨d0, d1, d2, d3⟩ := p.cells
    have HN5 := hidd N5
    have HG5 := hidd gn
    have HC5 := hidd hc5
    obtain ⟨m, hm⟩ : ∃ m, l.length = m := ⟨_, rfl⟩
    have HM : Hid ((l.map (·.1)).length = m) := by show _ = _; rw [List.length_map, hm]
    rw [hm] at d2 HC5
    clear N5 gn hc5 p r1 r2 r3 hm d0 d1 d3
    go_wp2
    go_ret2
    rw [HPN.out]
    refine ⟨HB3.out, A5, c5, l.map (·.1), ?_, HN5.out, HG5.out, by rw [HM.out]; exact HC5.out⟩
    rw [HM.out]
    rfl
end Go.Proofs.Ytaagkfiaccmepaa.Sy.Pl

namespace Go.Proofs.Ytaagkfiaccmepaa.Sy.Pn.Rp
open Go.RowKit
set_option maxRecDepth 100000
set_option linter.unusedVariables false

theorem bs_cut (s : ByteArray) (k : Nat) (h : k < s.size) : bs (s.extract k (k + 1)) = [at_ (bs s) k] := by
  have hl : k < (bs s).length := by rw [bs_len]; exact h
  have e : bs (s.extract k (k + 1)) = ((bs s).drop k).take 1 := by
    unfold bs
    rw [ByteArray.data_extract, Array.toList_extract, List.map_take, List.map_drop]
    simp
  rw [e, List.drop_eq_getElem_cons hl, List.take_succ_cons, List.take_zero]
  unfold at_
  rw [List.getD_eq_getElem?_getD, List.getElem?_eq_getElem hl]
  rfl
theorem byteT_mark : ∀ c, c < 256 → (specialB c || c == 45) = true → byteT c = [92, c] := by decide +kernel
theorem marks_none : ∀ c, c < 256 → (∀ j, j < 17 → at_ (bs marksA) j ≠ c) → (specialB c || c == 45) = false := by
  intro c hc h
  have := pmarks_has c hc
  rw [← this, Bool.eq_false_iff]
  intro h2
  rw [List.contains_iff_mem] at h2
  obtain ⟨i, hi, e⟩ := List.getElem_of_mem h2
  refine h i hi ?_
  unfold at_
  rw [List.getD_eq_getElem?_getD, List.getElem?_eq_getElem hi]
  exact e
theorem marks_yes : ∀ k, k < 17 → (specialB (at_ (bs marksA) k) || at_ (bs marksA) k == 45) = true := by decide
set_option maxHeartbeats 1000000 in
theorem rbyte_any (c : Nat) (hc : c ≤ 255) (w : World) : Calls Try.prog 64 #[.int .u8 (c : Int)] w fun e w' => TxtR (byteT c) w e w' := by
  go_enter Try.func64, Try.ntmps64
  go_wp2
  go_loopw [4] (fun s4 wr => ∃ k : Nat, s4 = .int .i64 (k : Int) ∧ k ≤ 17 ∧ (∀ j, j < k → at_ (bs marksA) j ≠ c) ∧ wr = w) (fun s4 _ => 17 - (intOf s4).toNat)
  case atStart => exact ⟨0, rfl, by omega, fun j hj => absurd hj (Nat.not_lt_zero j), rfl⟩
  case round =>
    obtain ⟨k, rfl, hk, hno, rfl⟩ := hrel
    by_cases hlt : k < 17
    · have hki : (k : Int) < 17 := by omega
      have hk2 : k < ({ data := #[124, 42, 43, 63, 123, 125, 40, 41, 91, 93, 46, 92, 47, 36, 94, 34, 45] } : ByteArray).size := hlt
      obtain ⟨x, hx⟩ : ∃ x, (({ data := #[124, 42, 43, 63, 123, 125, 40, 41, 91, 93, 46, 92, 47, 36, 94, 34, 45] } : ByteArray)[k]).toNat = x := ⟨_, rfl⟩
      have HX : Hid (at_ (bs marksA) k = x) := (at_bs marksA k hk2).trans hx
      have HNO := hidd hno
      clear hno
      by_cases hxc : x = c
      · have HR : Hid (bs (({ data := #[92] } : ByteArray) ++ marksA.extract k (k + 1)) = byteT c) := by
          show _ = _
          rw [bs_append, bs_cut marksA k hk2, HX.out, hxc, byteT_mark c (by omega) (by have := marks_yes k hlt; rw [HX.out, hxc] at this; exact this)]
          rfl
        subst hxc
        clear HX HNO
        go_wp2
        go_ret
        exact ⟨_, rfl, HR.out, Below.refl _ _⟩
      · have hxi : ((x : Int) == (c : Int)) = false := by simp; omega
        clear hk
        go_wp2
        refine ⟨⟨k + 1, rfl, by omega, fun j hj => ?_, by first | trivial | rfl⟩, by simp [intOf]; omega⟩
        rcases Nat.lt_or_ge j k with q | q
        · exact HNO.out j q
        · have : j = k := by omega
          subst this
          rw [HX.out]
          exact hxc
    · have hk17 : k = 17 := by omega
      subst hk17
      have hsp := marks_none c (by omega) hno
      clear hno hlt hk
      by_cases h10 : c = 10
      · subst h10
        clear hsp
        go_wp2
        go_ret
        exact ⟨_, rfl, by decide, Below.refl _ _⟩
      by_cases h9 : c = 9
      · subst h9
        clear hsp
        go_wp2
        go_ret
        exact ⟨_, rfl, by decide, Below.refl _ _⟩
      by_cases h13 : c = 13
      · subst h13
        clear hsp
        go_wp2
        go_ret
        exact ⟨_, rfl, by decide, Below.refl _ _⟩
      have i10 : ((c : Int) == 10) = false := by simp; omega
      have i9 : ((c : Int) == 9) = false := by simp; omega
      have i13 : ((c : Int) == 13) = false := by simp; omega
      have hT : byteT c = if c < 32 ∨ 126 < c then [92, 120, hexD (c / 16), hexD (c % 16)] else if specialB c || c == 45 then [92, c] else [c] := by
        unfold byteT
        rw [if_neg h10, if_neg h9, if_neg h13]
      rw [hsp] at hT
      have HT := hidd hT
      clear hT h10 h9 h13 hsp
      by_cases hx : c < 32 ∨ 126 < c
      · have HT2 : Hid (byteT c = [92, 120, hexD (c / 16), hexD (c % 16)]) := by show _ = _; rw [HT.out, if_pos hx]
        obtain ⟨q, hq⟩ : ∃ q, c / 16 = q := ⟨_, rfl⟩
        obtain ⟨r, hr⟩ : ∃ r, c % 16 = r := ⟨_, rfl⟩
        rw [hq, hr] at HT2
        have e1 : IntKind.u8.wrap ((c : Int) / 16) = (q : Int) := by rw [IntKind.wrap_u8]; omega
        have e2 : (c : Int) % 16 = (r : Int) := by omega
        have e3 : IntKind.u8.wrap ((q : Int) + 1) = (q : Int) + 1 := by rw [IntKind.wrap_u8]; omega
        have e4 : IntKind.u8.wrap ((r : Int) + 1) = (r : Int) + 1 := by rw [IntKind.wrap_u8]; omega
        have hq1 : (q : Int) < 16 := by omega
        have hr1 : (r : Int) < 16 := by omega
        have HR : Hid (bs (({ data := #[92, 120] } : ByteArray) ++ digitsA.extract q (q + 1) ++ digitsA.extract r (r + 1)) = byteT c) := by
          show _ = _
          rw [bs_append, bs_append, bs_cut digitsA q (by show q < 16; omega), bs_cut digitsA r (by show r < 16; omega), hex_at2 q (by omega), hex_at2 r (by omega), HT2.out]
          rfl
        clear HT HT2 hq hr
        have mixed := mixed_
        rcases Nat.lt_or_ge c 32 with h | h
        · have i32 : (c : Int) < 32 := by omega
          clear hx h
          go_wp2
          go_quiet (fail)
          go_wp2
          go_ret
          exact ⟨_, rfl, HR.out, bel_drewN (Below.refl _ _) _⟩
        · have i32 : decide ((c : Int) < 32) = false := decide_eq_false (by omega)
          have i126 : (126 : Int) < (c : Int) := by omega
          clear hx h
          go_wp2
          go_quiet (fail)
          go_wp2
          go_ret
          exact ⟨_, rfl, HR.out, bel_drewN (Below.refl _ _) _⟩
      · have i32 : decide ((c : Int) < 32) = false := decide_eq_false (by omega)
        have i126 : decide ((126 : Int) < (c : Int)) = false := decide_eq_false (by omega)
        have HT2 : Hid (byteT c = [c]) := by show _ = _; rw [HT.out, if_neg hx]; rfl
        have hB := bts_one wr (c : Int) (by omega) (by omega)
        have hcv := str_bytes (some ⟨wr.heap.size, 0, none⟩) 1 [(c : Int)] _ hB
        have HR : Hid (bs (strOfNums [(c : Int)]) = byteT c) := by
          show _ = _
          rw [bs_nums _ (by simp; omega), HT2.out]
          simp
        change (convert 80 9 (.slice (some ⟨wr.heap.size, 0, none⟩) 1 1)).run Try.prog (wr.alloc (.cells #[.int .u8 (c : Int)] 5)) = _ at hcv
        clear HT HT2 hB hx
        generalize strOfNums [(c : Int)] = b at *
        go_wp2
        go_ret
        exact ⟨b, rfl, HR.out, (Below.refl _ _).alloc (Nat.le_refl _) _⟩
set_option maxHeartbeats 400000 in
theorem rdigit_any (n : Nat) (h : n ≤ 9) (w : World) : Calls Try.prog 68 #[.int .i64 (n : Int)] w fun e w' => TxtR (digs n) w e w' := by
  have h9 : ¬ (n : Int) > 9 := by omega
  have hB := bts_one w (48 + (n : Int)) (by omega) (by omega)
  have hcv := str_bytes (some ⟨w.heap.size, 0, none⟩) 1 [48 + (n : Int)] _ hB
  have hbn : Hid (bs (strOfNums [48 + (n : Int)]) = digs n) := by
    show _ = _
    rw [bs_nums _ (by simp; omega), digs_small h]
    simp
    omega
  change (convert 80 9 (.slice (some ⟨w.heap.size, 0, none⟩) 1 1)).run Try.prog (w.alloc (.cells #[.int .u8 (48 + (n : Int))] 5)) = _ at hcv
  clear hB
  generalize strOfNums [48 + (n : Int)] = b at *
  go_enter Try.func68, Try.ntmps68
  go_wp2
  go_ret
  exact ⟨b, rfl, hbn.out, (Below.refl _ _).alloc (Nat.le_refl _) _⟩
set_option maxHeartbeats 400000 in
theorem rdigits_any : ∀ (n : Nat), n ≤ 9999 → ∀ w : World, Calls Try.prog 68 #[.int .i64 (n : Int)] w fun e w' => TxtR (digs n) w e w' := by
  intro n
  induction n using Nat.strongRecOn with
  | ind n ih =>
    intro hn w
    by_cases h9 : n ≤ 9
    · exact rdigit_any n h9 w
    · have h10 : (n : Int) > 9 := by omega
      have i1 := ih (n / 10) (by omega) (by omega)
      have i2 := rdigit_any (n % 10) (by omega)
      have HD := hidd (digs_great (n := n) (by omega))
      have HD2 := hidd (digs_small (n := n % 10) (by omega))
      push_cast at i1 i2
      have HL1 := hidd (digs_len (n := n / 10) (by omega))
      clear ih
      go_enter Try.func68, Try.ntmps68
      go_wp2_with fail
      refine (i1 _).mono ?_
      rintro e w1 ⟨d1, rfl, hd1, b1⟩
      have hs1 : d1.size ≤ 4 := by rw [← bs_len, hd1]; exact HL1.out
      go_wp2_with fail
      refine (i2 _).mono ?_
      rintro e w2 ⟨d2, rfl, hd2, b2⟩
      have hs2 : d2.size ≤ 4 := by rw [← bs_len, hd2, HD2.out]; simp
      have HE := hidd hd1
      have HE2 := hidd hd2
      clear hd1 hd2 i1 i2
      go_wp2
      go_ret
      exact ⟨d1 ++ d2, rfl, by rw [bs_append, HE.out, HE2.out, HD.out, HD2.out], b1.trans (b2.mono b1.size)⟩
end Go.Proofs.Ytaagkfiaccmepaa.Sy.Pn.Rp

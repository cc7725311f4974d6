/- The reference's reader, of patterns that are right: an item. -/
import Derived.Test.YtahhiajliomcfaaPHd
namespace Go.Proofs.Ytahhiajliomcfaa.Sy.Rf
open Go.RowKit
set_option maxRecDepth 100000
set_option linter.unusedVariables false
section
variable {w w' w1 : World} {b : Nat} {s : ByteArray} {v v1 : Value} {l l1 : List NR} {i : Nat} {ns : List Nd} {st : List (List Nat × List Nat)} {aa I : List Nat} {d : Int}
theorem digEnd_one {t : List Nat} {f i : Nat} (h1 : dig t i = true) (h2 : dig t (i + 1) = false) (hf : 2 ≤ f) : digEnd t f i = i + 1 := by
  obtain ⟨f, rfl⟩ : ∃ g, f = g + 2 := ⟨f - 2, by omega⟩
  rw [digEnd, if_pos h1, digEnd, h2]
  rfl
theorem dig_at {t : List Nat} {i : Nat} (h : dig t i = true) : i < t.length ∧ digitB (at_ t i) = true := by
  unfold dig at h
  simpa using h
theorem digit_num {c : Nat} (h : digitB c = true) : ∃ x, c = x + 48 ∧ x ≤ 9 := by
  unfold digitB at h
  simp at h
  exact ⟨c - 48, by omega, by omega⟩
theorem number_1 {t : List Nat} {i x : Nat} (h : dig t i = true) (hx : at_ t i = x + 48) : number t i (i + 1) = some x := by
  have hi := (dig_at h).1
  unfold number
  rw [if_neg (by omega)]
  congr 1
  have e : cut t i (i + 1) = [at_ t i] := by
    unfold cut at_
    rw [show i + 1 - i = 1 from by omega, List.getD_eq_getElem?_getD, List.getElem?_eq_getElem hi, List.drop_eq_getElem_cons hi]
    rfl
  rw [e, hx]
  simp [value]
theorem rbounds_any (hS : Smp s) {j j2 : Nat} {lo hi : Int} (r : QR w b s j v d) (hd : dig (bs s) (j + 1) = true) (hb : bounds (bs s) j = .ok ((lo, hi), j2)) :
    Calls Try.prog 93 #[.pointer (some ⟨b, 0, none⟩)] w fun e w' => BndR lo hi j2 b s v d w e w' := by
  have hbl := bs_len s
  have hs := hS.sz
  obtain ⟨hl1, hd1⟩ := dig_at hd
  have hn2 := hS.dd _ hd
  obtain ⟨x, hx, hx9⟩ := digit_num hd1
  have hle : loEnd (bs s) j = j + 2 := by unfold loEnd; exact digEnd_one hd hn2 (by omega)
  have hlp : loPart (bs s) j = some x := by unfold loPart; rw [hle]; exact number_1 hd hx
  unfold bounds at hb
  rw [hle, hlp] at hb
  unfold hiPart at hb
  cases hcm : is (bs s) (j + 2) 44 with
  | false =>
    rw [hcm] at hb
    simp only [Bool.false_eq_true, if_false] at hb
    split at hb
    · cases hb
    · rename_i h5
      split at hb
      · cases hb
      · rename_i h6
        unfold okBounds at hb
        simp only at hb
        split at hb
        · rename_i bb hok
          cases hb
          split at hok
          · rename_i h7
            cases hok
            exact bounds_1 r rfl rfl rfl (by omega) (by omega) hd1 hx (by omega) h7.2.2.1
          · cases hok
        · cases hb
  | true =>
    rw [hcm] at hb
    simp only [if_true] at hb
    obtain ⟨hl2, h44⟩ := is_lt hcm
    cases hd3 : dig (bs s) (j + 2 + 1) with
    | false =>
      rw [hd3] at hb
      simp only [Bool.false_eq_true, if_false] at hb
      split at hb
      · cases hb
      · rename_i h5
        split at hb
        · cases hb
        · rename_i h6
          unfold okBounds at hb
          simp only at hb
          split at hb
          · rename_i bb hok
            cases hb
            split at hok
            · cases hok
              exact bounds_2 r rfl rfl rfl rfl (by omega) (by omega) hd1 hx h44 (Classical.not_not.1 h6)
            · cases hok
          · cases hb
    | true =>
      rw [hd3] at hb
      simp only [if_true] at hb
      obtain ⟨hl3, hd4⟩ := dig_at hd3
      obtain ⟨y, hy, hy9⟩ := digit_num hd4
      have hn4 := hS.dd _ hd3
      rw [digEnd_one hd3 hn4 (by omega), number_1 hd3 hy] at hb
      split at hb
      · cases hb
      · rename_i h5
        split at hb
        · cases hb
        · rename_i h6
          unfold okBounds at hb
          simp only at hb
          split at hb
          · rename_i bb hok
            cases hb
            split at hok
            · rename_i h7
              cases hok
              exact bounds_3 r rfl rfl rfl rfl rfl (by omega) (by omega) hd1 hx h44 hd4 hy (Classical.not_not.1 h6) h7.2.2.1 h7.2.2.2
            · cases hok
          · cases hb
/-- An item was read: no repetition stands behind it. -/
def ItemQ (w : World) (b : Nat) (s : ByteArray) (v : Value) (l : List NR) (i : Nat) (ns : List Nd) (st : List (List Nat × List Nat)) (aa I : List Nat) (e : Ending) (w' : World) : Prop :=
  ∃ (k j : Nat) (ns' : List Nd) (v' : Value) (l' : List NR), e = .returned (.int .i64 (k : Int)) ∧ run (bs s) ⟨i, ns, st, aa, I⟩ = run (bs s) ⟨j, ns', st, aa, I ++ [k]⟩ ∧ i < j ∧ j ≤ s.size ∧
    QS w' b s (j : Int) (st.length : Int) v' l' ∧ GN (l'.map (·.1)) ns' ∧ Goes b v l v' l' w w' ∧ l'.length + 2 * i ≤ l.length + 2 * j ∧ repAt (bs s) j = false
/-- Reading an item while it goes on. -/
def ItmR (w : World) (b : Nat) (s : ByteArray) (v : Value) (l : List NR) (i : Nat) (ns : List Nd) (st : List (List Nat × List Nat)) (aa I : List Nat) (s3 : Value) (wr : World) : Prop :=
  ∃ (k j : Nat) (ns' : List Nd) (v' : Value) (l' : List NR), s3 = .int .i64 (k : Int) ∧ run (bs s) ⟨i, ns, st, aa, I⟩ = run (bs s) ⟨j, ns', st, aa, I ++ [k]⟩ ∧ i < j ∧ j ≤ s.size ∧
    QS wr b s (j : Int) (st.length : Int) v' l' ∧ GN (l'.map (·.1)) ns' ∧ Goes b v l v' l' w wr ∧ l'.length + 2 * i ≤ l.length + 2 * j
set_option maxHeartbeats 4000000 in
theorem item_any {n : Nat} (hA : AltC n) (hS : Smp s) (hO : Okr s ⟨i, ns, st, aa, I⟩) (hn : s.size - i < n + 1) (p : QS w b s (i : Int) (st.length : Int) v l) (hg : GN (l.map (·.1)) ns) (hi : i < s.size) (hst : st.length ≤ 64) (hl : l.length ≤ 2 * i) (h1 : at_ (bs s) i ≠ 124) (h2 : at_ (bs s) i ≠ 41) (h3 : I = [] ∨ repAt (bs s) i = false) :
    Calls Try.prog 85 #[.pointer (some ⟨b, 0, none⟩)] w fun e w' => ItemQ w b s v l i ns st aa I e w' := by
  have HBL := hidd (bs_len s)
  have hs := hS.sz
  have HS := hidd hS
  have HO := hidd hO
  have hat := atom_any (aa := aa) (I := I) hA hS hO hn p hg hi hst hl h1 h2 h3
  clear hA hS hO p hg h1 h2 h3 hn
  go_enter Try.func85, Try.ntmps85
  go_wp2_with fail
  refine hat.mono ?_
  rintro e w1 ⟨k, j, ns', v', l', rfl, hr5⟩
  have HR5 : Hid (ItmR w b s v l i ns st aa I (.int .i64 (k : Int)) w1) := ⟨k, j, ns', v', l', rfl, hr5⟩
  clear hr5 hat
  go_wp2
  go_loopw [3] (fun s3 wr => ItmR w b s v l i ns st aa I s3 wr) (fun _ wr => s.size - atOf wr b)
  case atStart => exact HR5.out
  case round =>
    clear HR5
    obtain ⟨k, j, ns', v', l', rfl, hrun, hij, hj, p1, g1n, g1, hlen⟩ := hrel
    have HRUN := hidd hrun
    have HG := hidd g1n
    have hao : Hid (atOf wr b = j) := p1.pr.atOf
    clear hrun g1n
    rcases Nat.lt_or_ge j s.size with hlt | hge
    · have hbj : j < (bs s).length := by rw [HBL.out]; exact hlt
      go_wp2_with fail
      refine (ends_no p1.pr hlt).mono ?_
      rintro e w2 ⟨rfl, m2, rfl⟩
      have T2 := (Touch.refl b b wr).drewN m2
      have p2 := p1.read T2 (p1.pr.drewN m2)
      have g2 := g1.read T2
      clear T2 p1 g1
      generalize wr.drewN m2 = w2 at *
      obtain ⟨c0, c1, c2, c3, c4, c5⟩ := p2.pr.cells
      have ht := p2.pr.thawed
      have hji : (j : Int) < (s.size : Int) := by omega
      have hjs : (j : Int) < 100000 := by omega
      obtain ⟨c, hc⟩ : ∃ c, at_ (bs s) j = c := ⟨_, rfl⟩
      go_wp2_with fail
      by_cases q1 : c = 42
      · subst q1
        -- one of the signs 42, bounds 0 (-1)
        have hv : s[j].toNat = 42 := by rw [← at_get hlt]; exact hc
        have hrep : repAt (bs s) j = true := by unfold repAt; simp only [is_of (hbj : j < (bs s).length), hc]; rfl
        have hrr : run (bs s) ⟨j, ns', st, aa, I ++ [k]⟩ = _ := run_repet hbj hrep
        have hre : repet (bs s) j = .ok ((0, (-1)), j + 1) := by unfold repet; rw [hc]; rfl
        rw [hre] at hrr
        have HRR : Hid (run (bs s) ⟨j, ns', st, aa, I ++ [k]⟩ = run (bs s) ⟨j + 1, ns' ++ [ndRep k 0 (-1)], st, aa, I ++ [ns'.length]⟩) := hrr
        clear hrr hre hrep hc hbj
        go_quiet (fail)
        have R4 := (p2.pr.drewN nq).atTo ((j : Int) + 1)
        have T4 := ((Touch.refl b b w2).drewN nq).set1 1 (.int .i64 ((j : Int) + 1))
        have HR4 : Hid (QR ((w2.drewN nq).setCell ⟨b, 1, none⟩ (.int .i64 ((j : Int) + 1))) b s ((j + 1 : Nat) : Int) v' (st.length : Int)) := by
          show QR _ _ _ _ _ _
          rw [show ((j + 1 : Nat) : Int) = (j : Int) + 1 from by omega]
          exact R4
        have p4 := p2.read T4 HR4.out
        have g4 := g2.read T4
        clear R4 HR4 p2 g2
        clear T4
        go_upto_region 16 with fail
        generalize (w2.drewN nq).setCell ⟨b, 1, none⟩ (.int .i64 ((j : Int) + 1)) = w4 at *
        clear c0 c1 c2 c3 c4 c5 ht hv
        -- the repetition's node: in world w4, reader p4 at (j + 1), all so far g4, bounds 0 (-1)
        have p5 := p4.alloc (.cells #[.int .i64 (k : Int)] 3)
        have g5 := g4.read ((Touch.refl b b w4).alloc (.cells #[.int .i64 (k : Int)] 3))
        have hq := p4.pr.lt
        have hqv := p4.own.lt
        have hk5 : Kid (w4.alloc (.cells #[.int .i64 (k : Int)] 3)) b v' (repG (k : Int) 0 (-1), some ⟨w4.heap.size, 0, none⟩, 1) := fun _ => ⟨w4.heap.size, 0, rfl, by simp, by omega, fun e => by have := (hqv _ e).2; omega, fun t ht => by
          have ht0 : t = 0 := by simp [repG] at ht; exact ht
          subst ht0
          rw [World.cell?_alloc_new]
          rfl⟩
        have hl5 : l'.length ≤ 100000 := by omega
        have ha := Ad.add_any p5 (repG (k : Int) 0 (-1)) (some ⟨w4.heap.size, 0, none⟩) 1 hk5 hl5
        rw [rep_lit] at ha
        have hw4 := g4.fr.size
        obtain ⟨c0, c1, c2, c3, c4, c5⟩ := p4.pr.cells
        clear p4 hk5 g4 hq hqv
        go_wp2_with fail
        generalize w4.alloc (.cells #[.int .i64 (k : Int)] 3) = w5 at *
        refine ha.mono ?_
        rintro e w6 ⟨rfl, v6, p6, f6⟩
        have g6 := g5.add f6 (x := (repG (k : Int) 0 (-1), some ⟨w4.heap.size, 0, none⟩, 1)) (fun y hy _ => by cases hy; exact hw4)
        have HGN := hidd (gn_map HG.out (x := (repG (k : Int) 0 (-1), some ⟨w4.heap.size, 0, none⟩, 1)) (gn_rep k 0 (-1)))
        have HP := hidd p6
        clear ha p5 g5 f6 p6 c0 c1 c2 c3 c4 c5
        go_wp2
        have hnl : ns'.length = l'.length := by have := HG.out.1; rw [List.length_map] at this; exact this.symm
        refine ⟨⟨l'.length, (j + 1), ns' ++ [ndRep k 0 (-1)], v6, _, rfl, ?_, by omega, by omega, HP.out, HGN.out, g6, by rw [List.length_append, List.length_singleton]; omega⟩, ?_⟩
        · rw [HRUN.out, ← hnl]
          exact HRR.out
        · have e6 := HP.out.pr.atOf
          rw [e6, hao.out]
          omega
      by_cases q2 : c = 43
      · subst q2
        -- one of the signs 43, bounds 1 (-1)
        have hv : s[j].toNat = 43 := by rw [← at_get hlt]; exact hc
        have hrep : repAt (bs s) j = true := by unfold repAt; simp only [is_of (hbj : j < (bs s).length), hc]; rfl
        have hrr : run (bs s) ⟨j, ns', st, aa, I ++ [k]⟩ = _ := run_repet hbj hrep
        have hre : repet (bs s) j = .ok ((1, (-1)), j + 1) := by unfold repet; rw [hc]; rfl
        rw [hre] at hrr
        have HRR : Hid (run (bs s) ⟨j, ns', st, aa, I ++ [k]⟩ = run (bs s) ⟨j + 1, ns' ++ [ndRep k 1 (-1)], st, aa, I ++ [ns'.length]⟩) := hrr
        clear hrr hre hrep hc hbj
        go_quiet (fail)
        have R4 := (p2.pr.drewN nq).atTo ((j : Int) + 1)
        have T4 := ((Touch.refl b b w2).drewN nq).set1 1 (.int .i64 ((j : Int) + 1))
        have HR4 : Hid (QR ((w2.drewN nq).setCell ⟨b, 1, none⟩ (.int .i64 ((j : Int) + 1))) b s ((j + 1 : Nat) : Int) v' (st.length : Int)) := by
          show QR _ _ _ _ _ _
          rw [show ((j + 1 : Nat) : Int) = (j : Int) + 1 from by omega]
          exact R4
        have p4 := p2.read T4 HR4.out
        have g4 := g2.read T4
        clear R4 HR4 p2 g2
        clear T4
        go_upto_region 16 with fail
        generalize (w2.drewN nq).setCell ⟨b, 1, none⟩ (.int .i64 ((j : Int) + 1)) = w4 at *
        clear c0 c1 c2 c3 c4 c5 ht hv
        -- the repetition's node: in world w4, reader p4 at (j + 1), all so far g4, bounds 1 (-1)
        have p5 := p4.alloc (.cells #[.int .i64 (k : Int)] 3)
        have g5 := g4.read ((Touch.refl b b w4).alloc (.cells #[.int .i64 (k : Int)] 3))
        have hq := p4.pr.lt
        have hqv := p4.own.lt
        have hk5 : Kid (w4.alloc (.cells #[.int .i64 (k : Int)] 3)) b v' (repG (k : Int) 1 (-1), some ⟨w4.heap.size, 0, none⟩, 1) := fun _ => ⟨w4.heap.size, 0, rfl, by simp, by omega, fun e => by have := (hqv _ e).2; omega, fun t ht => by
          have ht0 : t = 0 := by simp [repG] at ht; exact ht
          subst ht0
          rw [World.cell?_alloc_new]
          rfl⟩
        have hl5 : l'.length ≤ 100000 := by omega
        have ha := Ad.add_any p5 (repG (k : Int) 1 (-1)) (some ⟨w4.heap.size, 0, none⟩) 1 hk5 hl5
        rw [rep_lit] at ha
        have hw4 := g4.fr.size
        obtain ⟨c0, c1, c2, c3, c4, c5⟩ := p4.pr.cells
        clear p4 hk5 g4 hq hqv
        go_wp2_with fail
        generalize w4.alloc (.cells #[.int .i64 (k : Int)] 3) = w5 at *
        refine ha.mono ?_
        rintro e w6 ⟨rfl, v6, p6, f6⟩
        have g6 := g5.add f6 (x := (repG (k : Int) 1 (-1), some ⟨w4.heap.size, 0, none⟩, 1)) (fun y hy _ => by cases hy; exact hw4)
        have HGN := hidd (gn_map HG.out (x := (repG (k : Int) 1 (-1), some ⟨w4.heap.size, 0, none⟩, 1)) (gn_rep k 1 (-1)))
        have HP := hidd p6
        clear ha p5 g5 f6 p6 c0 c1 c2 c3 c4 c5
        go_wp2
        have hnl : ns'.length = l'.length := by have := HG.out.1; rw [List.length_map] at this; exact this.symm
        refine ⟨⟨l'.length, (j + 1), ns' ++ [ndRep k 1 (-1)], v6, _, rfl, ?_, by omega, by omega, HP.out, HGN.out, g6, by rw [List.length_append, List.length_singleton]; omega⟩, ?_⟩
        · rw [HRUN.out, ← hnl]
          exact HRR.out
        · have e6 := HP.out.pr.atOf
          rw [e6, hao.out]
          omega
      by_cases q3 : c = 63
      · subst q3
        -- one of the signs 63, bounds 0 1
        have hv : s[j].toNat = 63 := by rw [← at_get hlt]; exact hc
        have hrep : repAt (bs s) j = true := by unfold repAt; simp only [is_of (hbj : j < (bs s).length), hc]; rfl
        have hrr : run (bs s) ⟨j, ns', st, aa, I ++ [k]⟩ = _ := run_repet hbj hrep
        have hre : repet (bs s) j = .ok ((0, 1), j + 1) := by unfold repet; rw [hc]; rfl
        rw [hre] at hrr
        have HRR : Hid (run (bs s) ⟨j, ns', st, aa, I ++ [k]⟩ = run (bs s) ⟨j + 1, ns' ++ [ndRep k 0 1], st, aa, I ++ [ns'.length]⟩) := hrr
        clear hrr hre hrep hc hbj
        go_quiet (fail)
        have R4 := (p2.pr.drewN nq).atTo ((j : Int) + 1)
        have T4 := ((Touch.refl b b w2).drewN nq).set1 1 (.int .i64 ((j : Int) + 1))
        have HR4 : Hid (QR ((w2.drewN nq).setCell ⟨b, 1, none⟩ (.int .i64 ((j : Int) + 1))) b s ((j + 1 : Nat) : Int) v' (st.length : Int)) := by
          show QR _ _ _ _ _ _
          rw [show ((j + 1 : Nat) : Int) = (j : Int) + 1 from by omega]
          exact R4
        have p4 := p2.read T4 HR4.out
        have g4 := g2.read T4
        clear R4 HR4 p2 g2
        clear T4
        go_upto_region 16 with fail
        generalize (w2.drewN nq).setCell ⟨b, 1, none⟩ (.int .i64 ((j : Int) + 1)) = w4 at *
        clear c0 c1 c2 c3 c4 c5 ht hv
        -- the repetition's node: in world w4, reader p4 at (j + 1), all so far g4, bounds 0 1
        have p5 := p4.alloc (.cells #[.int .i64 (k : Int)] 3)
        have g5 := g4.read ((Touch.refl b b w4).alloc (.cells #[.int .i64 (k : Int)] 3))
        have hq := p4.pr.lt
        have hqv := p4.own.lt
        have hk5 : Kid (w4.alloc (.cells #[.int .i64 (k : Int)] 3)) b v' (repG (k : Int) 0 1, some ⟨w4.heap.size, 0, none⟩, 1) := fun _ => ⟨w4.heap.size, 0, rfl, by simp, by omega, fun e => by have := (hqv _ e).2; omega, fun t ht => by
          have ht0 : t = 0 := by simp [repG] at ht; exact ht
          subst ht0
          rw [World.cell?_alloc_new]
          rfl⟩
        have hl5 : l'.length ≤ 100000 := by omega
        have ha := Ad.add_any p5 (repG (k : Int) 0 1) (some ⟨w4.heap.size, 0, none⟩) 1 hk5 hl5
        rw [rep_lit] at ha
        have hw4 := g4.fr.size
        obtain ⟨c0, c1, c2, c3, c4, c5⟩ := p4.pr.cells
        clear p4 hk5 g4 hq hqv
        go_wp2_with fail
        generalize w4.alloc (.cells #[.int .i64 (k : Int)] 3) = w5 at *
        refine ha.mono ?_
        rintro e w6 ⟨rfl, v6, p6, f6⟩
        have g6 := g5.add f6 (x := (repG (k : Int) 0 1, some ⟨w4.heap.size, 0, none⟩, 1)) (fun y hy _ => by cases hy; exact hw4)
        have HGN := hidd (gn_map HG.out (x := (repG (k : Int) 0 1, some ⟨w4.heap.size, 0, none⟩, 1)) (gn_rep k 0 1))
        have HP := hidd p6
        clear ha p5 g5 f6 p6 c0 c1 c2 c3 c4 c5
        go_wp2
        have hnl : ns'.length = l'.length := by have := HG.out.1; rw [List.length_map] at this; exact this.symm
        refine ⟨⟨l'.length, (j + 1), ns' ++ [ndRep k 0 1], v6, _, rfl, ?_, by omega, by omega, HP.out, HGN.out, g6, by rw [List.length_append, List.length_singleton]; omega⟩, ?_⟩
        · rw [HRUN.out, ← hnl]
          exact HRR.out
        · have e6 := HP.out.pr.atOf
          rw [e6, hao.out]
          omega
      by_cases q4 : c = 123
      · subst q4
        have hv : s[j].toNat = 123 := by rw [← at_get hlt]; exact hc
        have hd1 := (HS.out.br j hlt hc).resolve_right (fun q => by omega)
        obtain ⟨hl1, hd1b⟩ := dig_at hd1
        rw [HBL.out] at hl1
        have hrep : repAt (bs s) j = true := by unfold repAt; simp only [is_of (hbj : j < (bs s).length), hc, hd1]; rfl
        have hrr : run (bs s) ⟨j, ns', st, aa, I ++ [k]⟩ = _ := run_repet hbj hrep
        have hre : repet (bs s) j = bounds (bs s) j := by unfold repet; rw [hc]; rfl
        rw [hre] at hrr
        obtain ⟨lo, hi2, j2, hbb⟩ : ∃ lo hi2 j2, bounds (bs s) j = .ok ((lo, hi2), j2) := by
          cases hb : bounds (bs s) j with
          | error x => rw [hb] at hrr; exact (HO.out.to HRUN.out).no hrr
          | ok x => exact ⟨x.1.1, x.1.2, x.2, rfl⟩
        rw [hbb] at hrr
        have HRR : Hid (run (bs s) ⟨j, ns', st, aa, I ++ [k]⟩ = run (bs s) ⟨j2, ns' ++ [ndRep k lo hi2], st, aa, I ++ [ns'.length]⟩) := hrr
        have hj2 := bounds_ok hbb
        rw [HBL.out] at hj2
        obtain ⟨j1, hj1⟩ : ∃ j1, j1 = j + 1 := ⟨_, rfl⟩
        have hj1i : (j : Int) + 1 = (j1 : Int) := by omega
        have hj1s : (j1 : Int) < (s.size : Int) := by omega
        have hj1n : j1 < s.size := by omega
        have hD : ∀ u : World, Calls Try.prog 79 #[.int .u8 ((s[j1].toNat : Nat) : Int)] u fun e w' => e = .returned (.bool true) ∧ w' = u := fun u => by
          have := rdigit_any s[j1].toNat u
          rw [← at_get hj1n, hj1, hd1b] at this
          rw [← at_get hj1n, hj1]
          exact this
        have HBB := hidd hbb
        have HD1 := hidd hd1
        clear hrr hre hrep hc hbj hbb hd1 hd1b hj1
        go_quiet (fail)
        have p3 := p2.read ((Touch.refl b b w2).drewN nq) (p2.pr.drewN nq)
        have g3 := g2.read ((Touch.refl b b w2).drewN nq)
        clear c0 c1 c2 c3 c4 c5 ht p2 g2
        generalize w2.drewN nq = w3 at *
        obtain ⟨c0, c1, c2, c3, c4, c5⟩ := p3.pr.cells
        go_wp2_with fail
        go_quiet ((go_at_call 79; exact Calls.quiet_of_same (hD _)))
        have p3b := p3.read ((Touch.refl b b w3).drewN nq) (p3.pr.drewN nq)
        have g3b := g3.read ((Touch.refl b b w3).drewN nq)
        clear c0 c1 c2 c3 c4 c5 p3 g3 hD
        generalize w3.drewN nq = w3b at *
        go_wp2_with fail
        refine (rbounds_any HS.out p3b.pr HD1.out HBB.out).mono ?_
        rintro e w4 ⟨rfl, R4, T4⟩
        have p4 := p3b.read T4 R4
        have g4 := g3b.read T4
        clear p3b g3b R4 T4
        -- the repetition's node: in world w4, reader p4 at j2, all so far g4, bounds lo hi2
        have p5 := p4.alloc (.cells #[.int .i64 (k : Int)] 3)
        have g5 := g4.read ((Touch.refl b b w4).alloc (.cells #[.int .i64 (k : Int)] 3))
        have hq := p4.pr.lt
        have hqv := p4.own.lt
        have hk5 : Kid (w4.alloc (.cells #[.int .i64 (k : Int)] 3)) b v' (repG (k : Int) lo hi2, some ⟨w4.heap.size, 0, none⟩, 1) := fun _ => ⟨w4.heap.size, 0, rfl, by simp, by omega, fun e => by have := (hqv _ e).2; omega, fun t ht => by
          have ht0 : t = 0 := by simp [repG] at ht; exact ht
          subst ht0
          rw [World.cell?_alloc_new]
          rfl⟩
        have hl5 : l'.length ≤ 100000 := by omega
        have ha := Ad.add_any p5 (repG (k : Int) lo hi2) (some ⟨w4.heap.size, 0, none⟩) 1 hk5 hl5
        rw [rep_lit] at ha
        have hw4 := g4.fr.size
        obtain ⟨c0, c1, c2, c3, c4, c5⟩ := p4.pr.cells
        clear p4 hk5 g4 hq hqv
        go_wp2_with fail
        generalize w4.alloc (.cells #[.int .i64 (k : Int)] 3) = w5 at *
        refine ha.mono ?_
        rintro e w6 ⟨rfl, v6, p6, f6⟩
        have g6 := g5.add f6 (x := (repG (k : Int) lo hi2, some ⟨w4.heap.size, 0, none⟩, 1)) (fun y hy _ => by cases hy; exact hw4)
        have HGN := hidd (gn_map HG.out (x := (repG (k : Int) lo hi2, some ⟨w4.heap.size, 0, none⟩, 1)) (gn_rep k lo hi2))
        have HP := hidd p6
        clear ha p5 g5 f6 p6 c0 c1 c2 c3 c4 c5
        go_wp2
        have hnl : ns'.length = l'.length := by have := HG.out.1; rw [List.length_map] at this; exact this.symm
        refine ⟨⟨l'.length, j2, ns' ++ [ndRep k lo hi2], v6, _, rfl, ?_, by omega, by omega, HP.out, HGN.out, g6, by rw [List.length_append, List.length_singleton]; omega⟩, ?_⟩
        · rw [HRUN.out, ← hnl]
          exact HRR.out
        · have e6 := HP.out.pr.atOf
          rw [e6, hao.out]
          omega
      · have hv : s[j].toNat = c := by rw [← at_get hlt]; exact hc
        have hrep : repAt (bs s) j = false := by
          unfold repAt
          simp only [is_of (hbj : j < (bs s).length), hc]
          simp [q1, q2, q3, q4]
        have n42 : ((c : Int) == 42) = false := by simp; omega
        have n43 : ((c : Int) == 43) = false := by simp; omega
        have n63 : ((c : Int) == 63) = false := by simp; omega
        have n123 : ((c : Int) == 123) = false := by simp; omega
        have HREP := hidd hrep
        clear hrep hc hbj q1 q2 q3 q4
        go_quiet (fail)
        have p3 := p2.read ((Touch.refl b b w2).drewN nq) (p2.pr.drewN nq)
        have g3 := g2.read ((Touch.refl b b w2).drewN nq)
        clear c0 c1 c2 c3 c4 c5 ht p2 g2
        generalize w2.drewN nq = w3 at *
        go_wp2_with fail
        go_quiet (fail)
        have HP := hidd (p3.read ((Touch.refl b b w3).drewN nq) (p3.pr.drewN nq))
        have HGo := hidd (g3.read ((Touch.refl b b w3).drewN nq))
        clear p3 g3
        generalize w3.drewN nq = w4 at *
        go_wp2
        go_ret
        exact ⟨k, j, ns', v', l', rfl, HRUN.out, hij, hj, HP.out, HG.out, HGo.out, hlen, HREP.out⟩
    · have hje : j = s.size := by omega
      have hrep : repAt (bs s) j = false := by
        cases h : repAt (bs s) j with
        | false => rfl
        | true => have := rep_lt h; rw [HBL.out] at this; omega
      have HREP := hidd hrep
      have hE := ends_yes p1.pr hje
      clear hrep hje hge
      go_wp2_with fail
      refine hE.mono ?_
      rintro e w2 ⟨rfl, m2, rfl⟩
      have HP := hidd (p1.read ((Touch.refl b b wr).drewN m2) (p1.pr.drewN m2))
      have HGo := hidd (g1.read ((Touch.refl b b wr).drewN m2))
      clear p1 g1 hE
      generalize wr.drewN m2 = w4 at *
      go_wp2
      go_ret
      exact ⟨k, j, ns', v', l', rfl, HRUN.out, hij, hj, HP.out, HG.out, HGo.out, hlen, HREP.out⟩
end
end Go.Proofs.Ytahhiajliomcfaa.Sy.Rf

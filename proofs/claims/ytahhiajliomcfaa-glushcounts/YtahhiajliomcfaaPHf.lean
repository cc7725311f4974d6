/- The reference's reader, of patterns that are right: a row, an alternative, the whole. -/
import Derived.Test.YtahhiajliomcfaaPHe
import Derived.Test.YtahhiajliomcfaaPM4
namespace Go.Proofs.Ytahhiajliomcfaa.Sy.Rf
open Go.RowKit
set_option maxRecDepth 100000
set_option linter.unusedVariables false
section
variable {w w' w1 : World} {b : Nat} {s : ByteArray} {v v1 : Value} {l l1 : List NR} {i : Nat} {ns : List Nd} {st : List (List Nat × List Nat)} {aa I : List Nat} {d : Int}
/-- Reading a row while it goes on. -/
def RoR (w : World) (b : Nat) (s : ByteArray) (v : Value) (l : List NR) (i : Nat) (ns : List Nd) (st : List (List Nat × List Nat)) (aa : List Nat) (s3 : Value) (wr : World) : Prop :=
  ∃ (xs : List Nat) (j : Nat) (ns' : List Nd) (v' : Value) (l' : List NR), Loc w wr b v' l' s3 xs ∧ run (bs s) ⟨i, ns, st, aa, []⟩ = run (bs s) ⟨j, ns', st, aa, xs⟩ ∧ i ≤ j ∧ j ≤ s.size ∧ xs.length + i ≤ j ∧ (xs = [] ∨ repAt (bs s) j = false) ∧
    QS wr b s (j : Int) (st.length : Int) v' l' ∧ GN (l'.map (·.1)) ns' ∧ Goes b v l v' l' w wr ∧ l'.length + 2 * i ≤ l.length + 2 * j
theorem loc_first {w0 : World} {k : Nat} (L : Loc w0 w b v l v1 [k]) : ∃ g c, v1 = .slice (some ⟨g, 0, none⟩) 1 c ∧ w.cell? ⟨g, 0, none⟩ = some (.int .i64 (k : Int)) := by
  obtain ⟨g, c, h1, -, hk⟩ := L.kid 3 (by simp)
  obtain ⟨q, off, h2, -, -, -, h3⟩ := hk (by simp [catG])
  cases h2
  exact ⟨g, c, h1, h3 0 (by simp [catG])⟩
set_option maxHeartbeats 4000000 in
theorem row_any {n : Nat} (hA : AltC n) (hS : Smp s) (hO : Okr s ⟨i, ns, st, aa, []⟩) (hn : s.size - i < n + 1) (p : QS w b s (i : Int) (st.length : Int) v l) (hg : GN (l.map (·.1)) ns) (hi : i ≤ s.size) (hst : st.length ≤ 64) (hl : l.length ≤ 2 * i) :
    Calls Try.prog 74 #[.pointer (some ⟨b, 0, none⟩)] w fun e w' => RowR w b s v l i ns st aa e w' := by
  obtain ⟨i0, hi0, hz0, hz1, hz2⟩ := info_parts int_info
  have HBL := hidd (bs_len s)
  have hs := hS.sz
  have HS := hidd hS
  have HO := hidd hO
  have HA := hidd hA
  have hst0 : RoR w b s v l i ns st aa (.slice none 0 0) w := ⟨[], i, ns, v, l, loc_nil _ _ _ _ _, rfl, Nat.le_refl _, hi, by simp, .inl rfl, p, hg, Goes.refl _ _ _ _, Nat.le_refl _⟩
  have HS0 := hidd hst0
  clear hst0 p hg hi hA hS hO
  go_enter Try.func74, Try.ntmps74
  go_wp2
  go_loopw [3] (fun s3 wr => RoR w b s v l i ns st aa s3 wr) (fun _ wr => s.size - atOf wr b)
  case atStart => exact HS0.out
  case round =>
    clear HS0
    obtain ⟨xs, j, ns', v', l', L1, hrun, hij, hj, hxj, hnr, p1, hgn, g1, hlen⟩ := hrel
    have HRUN := hidd hrun
    have HG := hidd hgn
    have HNR := hidd hnr
    have hao : Hid (atOf wr b = j) := p1.pr.atOf
    clear hrun hgn hnr
    obtain ⟨c0, c1, c2, c3, c4, c5⟩ := p1.pr.cells
    rcases Nat.lt_or_ge j s.size with hlt | hge
    · have hE := fun m => ends_no (i := j) (p1.pr.drewN m) hlt
      have hji : (j : Int) < (s.size : Int) := by omega
      obtain ⟨c, hc⟩ : ∃ c, at_ (bs s) j = c := ⟨_, rfl⟩
      by_cases q1 : c = 124
      · subst q1
        have hv : s[j].toNat = 124 := by rw [← at_get hlt]; exact hc
        have HEND : Hid (j < s.size → at_ (bs s) j = 124 ∨ at_ (bs s) j = 41) := fun _ => by rw [hc]; exact .inl rfl
        clear hc
        go_wp2_with fail
        go_quiet ((go_at_call 66; exact Calls.quiet_of (hE _)))
        have p3 := p1.read ((Touch.refl b b wr).drewN nq) (p1.pr.drewN nq)
        have g3 := g1.read ((Touch.refl b b wr).drewN nq)
        have L3 := L1.read ((Touch.refl b b wr).drewN nq)
        clear p1 g1 L1 hE c0 c1 c2 c3 c4 c5 hv
        generalize wr.drewN nq = w3 at *
        -- in world w3: p3, g3, L3 : Loc .. xs, HRUN, HG, HEND
        have hnl := gn_len HG.out
        obtain ⟨c0, c1, c2, c3, c4, c5⟩ := p3.pr.cells
        rcases Nat.lt_or_ge xs.length 1 with hx | hx
        · have hxe : xs = [] := List.eq_nil_of_length_eq_zero (by omega)
          subst hxe
          obtain ⟨A, c, rfl⟩ := own_form L3.own
          have ha := Ad.add_any p3 emptyG none 0 (fun h => absurd rfl h) (by omega)
          rw [empty_lit] at ha
          clear L3
          go_wp2_with fail
          refine ha.mono ?_
          rintro e w6 ⟨rfl, v6, p6, f6⟩
          have g6 := g3.add f6 (x := (emptyG, none, 0)) (fun y hy _ => by cases hy)
          have HP := hidd p6
          clear ha p6 f6 c0 c1 c2 c3 c4 c5
          go_wp2
          go_ret
          exact ⟨l'.length, j, ns', [], ns' ++ [ndEmpty], v6, _, rfl, HRUN.out, by rw [← hnl]; rfl, hij, hj, HEND.out, HP.out, gn_map HG.out gn_empty, g6, by rw [List.length_append, List.length_singleton]; omega⟩
        · rcases Nat.lt_or_ge xs.length 2 with hx2 | hx2
          · obtain ⟨k, hxe⟩ : ∃ k, xs = [k] := by
              match xs, hx, hx2 with
              | [k], _, _ => exact ⟨k, rfl⟩
            subst hxe
            obtain ⟨g, c, rfl, hcell⟩ := loc_first L3
            clear L3
            have HP := hidd p3
            clear p3
            go_wp2
            go_ret
            exact ⟨k, j, ns', [k], ns', v', l', rfl, HRUN.out, rfl, hij, hj, HEND.out, HP.out, HG.out, g3, by omega⟩
          · obtain ⟨g, c, h1, hg, hk⟩ := L3.kid 3 (by omega)
            have ha := Ad.add_any p3 _ _ c hk (by omega)
            rw [cat_lit] at ha
            subst h1
            rw [List.length_map] at ha
            have HMK := hidd (mkRow_many (ns := ns') hx2)
            have n0 : ((xs.length : Int) == 0) = false := beq_eq_false_iff_ne.2 (by omega)
            have n1 : ((xs.length : Int) == 1) = false := beq_eq_false_iff_ne.2 (by omega)
            clear L3 hk
            generalize hxl : xs.length = xl at *
            go_wp2_with fail
            refine ha.mono ?_
            rintro e w6 ⟨rfl, v6, p6, f6⟩
            have g6 := g3.add f6 (x := (catG 3 (xs.map fun k : Nat => (k : Int)), some ⟨g, 0, none⟩, c)) (fun y hy _ => by cases hy; exact hg)
            have HP := hidd p6
            clear ha p6 f6 c0 c1 c2 c3 c4 c5
            go_wp2
            go_ret
            exact ⟨l'.length, j, ns', xs, ns' ++ [ndCat xs], v6, _, rfl, HRUN.out, by rw [HMK.out, hnl], hij, hj, HEND.out, HP.out, gn_map HG.out (gn_cat xs), g6, by rw [List.length_append, List.length_singleton]; omega⟩
      by_cases q2 : c = 41
      · subst q2
        have hv : s[j].toNat = 41 := by rw [← at_get hlt]; exact hc
        have HEND : Hid (j < s.size → at_ (bs s) j = 124 ∨ at_ (bs s) j = 41) := fun _ => by rw [hc]; exact .inr rfl
        clear hc
        go_wp2_with fail
        go_quiet ((go_at_call 66; exact Calls.quiet_of (hE _)))
        have p3 := p1.read ((Touch.refl b b wr).drewN nq) (p1.pr.drewN nq)
        have g3 := g1.read ((Touch.refl b b wr).drewN nq)
        have L3 := L1.read ((Touch.refl b b wr).drewN nq)
        clear p1 g1 L1 hE c0 c1 c2 c3 c4 c5 hv
        generalize wr.drewN nq = w3 at *
        -- in world w3: p3, g3, L3 : Loc .. xs, HRUN, HG, HEND
        have hnl := gn_len HG.out
        obtain ⟨c0, c1, c2, c3, c4, c5⟩ := p3.pr.cells
        rcases Nat.lt_or_ge xs.length 1 with hx | hx
        · have hxe : xs = [] := List.eq_nil_of_length_eq_zero (by omega)
          subst hxe
          obtain ⟨A, c, rfl⟩ := own_form L3.own
          have ha := Ad.add_any p3 emptyG none 0 (fun h => absurd rfl h) (by omega)
          rw [empty_lit] at ha
          clear L3
          go_wp2_with fail
          refine ha.mono ?_
          rintro e w6 ⟨rfl, v6, p6, f6⟩
          have g6 := g3.add f6 (x := (emptyG, none, 0)) (fun y hy _ => by cases hy)
          have HP := hidd p6
          clear ha p6 f6 c0 c1 c2 c3 c4 c5
          go_wp2
          go_ret
          exact ⟨l'.length, j, ns', [], ns' ++ [ndEmpty], v6, _, rfl, HRUN.out, by rw [← hnl]; rfl, hij, hj, HEND.out, HP.out, gn_map HG.out gn_empty, g6, by rw [List.length_append, List.length_singleton]; omega⟩
        · rcases Nat.lt_or_ge xs.length 2 with hx2 | hx2
          · obtain ⟨k, hxe⟩ : ∃ k, xs = [k] := by
              match xs, hx, hx2 with
              | [k], _, _ => exact ⟨k, rfl⟩
            subst hxe
            obtain ⟨g, c, rfl, hcell⟩ := loc_first L3
            clear L3
            have HP := hidd p3
            clear p3
            go_wp2
            go_ret
            exact ⟨k, j, ns', [k], ns', v', l', rfl, HRUN.out, rfl, hij, hj, HEND.out, HP.out, HG.out, g3, by omega⟩
          · obtain ⟨g, c, h1, hg, hk⟩ := L3.kid 3 (by omega)
            have ha := Ad.add_any p3 _ _ c hk (by omega)
            rw [cat_lit] at ha
            subst h1
            rw [List.length_map] at ha
            have HMK := hidd (mkRow_many (ns := ns') hx2)
            have n0 : ((xs.length : Int) == 0) = false := beq_eq_false_iff_ne.2 (by omega)
            have n1 : ((xs.length : Int) == 1) = false := beq_eq_false_iff_ne.2 (by omega)
            clear L3 hk
            generalize hxl : xs.length = xl at *
            go_wp2_with fail
            refine ha.mono ?_
            rintro e w6 ⟨rfl, v6, p6, f6⟩
            have g6 := g3.add f6 (x := (catG 3 (xs.map fun k : Nat => (k : Int)), some ⟨g, 0, none⟩, c)) (fun y hy _ => by cases hy; exact hg)
            have HP := hidd p6
            clear ha p6 f6 c0 c1 c2 c3 c4 c5
            go_wp2
            go_ret
            exact ⟨l'.length, j, ns', xs, ns' ++ [ndCat xs], v6, _, rfl, HRUN.out, by rw [HMK.out, hnl], hij, hj, HEND.out, HP.out, gn_map HG.out (gn_cat xs), g6, by rw [List.length_append, List.length_singleton]; omega⟩
      · have h124 : at_ (bs s) j ≠ 124 := by rw [hc]; exact q1
        have h41 : at_ (bs s) j ≠ 41 := by rw [hc]; exact q2
        have hv : s[j].toNat = c := by rw [← at_get hlt]; exact hc
        have n124 : ((c : Int) != 124) = true := by simp; omega
        have n41 : ((c : Int) != 41) = true := by simp; omega
        have H124 := hidd h124
        have H41 := hidd h41
        clear hc q1 q2 h124 h41
        go_wp2_with fail
        go_quiet ((go_at_call 66; exact Calls.quiet_of (hE _)))
        have p3 := p1.read ((Touch.refl b b wr).drewN nq) (p1.pr.drewN nq)
        have g3 := g1.read ((Touch.refl b b wr).drewN nq)
        have L3 := L1.read ((Touch.refl b b wr).drewN nq)
        clear p1 g1 L1 hE c0 c1 c2 c3 c4 c5 hv n124 n41
        generalize wr.drewN nq = w3 at *
        go_wp2_with fail
        refine (item_any (aa := aa) (I := xs) HA.out HS.out (HO.out.to HRUN.out) (by omega) p3 HG.out hlt hst (by omega) H124.out H41.out HNR.out).mono ?_
        rintro e w4 ⟨k, j4, ns4, v4, l4, rfl, hrun4, hij4, hj4, p4, hgn4, g4, hlen4, hrep4⟩
        have HRUN4 := hidd hrun4
        have HG4 := hidd hgn4
        have HREP := hidd hrep4
        have L4 := L3.goes g4
        have g14 := g3.trans g4
        clear hrun4 hgn4 hrep4 L3 g3 g4 p3 H124 H41 HNR
        have p5 := p4.alloc (.cells #[.int .i64 (k : Int)] 3)
        have L5 := L4.read ((Touch.refl b b w4).alloc (.cells #[.int .i64 (k : Int)] 3))
        have g5 := g14.read ((Touch.refl b b w4).alloc (.cells #[.int .i64 (k : Int)] 3))
        have hnews := int_news w4 (k : Int)
        have hz5 : (w4.alloc (.cells #[.int .i64 (k : Int)] 3)).heap.size = w4.heap.size + 1 := World.size_alloc ..
        have hown := L5.own
        have hw5 : w.heap.size ≤ w4.heap.size + 1 := by have := g14.fr.size; omega
        clear p4 L4 g14
        go_wp2_with (at_builtin; refine wpList_append_lies _ rfl _ _ _ rfl 0 3 i0 (.int .i64 0) 1 8 Try.underlying23 hi0 hz0 hz1 hz2 rfl (by omega) _ xs.length (i64s xs) rfl hown ⟨w4.heap.size, 0, none⟩ 1 1 [.int .i64 (k : Int)] rfl rfl hnews (by simp [Value.oneCell']) (by omega) (by simp only [maxLen]; omega) (by omega) (Nat.zero_le _) (w4.heap.size + 1) hz5 ?_; intro g cap w6 hown6 hgrow hat hlt6; refine Hid.out ?_)
        have p6 := p5.grown L5 hgrow
        have g6 := Rf.Goes.grown g5 L5 hgrow
        have L6 := L5.push p5 hz5 hw5 hown6 hat
        clear hown6 hgrow hat hlt6 p5 L5 g5 hnews hz5 hown hw5
        have HP := hidd p6
        have HL := hidd L6
        have HGo := hidd g6
        clear p6 L6 g6
        refine Lib.hid ?_
        go_wp2
        refine ⟨⟨xs ++ [k], j4, ns4, v4, l4, HL.out, HRUN.out.trans HRUN4.out, by omega, hj4, by rw [List.length_append, List.length_singleton]; omega, .inr HREP.out, HP.out, HG4.out, HGo.out, by omega⟩, ?_⟩
        rw [HP.out.pr.atOf, hao.out]
        omega
    · have hje : j = s.size := by omega
      have hE := fun m => ends_yes (p1.pr.drewN m) hje
      have HEND : Hid (j < s.size → at_ (bs s) j = 124 ∨ at_ (bs s) j = 41) := fun h => by omega
      clear hje hge
      go_wp2_with fail
      go_quiet ((go_at_call 66; exact Calls.quiet_of (hE _)))
      have p3 := p1.read ((Touch.refl b b wr).drewN nq) (p1.pr.drewN nq)
      have g3 := g1.read ((Touch.refl b b wr).drewN nq)
      have L3 := L1.read ((Touch.refl b b wr).drewN nq)
      clear p1 g1 L1 hE c0 c1 c2 c3 c4 c5
      generalize wr.drewN nq = w3 at *
      -- in world w3: p3, g3, L3 : Loc .. xs, HRUN, HG, HEND
      have hnl := gn_len HG.out
      obtain ⟨c0, c1, c2, c3, c4, c5⟩ := p3.pr.cells
      rcases Nat.lt_or_ge xs.length 1 with hx | hx
      · have hxe : xs = [] := List.eq_nil_of_length_eq_zero (by omega)
        subst hxe
        obtain ⟨A, c, rfl⟩ := own_form L3.own
        have ha := Ad.add_any p3 emptyG none 0 (fun h => absurd rfl h) (by omega)
        rw [empty_lit] at ha
        clear L3
        go_wp2_with fail
        refine ha.mono ?_
        rintro e w6 ⟨rfl, v6, p6, f6⟩
        have g6 := g3.add f6 (x := (emptyG, none, 0)) (fun y hy _ => by cases hy)
        have HP := hidd p6
        clear ha p6 f6 c0 c1 c2 c3 c4 c5
        go_wp2
        go_ret
        exact ⟨l'.length, j, ns', [], ns' ++ [ndEmpty], v6, _, rfl, HRUN.out, by rw [← hnl]; rfl, hij, hj, HEND.out, HP.out, gn_map HG.out gn_empty, g6, by rw [List.length_append, List.length_singleton]; omega⟩
      · rcases Nat.lt_or_ge xs.length 2 with hx2 | hx2
        · obtain ⟨k, hxe⟩ : ∃ k, xs = [k] := by
            match xs, hx, hx2 with
            | [k], _, _ => exact ⟨k, rfl⟩
          subst hxe
          obtain ⟨g, c, rfl, hcell⟩ := loc_first L3
          clear L3
          have HP := hidd p3
          clear p3
          go_wp2
          go_ret
          exact ⟨k, j, ns', [k], ns', v', l', rfl, HRUN.out, rfl, hij, hj, HEND.out, HP.out, HG.out, g3, by omega⟩
        · obtain ⟨g, c, h1, hg, hk⟩ := L3.kid 3 (by omega)
          have ha := Ad.add_any p3 _ _ c hk (by omega)
          rw [cat_lit] at ha
          subst h1
          rw [List.length_map] at ha
          have HMK := hidd (mkRow_many (ns := ns') hx2)
          have n0 : ((xs.length : Int) == 0) = false := beq_eq_false_iff_ne.2 (by omega)
          have n1 : ((xs.length : Int) == 1) = false := beq_eq_false_iff_ne.2 (by omega)
          clear L3 hk
          generalize hxl : xs.length = xl at *
          go_wp2_with fail
          refine ha.mono ?_
          rintro e w6 ⟨rfl, v6, p6, f6⟩
          have g6 := g3.add f6 (x := (catG 3 (xs.map fun k : Nat => (k : Int)), some ⟨g, 0, none⟩, c)) (fun y hy _ => by cases hy; exact hg)
          have HP := hidd p6
          clear ha p6 f6 c0 c1 c2 c3 c4 c5
          go_wp2
          go_ret
          exact ⟨l'.length, j, ns', xs, ns' ++ [ndCat xs], v6, _, rfl, HRUN.out, by rw [HMK.out, hnl], hij, hj, HEND.out, HP.out, gn_map HG.out (gn_cat xs), g6, by rw [List.length_append, List.length_singleton]; omega⟩
end
end Go.Proofs.Ytahhiajliomcfaa.Sy.Rf

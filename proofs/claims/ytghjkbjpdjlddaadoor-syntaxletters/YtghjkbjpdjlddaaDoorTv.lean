/- The landed parser: an alternative. -/
import Derived.Test.YtghjkbjpdjlddaaDoorTu
namespace Go.Proofs.YtghjkbjpdjlddaaDoor.Sy
open Go.RowKit
set_option maxRecDepth 100000
set_option linter.unusedVariables false

section
variable {w w' w1 : World} {b : Nat} {s : ByteArray} {v v1 : Value} {l l1 : List NR} {i : Nat} {ns : List Nd} {st : List (List Nat × List Nat)} {aa I : List Nat}
def one_if (xs : List Nat) : Nat := if xs = [] then 0 else 1
/-- Reading an alternative while it goes on. -/
def AlR (w : World) (b : Nat) (s : ByteArray) (v : Value) (l : List NR) (i : Nat) (ns : List Nd) (st : List (List Nat × List Nat)) (s4 : Value) (wr : World) : Prop :=
  ∃ (xs : List Nat) (j : Nat) (ns' : List Nd) (v' : Value) (l' : List NR), Loc w wr b v' l' s4 xs ∧ run (bs s) ⟨i, ns, st, [], []⟩ = run (bs s) ⟨j, ns', st, xs, []⟩ ∧ i ≤ j ∧ j ≤ s.size ∧ xs.length + i ≤ j ∧
    PS wr b s (j : Int) 0 0 (st.length : Int) v' l' ∧ GN (l'.map (·.1)) ns' ∧ Goes b v l v' l' w wr ∧ l'.length + 2 * i + one_if xs ≤ l.length + 2 * j
set_option maxHeartbeats 4000000 in
theorem alt_step {n : Nat} (hA : AltC n) : AltC (n + 1) := by
  intro w b s v l i ns st hn p hg hi hs hst hl
  obtain ⟨i0, hi0, hz0, hz1, hz2⟩ := info_parts int_info
  have HBL := hidd (bs_len s)
  have hst0 : AlR w b s v l i ns st (.slice none 0 0) w := ⟨[], i, ns, v, l, loc_nil _ _ _ _ _, rfl, Nat.le_refl _, hi, by simp, p, hg, Goes.refl _ _ _ _, Nat.le_refl _⟩
  have HS0 := hidd hst0
  clear hst0 p hg hi
  go_enter Tryd.func36, Tryd.ntmps36
  go_wp2
  go_loopw [4] (fun s4 wr => AlR w b s v l i ns st s4 wr) (fun _ wr => s.size + 1 - atOf wr b)
  case atStart => exact HS0.out
  case round =>
    clear HS0
    obtain ⟨xs, j, ns', v', l', L1, hrun, hij, hj, hxj, p1, hgn, g1, hlen⟩ := hrel
    have HRUN := hidd hrun
    have hao : Hid (atOf wr b = j) := p1.pr.atOf
    clear hrun
    have hl1 : l'.length ≤ 2 * j := by omega
    go_wp2_with fail
    refine (row_any (aa := xs) hA (by omega) p1 hgn hj hs hst hl1).mono ?_
    rintro e w4 hr
    clear hgn hl1
    rcases hr with ⟨k, j4, ns1, I1, ns4, v4, l4, rfl, hrun4, hmk, hij4, hj4, hend, p4, hgn4, g4, hlen4⟩ | ⟨k, x, pp, j4, v4, d4, rfl, hr, R4, f4⟩
    · have HRUN4 := hidd hrun4
      have HMK := hidd hmk
      have HG4 := hidd hgn4
      have HEND := hidd hend
      have L4 := L1.goes g4
      have g14 := g1.trans g4
      clear hrun4 hgn4 hmk hend L1 g1 g4 p1
      have p5 := p4.alloc (.cells #[.int .i64 (k : Int)] 3)
      have L5 := L4.read ((Touch.refl b b w4).alloc (.cells #[.int .i64 (k : Int)] 3))
      have g5 := g14.read ((Touch.refl b b w4).alloc (.cells #[.int .i64 (k : Int)] 3))
      have hnews := int_news w4 (k : Int)
      have hz5 : (w4.alloc (.cells #[.int .i64 (k : Int)] 3)).heap.size = w4.heap.size + 1 := World.size_alloc ..
      have hown := L5.own
      have hw5 : w.heap.size ≤ w4.heap.size + 1 := by have := g14.fr.size; omega
      clear p4 L4 g14
      go_wp2_with (at_builtin; refine wpList_append_lies _ rfl _ _ _ rfl 0 3 i0 (.int .i64 0) 1 8 Tryd.underlying25 hi0 hz0 hz1 hz2 rfl (by omega) _ xs.length (i64s xs) rfl hown ⟨w4.heap.size, 0, none⟩ 1 1 [.int .i64 (k : Int)] rfl rfl hnews (by simp [Value.oneCell']) (by omega) (by simp only [maxLen]; omega) (by omega) (Nat.zero_le _) (w4.heap.size + 1) hz5 ?_; intro g cap w6 hown6 hgrow hat hlt6; refine Hid.out ?_)
      have p6 := p5.grown L5 hgrow
      have g6 := g5.grown L5 hgrow
      have L6 := L5.push p5 hz5 hw5 hown6 hat
      clear hown6 hgrow hat hlt6 p5 L5 g5 hnews hz5 hown hw5
      refine Lib.hid ?_
      go_wp2_with fail
      refine (takes_any (c := 124) p6.pr hj4 (by omega)).mono ?_
      rintro e w7 ⟨rfl, R7, T7⟩
      have L7 := L6.read T7
      have g7 := g6.read T7
      cases hb : is (bs s) j4 124 with
      | true =>
        rw [hb] at R7
        have p7 := p6.read T7 R7
        obtain ⟨hb1, hb2⟩ := is_lt hb
        have HBAR : Hid (run (bs s) ⟨j4, ns1, st, xs, I1⟩ = run (bs s) ⟨j4 + 1, (mkRow ns1 I1).1, st, xs ++ [(mkRow ns1 I1).2], []⟩) := run_bar hb1 hb2
        rw [HBL.out] at hb1
        have HP := hidd p7
        have HL := hidd L7
        have HGo := hidd g7
        clear p6 L6 g6 R7 T7 p7 L7 g7 hb hb2
        go_wp2
        refine ⟨⟨xs ++ [k], j4 + 1, ns4, v4, l4, HL.out, ?_, by omega, hb1, by rw [List.length_append, List.length_singleton]; omega, HP.out, HG4.out, HGo.out, ?_⟩, ?_⟩
        · rw [HRUN.out, HRUN4.out, HBAR.out, HMK.out]
        · have : one_if (xs ++ [k]) = 1 := by unfold one_if; rw [if_neg (by simp)]
          omega
        · have e7 : atOf w7 b = j4 + 1 := HP.out.pr.atOf
          rw [e7, hao.out]
          omega
      | false =>
        rw [hb] at R7
        have p7 := p6.read T7 R7
        have hend : j4 < s.size → at_ (bs s) j4 = 41 := fun h => by
          rcases HEND.out h with h2 | h2
          · rw [is_of (by rw [HBL.out]; exact h), h2] at hb
            cases hb
          · exact h2
        have HE := hidd hend
        clear p6 L6 g6 R7 T7 hb hend HEND hao
        have hnl := gn_len HG4.out
        have hcl : close ns1 xs I1 = mkAlt ns4 (xs ++ [k]) := by unfold close; rw [HMK.out]
        have HCL := hidd hcl
        clear hcl
        by_cases hx : xs = []
        · subst hx
          have hjo := join_one L7 4 k rfl
          clear L7
          go_wp2_with fail
          refine hjo.mono ?_
          rintro e w8 ⟨rfl, rfl⟩
          clear hjo
          go_wp2
          go_ret2
          refine .inl ⟨k, j4, ns1, [], I1, ns4, v4, l4, rfl, by rw [HRUN.out, HRUN4.out], by rw [HCL.out]; rfl, by omega, hj4, HE.out, p7, HG4.out, g7, ?_⟩
          unfold one_if at hlen
          simp at hlen
          omega
        · have hx2 : 2 ≤ (xs ++ [k]).length := by
            rw [List.length_append, List.length_singleton]
            have : xs.length ≠ 0 := fun e => hx (List.eq_nil_of_length_eq_zero e)
            omega
          have hone : one_if xs = 1 := by unfold one_if; rw [if_neg hx]
          have hjo := join_more p7 L7 (by omega) 4 hx2 (by rw [List.length_append, List.length_singleton]; omega)
          have HMA := hidd (mkAlt_lots (ns := ns4) hx2)
          clear L7 hx hx2
          go_wp2_with fail
          refine hjo.mono ?_
          rintro e w8 ⟨rfl, v8, x8, p8, hx8, hb8, f8⟩
          have g8 := g7.add f8 hb8
          have HP := hidd p8
          have HX := hidd hx8
          clear hjo p8 f8 hx8
          go_wp2
          go_ret2
          exact .inl ⟨l4.length, j4, ns1, xs, I1, ns4 ++ [ndAlt (xs ++ [k])], v8, _, rfl, by rw [HRUN.out, HRUN4.out], by rw [HCL.out, HMA.out, hnl], by omega, hj4, HE.out, HP.out, gn_map HG4.out (by rw [HX.out]; exact gn_alt (xs ++ [k])), g8, by rw [List.length_append, List.length_singleton]; omega⟩
    · have HR := hidd hr
      clear hr
      go_wp2
      go_ret2
      exact .inr ⟨_, x, pp, j4, v4, d4, rfl, by rw [HRUN.out, HR.out], R4, g1.fr.trans f4⟩
theorem altC : ∀ n, AltC n
  | 0 => fun w b s v l i ns st hn => by omega
  | n + 1 => alt_step (altC n)
end

end Go.Proofs.YtghjkbjpdjlddaaDoor.Sy

/- The landed parser: a row. -/
import Derived.Test.YtghjkbjpdjlddaaDoorTt
namespace Go.Proofs.YtghjkbjpdjlddaaDoor.Sy
open Go.RowKit
set_option maxRecDepth 100000
set_option linter.unusedVariables false

section
variable {w w' w1 : World} {b : Nat} {s : ByteArray} {v v1 : Value} {l l1 : List NR} {i : Nat} {ns : List Nd} {st : List (List Nat × List Nat)} {aa I : List Nat}
/-- Reading a row while it goes on. -/
def RoR (w : World) (b : Nat) (s : ByteArray) (v : Value) (l : List NR) (i : Nat) (ns : List Nd) (st : List (List Nat × List Nat)) (aa : List Nat) (s4 : Value) (wr : World) : Prop :=
  ∃ (xs : List Nat) (j : Nat) (ns' : List Nd) (v' : Value) (l' : List NR), Loc w wr b v' l' s4 xs ∧ run (bs s) ⟨i, ns, st, aa, []⟩ = run (bs s) ⟨j, ns', st, aa, xs⟩ ∧ i ≤ j ∧ j ≤ s.size ∧ xs.length + i ≤ j ∧ (xs = [] ∨ repAt (bs s) j = false) ∧
    PS wr b s (j : Int) 0 0 (st.length : Int) v' l' ∧ GN (l'.map (·.1)) ns' ∧ Goes b v l v' l' w wr ∧ l'.length + 2 * i ≤ l.length + 2 * j
def emptyG : Gd := ⟨1, noB, [], 0, 0, ⟨#[]⟩⟩
theorem gn_empty : GN1 emptyG ndEmpty := ⟨rfl, fun _ _ => rfl, rfl, rfl, rfl, rfl⟩
theorem empty_lit : (gdL emptyG none 0).toArray = #[.int .u8 1, .int .u64 0, .int .u64 0, .int .u64 0, .int .u64 0, .slice none 0 0, .int .i64 0, .int .i64 0, .string { data := #[] }] := by
  simp only [gdL, emptyG, W_zero, List.length_nil]
theorem mkRow_many {ns : List Nd} {xs : List Nat} (h : 2 ≤ xs.length) : mkRow ns xs = (ns ++ [ndCat xs], ns.length) := by
  match xs, h with
  | x :: y :: r, _ => rfl
theorem mkAlt_lots {ns : List Nd} {xs : List Nat} (h : 2 ≤ xs.length) : mkAlt ns xs = (ns ++ [ndAlt xs], ns.length) := by
  match xs, h with
  | x :: y :: r, _ => rfl
theorem gn_len {l : List NR} {ns : List Nd} (h : GN (l.map (·.1)) ns) : ns.length = l.length := by have := h.1; rw [List.length_map] at this; exact this.symm
theorem int_news (w : World) (k : Int) : ∀ j u, ([.int .i64 k] : List Value)[j]? = some u → (w.alloc (.cells #[.int .i64 k] 3)).cell? ((⟨w.heap.size, 0, none⟩ : Addr).add j) = some u :=
  World.news_of_block (heap_alloc_new w _)

set_option maxHeartbeats 4000000 in
theorem row_any {n : Nat} (hA : AltC n) (hn : s.size - i < n + 1) (p : PS w b s (i : Int) 0 0 (st.length : Int) v l) (hg : GN (l.map (·.1)) ns) (hi : i ≤ s.size) (hs : s.size ≤ 1024) (hst : st.length ≤ 64) (hl : l.length ≤ 2 * i) :
    Calls Tryd.prog 55 #[.pointer (some ⟨b, 0, none⟩)] w fun e w' => RowR w b s v l i ns st aa e w' := by
  obtain ⟨i0, hi0, hz0, hz1, hz2⟩ := info_parts int_info
  have HBL := hidd (bs_len s)
  have hst0 : RoR w b s v l i ns st aa (.slice none 0 0) w := ⟨[], i, ns, v, l, loc_nil _ _ _ _ _, rfl, Nat.le_refl _, hi, by simp, .inl rfl, p, hg, Goes.refl _ _ _ _, Nat.le_refl _⟩
  have HS0 := hidd hst0
  clear hst0 p hg hi
  go_enter Tryd.func55, Tryd.ntmps55
  go_wp2
  go_loopw [4] (fun s4 wr => RoR w b s v l i ns st aa s4 wr) (fun _ wr => s.size - atOf wr b)
  case atStart => exact HS0.out
  case round =>
    clear HS0
    obtain ⟨xs, j, ns', v', l', L1, hrun, hij, hj, hxj, hnr, p1, hgn, g1, hlen⟩ := hrel
    have HRUN := hidd hrun
    have HG := hidd hgn
    have HNR := hidd hnr
    have hao : Hid (atOf wr b = j) := p1.pr.atOf
    clear hrun hgn hnr
    rcases Nat.lt_or_ge j s.size with hlt | hge
    · go_wp2_with fail
      refine (ended_no p1.pr hlt).mono ?_
      rintro e w2 ⟨rfl, m2, rfl⟩
      have R2 := p1.pr.drewN m2
      have T2 := (Touch.refl b b wr).drewN m2
      generalize wr.drewN m2 = w2 at *
      by_cases hstop : at_ (bs s) j = 124 ∨ at_ (bs s) j = 41
      · go_wp2_with fail
        refine (sees_val R2 hlt { data := #[124, 41] } true (by rcases hstop with h | h <;> rw [h] <;> rfl)).mono ?_
        rintro e w3 ⟨rfl, R3, T3⟩
        have p3 := p1.read (T2.trans T3) R3
        have g3 := g1.read (T2.trans T3)
        have L3 := L1.read (T2.trans T3)
        have HEND : Hid (j < s.size → at_ (bs s) j = 124 ∨ at_ (bs s) j = 41) := fun _ => hstop
        clear R2 T2 R3 T3 hstop L1 g1 p1 hao HNR
        have hnl := gn_len HG.out
        rcases Nat.lt_or_ge xs.length 1 with hx | hx
        · have hxe : xs = [] := List.eq_nil_of_length_eq_zero (by omega)
          subst hxe
          obtain ⟨A, c, rfl⟩ := own_form L3.own
          have ha := Ad.add_any p3 emptyG none 0 (fun h => absurd rfl h) (by omega)
          rw [empty_lit] at ha
          clear L3
          go_wp2_with fail
          refine ha.mono ?_
          rintro e w6 ⟨rfl, v6, p6, f6⟩
          have g6 := g3.add f6 (x := (emptyG, none, 0)) (fun y hy _ => by cases hy)
          have HP := hidd p6
          clear ha p6 f6
          go_wp2
          go_ret2
          refine .inl ⟨l'.length, j, ns', [], ns' ++ [ndEmpty], v6, _, rfl, HRUN.out, by rw [← hnl]; rfl, hij, hj, HEND.out, HP.out, gn_map HG.out gn_empty, g6, by rw [List.length_append, List.length_singleton]; omega⟩
        · rcases Nat.lt_or_ge xs.length 2 with hx2 | hx2
          · obtain ⟨k, hxe⟩ : ∃ k, xs = [k] := by
              match xs, hx, hx2 with
              | [k], _, _ => exact ⟨k, rfl⟩
            subst hxe
            have hjo := join_one L3 3 k rfl
            obtain ⟨A, c, rfl⟩ := own_form L3.own
            clear L3
            go_wp2_with fail
            refine hjo.mono ?_
            rintro e w6 ⟨rfl, rfl⟩
            clear hjo
            go_wp2
            go_ret2
            exact .inl ⟨k, j, ns', [k], ns', v', l', rfl, HRUN.out, rfl, hij, hj, HEND.out, p3, HG.out, g3, by omega⟩
          · have hjo := join_more p3 L3 (by omega) 3 hx2 (by omega)
            have hlf : ((xs.length : Int) == 0) = false := beq_eq_false_iff_ne.2 (by omega)
            obtain ⟨A, c, rfl⟩ := own_form L3.own
            have HMK := hidd (mkRow_many (ns := ns') hx2)
            clear L3
            generalize hxl : xs.length = xl at *
            go_wp2_with fail
            refine hjo.mono ?_
            rintro e w6 ⟨rfl, v6, x6, p6, hx6, hb6, f6⟩
            have g6 := g3.add f6 hb6
            have HP := hidd p6
            have HX := hidd hx6
            clear hjo p6 f6 hx6
            go_wp2
            go_ret2
            refine .inl ⟨l'.length, j, ns', xs, ns' ++ [ndCat xs], v6, _, rfl, HRUN.out, by rw [HMK.out, hnl], hij, hj, HEND.out, HP.out, gn_map HG.out (by rw [HX.out]; exact gn_cat xs), g6, by rw [List.length_append, List.length_singleton]; omega⟩
      · have h124 : at_ (bs s) j ≠ 124 := fun e => hstop (.inl e)
        have h41 : at_ (bs s) j ≠ 41 := fun e => hstop (.inr e)
        go_wp2_with fail
        refine (sees_val R2 hlt { data := #[124, 41] } false (by show ([124, 41] : List Nat).contains _ = false; simp [h124, h41])).mono ?_
        rintro e w3 ⟨rfl, R3, T3⟩
        have p3 := p1.read (T2.trans T3) R3
        have g3 := g1.read (T2.trans T3)
        have L3 := L1.read (T2.trans T3)
        clear R2 T2 R3 T3 hstop L1 g1 p1
        go_wp2_with fail
        refine (item_any (aa := aa) (I := xs) hA (by omega) p3 HG.out hlt hs hst (by omega) h124 h41 HNR.out).mono ?_
        rintro e w4 hr
        clear h124 h41 HNR
        rcases hr with ⟨k, j4, ns4, v4, l4, rfl, hrun4, hij4, hj4, p4, hgn4, g4, hlen4, hrep4⟩ | ⟨k, x, pp, j4, v4, d4, rfl, hr, R4, f4⟩
        · have HRUN4 := hidd hrun4
          have HG4 := hidd hgn4
          have HREP := hidd hrep4
          have L4 := L3.goes g4
          have g14 := g3.trans g4
          clear hrun4 hgn4 hrep4 L3 g3 g4 p3
          have p5 := p4.alloc (.cells #[.int .i64 (k : Int)] 3)
          have L5 := L4.read ((Touch.refl b b w4).alloc (.cells #[.int .i64 (k : Int)] 3))
          have g5 := g14.read ((Touch.refl b b w4).alloc (.cells #[.int .i64 (k : Int)] 3))
          have hnews := int_news w4 (k : Int)
          have hz5 : (w4.alloc (.cells #[.int .i64 (k : Int)] 3)).heap.size = w4.heap.size + 1 := World.size_alloc ..
          have hown := L5.own
          have hw5 : w.heap.size ≤ w4.heap.size + 1 := by have := g14.fr.size; omega
          clear p4 L4 g14
          go_wp2_with (at_builtin; refine wpList_append_lies _ rfl _ _ _ rfl 0 3 i0 (.int .i64 0) 1 8 Tryd.underlying25 hi0 hz0 hz1 hz2 rfl (by omega) _ xs.length (i64s xs) rfl hown ⟨w4.heap.size, 0, none⟩ 1 1 [.int .i64 (k : Int)] rfl rfl hnews (by simp [Value.oneCell']) (by omega) (by simp only [maxLen]; omega) (by omega) (Nat.zero_le _) (w4.heap.size + 1) hz5 ?_; intro g cap w6 hown6 hgrow hat hlt6; refine Hid.out ?_)
          have p6 := p5.grown L5 hgrow
          have g6 := g5.grown L5 hgrow
          have L6 := L5.push p5 hz5 hw5 hown6 hat
          clear hown6 hgrow hat hlt6 p5 L5 g5 hnews hz5 hown hw5
          have HP := hidd p6
          have HL := hidd L6
          have HGo := hidd g6
          clear p6 L6 g6
          refine Lib.hid ?_
          go_wp2
          refine ⟨⟨xs ++ [k], j4, ns4, v4, l4, HL.out, HRUN.out.trans HRUN4.out, by omega, hj4, by rw [List.length_append, List.length_singleton]; omega, .inr HREP.out, HP.out, HG4.out, HGo.out, by omega⟩, ?_⟩
          rw [HP.out.pr.atOf, hao.out]
          omega
        · have HR := hidd hr
          clear hr
          go_wp2
          go_ret2
          exact .inr ⟨_, x, pp, j4, v4, d4, rfl, by rw [HRUN.out, HR.out], R4, g3.fr.trans f4⟩
    · have hje : j = s.size := by omega
      go_wp2_with fail
      refine (ended_yes p1.pr hje).mono ?_
      rintro e w2 ⟨rfl, m2, rfl⟩
      have T2 := (Touch.refl b b wr).drewN m2
      have p3 := p1.read T2 (p1.pr.drewN m2)
      have g3 := g1.read T2
      have L3 := L1.read T2
      have HEND : Hid (j < s.size → at_ (bs s) j = 124 ∨ at_ (bs s) j = 41) := fun h => by omega
      clear hje hge p1 g1 L1 T2 hao HNR
      generalize wr.drewN m2 = w2 at *
      have hnl := gn_len HG.out
      rcases Nat.lt_or_ge xs.length 1 with hx | hx
      · have hxe : xs = [] := List.eq_nil_of_length_eq_zero (by omega)
        subst hxe
        obtain ⟨A, c, rfl⟩ := own_form L3.own
        have ha := Ad.add_any p3 emptyG none 0 (fun h => absurd rfl h) (by omega)
        rw [empty_lit] at ha
        clear L3
        go_wp2_with fail
        refine ha.mono ?_
        rintro e w6 ⟨rfl, v6, p6, f6⟩
        have g6 := g3.add f6 (x := (emptyG, none, 0)) (fun y hy _ => by cases hy)
        have HP := hidd p6
        clear ha p6 f6
        go_wp2
        go_ret2
        refine .inl ⟨l'.length, j, ns', [], ns' ++ [ndEmpty], v6, _, rfl, HRUN.out, by rw [← hnl]; rfl, hij, hj, HEND.out, HP.out, gn_map HG.out gn_empty, g6, by rw [List.length_append, List.length_singleton]; omega⟩
      · rcases Nat.lt_or_ge xs.length 2 with hx2 | hx2
        · obtain ⟨k, hxe⟩ : ∃ k, xs = [k] := by
            match xs, hx, hx2 with
            | [k], _, _ => exact ⟨k, rfl⟩
          subst hxe
          have hjo := join_one L3 3 k rfl
          obtain ⟨A, c, rfl⟩ := own_form L3.own
          clear L3
          go_wp2_with fail
          refine hjo.mono ?_
          rintro e w6 ⟨rfl, rfl⟩
          clear hjo
          go_wp2
          go_ret2
          exact .inl ⟨k, j, ns', [k], ns', v', l', rfl, HRUN.out, rfl, hij, hj, HEND.out, p3, HG.out, g3, by omega⟩
        · have hjo := join_more p3 L3 (by omega) 3 hx2 (by omega)
          have hlf : ((xs.length : Int) == 0) = false := beq_eq_false_iff_ne.2 (by omega)
          obtain ⟨A, c, rfl⟩ := own_form L3.own
          have HMK := hidd (mkRow_many (ns := ns') hx2)
          clear L3
          generalize hxl : xs.length = xl at *
          go_wp2_with fail
          refine hjo.mono ?_
          rintro e w6 ⟨rfl, v6, x6, p6, hx6, hb6, f6⟩
          have g6 := g3.add f6 hb6
          have HP := hidd p6
          have HX := hidd hx6
          clear hjo p6 f6 hx6
          go_wp2
          go_ret2
          refine .inl ⟨l'.length, j, ns', xs, ns' ++ [ndCat xs], v6, _, rfl, HRUN.out, by rw [HMK.out, hnl], hij, hj, HEND.out, HP.out, gn_map HG.out (by rw [HX.out]; exact gn_cat xs), g6, by rw [List.length_append, List.length_singleton]; omega⟩
end

end Go.Proofs.YtghjkbjpdjlddaaDoor.Sy

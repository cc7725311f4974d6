/- The landed parser: parentheses. -/
import Derived.Test.YtghjkbjpdjlddaaDoorTr
namespace Go.Proofs.YtghjkbjpdjlddaaDoor.Sy
open Go.RowKit
set_option maxRecDepth 100000
set_option linter.unusedVariables false

section
variable {w w' w1 : World} {b : Nat} {s : ByteArray} {v v1 : Value} {l l1 : List NR} {i : Nat} {ns : List Nd} {st : List (List Nat × List Nat)} {aa I : List Nat}
set_option maxHeartbeats 2000000 in
theorem group_any_ {n : Nat} (hA : AltC n) (hn : s.size - i < n + 1) (p : PS w b s (i : Int) 0 0 (st.length : Int) v l) (hg : GN (l.map (·.1)) ns) (hi : i < s.size) (hs : s.size ≤ 1024) (hst : st.length ≤ 64) (hl : l.length ≤ 2 * i) (h40 : at_ (bs s) i = 40) (h3 : I = [] ∨ repAt (bs s) i = false) :
    Calls Tryd.prog 85 #[.pointer (some ⟨b, 0, none⟩)] w fun e w' => ItemR w b s v l i ns st aa I e w' := by
  have hbl := bs_len s
  obtain ⟨c0, c1, c2, c3, c4, c5⟩ := p.pr.cells
  have ht := p.pr.thawed
  by_cases h64 : st.length = 64
  · have HR : Hid (run (bs s) ⟨i, ns, st, aa, I⟩ = .error (46, i)) := run_deep (by rw [hbl]; exact hi) h3 h40 (by omega)
    have h64i : ((st.length : Int) == 64) = true := by rw [h64]; rfl
    clear h64 h40 hA hn hg hl h3 hbl
    go_enter Tryd.func85, Tryd.ntmps85
    go_wp2_with fail
    refine wp_region_still_tail 8 (by kernel_rfl) (by kernel_rfl) ?_
    simp only [List.take_succ_cons, List.take_zero, List.drop_succ_cons, List.drop_zero]
    repeat still_step
    refine wpStill_nil ?_
    change wpList _ _ _ _ _ (World.drew _)
    go_wp2_with fail
    refine (fail_any p.pr.drew 46 _).mono ?_
    rintro e w9 ⟨rfl, R9, T9⟩
    have f := (Fr.of (Touch.refl b b w).drew v).trans (Fr.of T9 v)
    clear T9 c0 c1 c2 c3 c4 c5 ht
    go_wp2
    go_ret2
    exact .inr ⟨_, 46, i, i, v, _, rfl, HR.out, R9, f⟩
  · have HO : Hid (run (bs s) ⟨i, ns, st, aa, I⟩ = run (bs s) ⟨i + 1, ns, (aa, I) :: st, [], []⟩) := run_open (by rw [hbl]; exact hi) h3 h40 (by omega)
    have h64i : ((st.length : Int) == 64) = false := by simp; omega
    have R1 := (p.pr.atTo ((i : Int) + 1)).deep ((st.length : Int) + 1)
    have T1 := ((Touch.refl b b w).set1 1 (.int .i64 ((i : Int) + 1))).set1 5 (.int .i64 ((st.length : Int) + 1))
    go_enter Tryd.func85, Tryd.ntmps85
    go_wp2_with fail
    generalize (w.setCell ⟨b, 1, none⟩ (.int .i64 ((i : Int) + 1))).setCell ⟨b, 5, none⟩ (.int .i64 ((st.length : Int) + 1)) = w1 at *
    rw [show (i : Int) + 1 = ((i + 1 : Nat) : Int) from by omega, show (st.length : Int) + 1 = ((((aa, I) :: st).length : Nat) : Int) from by simp] at R1
    have p1 := p.read T1 R1
    have f1 := Fr.of T1 v
    clear c0 c1 c2 c3 c4 c5 ht R1 T1 h64i
    refine (hA w1 b s v l (i + 1) ns ((aa, I) :: st) (by omega) p1 hg hi hs (by simp; omega) (by omega)).mono ?_
    rintro e w2 hr
    clear hA hn h3 hg p1
    rcases hr with ⟨k, j, ns1, a1, I1, ns', v', l', rfl, hrun, hcl, hij, hj, hend, p2, g2, go2, hlen⟩ | ⟨k, x, pp, j, v', d', rfl, hr, R2, f2⟩
    · have HRUN := hidd hrun
      have HCL := hidd hcl
      have HG := hidd g2
      have hgo : Goes b v l v' l' w w2 := ⟨f1.trans go2.fr, by
        obtain ⟨m, h5, h6⟩ := go2.new
        exact ⟨m, h5, fun x hx a ha hne => Nat.le_trans f1.size (h6 x hx a ha hne)⟩⟩
      clear hrun hcl g2 go2 f1
      rcases Nat.lt_or_ge j s.size with hlt | hge
      · have h41 := hend hlt
        have HS : Hid (run (bs s) ⟨j, ns1, (aa, I) :: st, a1, I1⟩ = run (bs s) ⟨j + 1, (close ns1 a1 I1).1, st, aa, I ++ [(close ns1 a1 I1).2]⟩) := run_shut (by rw [hbl]; exact hlt) h41
        have his : is (bs s) j 41 = true := by rw [is_of (by rw [hbl]; exact hlt), h41]; rfl
        clear hend h41 hbl
        go_wp2_with fail
        refine (takes_yes (c := 41) p2.pr (by omega) his).mono ?_
        rintro e w3 ⟨rfl, R3, T3⟩
        have p3 := p2.read T3 R3
        have hgo3 := hgo.read T3
        clear p2 hgo T3 R3 his
        obtain ⟨c0, c1, c2, c3, c4, c5⟩ := p3.pr.cells
        rw [show ((((aa, I) :: st).length : Nat) : Int) = (st.length : Int) + 1 from by simp] at c5
        have ht := p3.pr.thawed
        have R4 := p3.pr.deep (st.length : Int)
        have T4 := (Touch.refl b b w3).set1 5 (.int .i64 (st.length : Int))
        have p4 := p3.read T4 R4
        have hgo4 := hgo3.read T4
        clear p3 hgo3 R4 T4
        go_wp2
        go_ret2
        refine .inl ⟨k, j + 1, ns', v', l', rfl, ?_, by omega, by omega, p4, HG.out, hgo4, by omega⟩
        rw [HO.out, HRUN.out, HS.out, HCL.out]
      · have hje : j = s.size := by omega
        subst hje
        have HS : Hid (run (bs s) ⟨s.size, ns1, (aa, I) :: st, a1, I1⟩ = .error (40, s.size)) := by show _ = _; rw [run_soon hbl.symm, hbl]
        have his : is (bs s) s.size 41 = false := is_end (by rw [hbl]; exact Nat.le_refl _)
        clear hend hbl
        go_wp2_with fail
        refine (takes_no (c := 41) p2.pr (Nat.le_refl _) his).mono ?_
        rintro e w3 ⟨rfl, m3, rfl⟩
        have R3 := p2.pr.drewN m3
        have f3 := hgo.fr.trans (Fr.of ((Touch.refl b b w2).drewN m3) v')
        clear p2 hgo his
        generalize w2.drewN m3 = w3 at *
        obtain ⟨c0, c1, c2, c3, c4, c5⟩ := R3.cells
        go_wp2_with fail
        refine wp_region_still_tail 8 (by kernel_rfl) (by kernel_rfl) ?_
        simp only [List.take_succ_cons, List.take_zero, List.drop_succ_cons, List.drop_zero]
        repeat still_step
        refine wpStill_nil ?_
        change wpList _ _ _ _ _ (World.drew _)
        go_wp2_with fail
        refine (fail_any R3.drew 40 _).mono ?_
        rintro e w9 ⟨rfl, R9, T9⟩
        have f := f3.trans ((Fr.of (Touch.refl b b w3).drew v').trans (Fr.of T9 v'))
        clear T9 c0 c1 c2 c3 c4 c5 f3
        go_wp2
        go_ret2
        exact .inr ⟨_, 40, s.size, s.size, v', _, rfl, by rw [HO.out, HRUN.out, HS.out], R9, f⟩
    · have HR := hidd hr
      clear hr
      go_wp2
      go_ret2
      exact .inr ⟨_, x, pp, j, v', d', rfl, by rw [HO.out, HR.out], R2, f1.trans f2⟩

set_option maxHeartbeats 1000000 in
theorem atom_any {n : Nat} (hA : AltC n) (hn : s.size - i < n + 1) (p : PS w b s (i : Int) 0 0 (st.length : Int) v l) (hg : GN (l.map (·.1)) ns) (hi : i < s.size) (hs : s.size ≤ 1024) (hst : st.length ≤ 64) (hl : l.length ≤ 2 * i) (h1 : at_ (bs s) i ≠ 124) (h2 : at_ (bs s) i ≠ 41) (h3 : I = [] ∨ repAt (bs s) i = false) :
    Calls Tryd.prog 79 #[.pointer (some ⟨b, 0, none⟩)] w fun e w' => ItemR w b s v l i ns st aa I e w' := by
  by_cases h40 : at_ (bs s) i = 40
  · go_enter Tryd.func79, Tryd.ntmps79
    go_wp2_with fail
    refine (sees_val p.pr hi { data := #[40] } true (by rw [h40]; rfl)).mono ?_
    rintro e w2 ⟨rfl, R2, T2⟩
    have p2 := p.read T2 R2
    have f2 := Fr.of T2 v
    clear R2 T2
    go_wp2_with fail
    refine (group_any_ (aa := aa) (I := I) hA hn p2 hg hi hs hst hl h40 h3).mono ?_
    rintro e w3 hr
    have hr2 : ItemR w b s v l i ns st aa I e w3 := by
      rcases hr with ⟨k, j, ns', v', l', h5, h6, h7, h8, h9, h10, h11, h12⟩ | h
      · refine .inl ⟨k, j, ns', v', l', h5, h6, h7, h8, h9, h10, ⟨f2.trans h11.fr, ?_⟩, h12⟩
        obtain ⟨m, h13, h14⟩ := h11.new
        exact ⟨m, h13, fun x hx a ha hne => Nat.le_trans f2.size (h14 x hx a ha hne)⟩
      · exact .inr (h.from f2)
    clear hr hA p2 f2 hg hl h40 h1 h2 h3
    have hsh : ∃ (k : Int) (z : Bool), e = .returned (.tuple #[.int .i64 k, .bool z]) := by
      rcases hr2 with ⟨k, j, ns', v', l', h5, h6, h7, h8, h9, h10, h11, h12⟩ | ⟨k, x, pp, j, v', d', h5, h6⟩
      · exact ⟨_, _, h5⟩
      · exact ⟨_, _, h5⟩
    obtain ⟨k, z, rfl⟩ := hsh
    have HR := hidd hr2
    clear hr2
    go_wp2
    go_ret2
    exact HR.out
  · refine (atomL_any p hi (by omega) (by omega) h40).mono ?_
    rintro e w2 hr
    exact item_lone hr hg hi h1 h2 h3 h40
end

end Go.Proofs.YtghjkbjpdjlddaaDoor.Sy

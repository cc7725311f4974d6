/- The landed Parse keeps what it owes. -/
import Derived.Test.YtghjkbjpdjlddaaDoorTv
namespace Go.Proofs.YtghjkbjpdjlddaaDoor.Sy
open Go.RowKit
set_option maxRecDepth 100000
set_option linter.unusedVariables false

section
variable {w w' w1 : World} {b : Nat} {s : ByteArray} {v v1 : Value} {l l1 : List NR}
set_option maxHeartbeats 1000000 in
theorem whole_any (p : PS w b s 0 0 0 0 v []) (hs : s.size ≤ 1024) :
    Calls Tryd.prog 18 #[.pointer (some ⟨b, 0, none⟩)] w fun e w' =>
      (∃ (ns' : List Nd) (v' : Value) (l' : List NR), e = .returned (.bool true) ∧ run (bs s) start = .ok ns' ∧ PS w' b s (s.size : Int) 0 0 0 v' l' ∧ GN (l'.map (·.1)) ns' ∧ Fr b v v' w w' ∧ l'.length ≤ 2 * s.size + 1) ∨
      (∃ (x pp j : Nat) (v' : Value) (d' : Int), e = .returned (.bool false) ∧ run (bs s) start = .error (x, pp) ∧ PR w' b s (j : Int) (x : Int) (pp : Int) v' d' ∧ Fr b v v' w w') := by
  have hbl := bs_len s
  go_enter Tryd.func18, Tryd.ntmps18
  go_wp2_with fail
  refine (altC (s.size + 1) w b s v [] 0 [] [] (by omega) p ⟨rfl, fun i hi => absurd hi (Nat.not_lt_zero _)⟩ (Nat.zero_le _) hs (by simp) (by simp)).mono ?_
  rintro e w1 hr
  rcases hr with ⟨k, j, ns1, a1, I1, ns', v', l', rfl, hrun, hcl, hij, hj, hend, p1, hgn, g1, hlen⟩ | ⟨k, x, pp, j, v', d', rfl, hr, R1, f1⟩
  · have HG := hidd hgn
    have HRUN := hidd hrun
    have HCL := hidd hcl
    clear hgn hrun hcl
    rcases Nat.lt_or_ge j s.size with hlt | hge
    · have HOV : Hid (run (bs s) ⟨j, ns1, [], a1, I1⟩ = .error (41, j)) := run_over (by rw [hbl]; exact hlt) (hend hlt)
      clear hend hbl
      go_wp2_with fail
      refine (ended_no p1.pr hlt).mono ?_
      rintro e w2 ⟨rfl, m2, rfl⟩
      have R2 := p1.pr.drewN m2
      have f2 := g1.fr.trans (Fr.of ((Touch.refl b b w1).drewN m2) v')
      clear p1 g1
      generalize w1.drewN m2 = w2 at *
      obtain ⟨c0, c1, c2, c3, c4, c5⟩ := R2.cells
      go_wp2_with fail
      refine wp_region_still_tail 8 (by kernel_rfl) (by kernel_rfl) ?_
      simp only [List.take_succ_cons, List.take_zero, List.drop_succ_cons, List.drop_zero]
      repeat still_step
      refine wpStill_nil ?_
      change wpList _ _ _ _ _ (World.drew _)
      go_wp2_with fail
      refine (fail_any R2.drew 41 _).mono ?_
      rintro e w9 ⟨rfl, R9, T9⟩
      have f := f2.trans ((Fr.of (Touch.refl b b w2).drew v').trans (Fr.of T9 v'))
      clear T9 c0 c1 c2 c3 c4 c5 f2
      go_wp2
      go_ret
      exact .inr ⟨41, j, j, v', _, rfl, by unfold start; rw [HRUN.out, HOV.out], R9, f⟩
    · have hje : j = s.size := by omega
      have HDO : Hid (run (bs s) ⟨j, ns1, [], a1, I1⟩ = .ok ns') := by show _ = _; rw [run_done (by rw [hbl]; exact hje), HCL.out]
      clear hend hbl hge
      go_wp2_with fail
      refine (ended_yes p1.pr hje).mono ?_
      rintro e w2 ⟨rfl, m2, rfl⟩
      subst hje
      have T2 := (Touch.refl b b w1).drewN m2
      have p2 := p1.read T2 (p1.pr.drewN m2)
      have f2 := (g1.read T2).fr
      have HP := hidd p2
      clear p1 g1 T2 p2
      go_wp2
      go_ret
      exact .inl ⟨ns', v', l', rfl, by unfold start; rw [HRUN.out, HDO.out], HP.out, HG.out, f2, by simp at hlen; omega⟩
  · have HR := hidd hr
    clear hr hbl
    go_wp2
    go_ret
    exact .inr ⟨x, pp, j, v', d', rfl, HR.out, R1, f1⟩

theorem ps_nds {i er pl d : Int} (p : PS w b s i er pl d v l) : ∃ A c, v = .slice A l.length c ∧ Nds w w.heap.size A (l.map (·.1)) := by
  rcases Nat.eq_zero_or_pos l.length with h0 | h0
  · obtain ⟨A, c, hv⟩ := own_form p.own
    refine ⟨A, c, hv, fun hne => absurd ?_ hne⟩
    rw [List.eq_nil_of_length_eq_zero h0]
    rfl
  · obtain ⟨g, c, hv, _, hg⟩ := own_pos p.own h0
    refine ⟨_, c, hv, fun _ => ⟨g, 0, rfl, hg, fun i hi => ?_⟩⟩
    rw [List.length_map] at hi
    have hx : l[i]? = some l[i] := List.getElem?_eq_getElem hi
    have e : (l.map (·.1)).getD i gd0 = l[i].1 := by rw [List.getD_eq_getElem?_getD, List.getElem?_map, hx]; rfl
    rw [e]
    refine ⟨l[i].2.1, l[i].2.2, fun hne => ?_, fun j u hu => ?_⟩
    · obtain ⟨q, off, h1, h2, -, -, h5⟩ := p.kids _ (List.getElem_mem hi) hne
      exact ⟨q, off, h1, h2, h5⟩
    · have hj : j < 9 := by
        rcases Nat.lt_or_ge j 9 with h | h
        · exact h
        · rw [List.getElem?_eq_none (by rw [gdL_len]; exact h)] at hu; cases hu
      have := p.own.cells (g := g) (by rw [hv]; rfl) (i * 9 + j) u (by rw [nodesC_at l i j _ hx hj]; exact hu)
      rw [Nat.zero_add]
      have ha : (⟨g, 0, none⟩ : Addr).add (i * 9 + j) = ⟨g, i * 9 + j, none⟩ := by unfold Addr.add; split <;> simp_all
      rw [ha] at this
      exact this
theorem fr_below {w0 : World} {o : Obj} (f : Fr w0.heap.size (.slice none 0 0) v1 (w0.alloc o) w') : Below w0.heap.size w0 w' := by
  have hz : (w0.alloc o).heap.size = w0.heap.size + 1 := World.size_alloc ..
  have hb : Below w0.heap.size w0 (w0.alloc o) := (Below.refl _ _).alloc (Nat.le_refl _) o
  refine ⟨f.os.trans hb.os, f.tape.trans hb.tape, f.output.trans hb.output, by have := f.size; omega, fun k hk => (f.block k (by omega) (by omega) nofun).trans (hb.block k hk)⟩
theorem parse_run {t : List Nat} (h : t.length ≤ 1024) : parse t = match run t start with | .error e => .error e | .ok ns => if 1024 < ns.length then .error (3, 0) else .ok ns := by
  unfold parse
  rw [if_neg (by omega)]
  cases run t start <;> rfl

set_option maxHeartbeats 1000000 in
theorem parseC : ParseC := by
  intro s w hE hs
  have hbl := bs_len s
  by_cases hlong : 1024 < s.size
  · have HR : Hid (parse (bs s) = .error (3, 0)) := by show _ = _; unfold parse; rw [if_pos (by rw [hbl]; exact hlong)]
    have hi : (1024 : Int) < (s.size : Int) := by omega
    clear hbl
    go_enter Tryd.func8, Tryd.ntmps8
    go_wp2
    go_ret3
    refine ⟨?_, Below.refl _ _⟩
    unfold ParseR
    rw [HR.out]
    exact ⟨none, 0, rfl⟩
  · have hi : ¬ (1024 : Int) < (s.size : Int) := by omega
    have HPR := hidd (parse_run (t := bs s) (by rw [hbl]; omega))
    have p0 : PS (w.alloc (.cells #[.string s, .int .i64 0, .int .i64 0, .int .i64 0, .slice none 0 0, .int .i64 0] 47)) w.heap.size s 0 0 0 0 (.slice none 0 0) [] :=
      ⟨RowA.new w _ _, ⟨rfl, .inl ⟨rfl, rfl⟩⟩, nofun, fun x hx => absurd hx (List.not_mem_nil), hE.below ((Below.refl _ _).alloc (Nat.le_refl _) _), by have := hE.lt; omega, nofun⟩
    clear hE hbl
    go_enter Tryd.func8, Tryd.ntmps8
    go_wp2_with fail
    refine (whole_any p0 (by omega)).mono ?_
    rintro e w1 hr
    clear p0
    rcases hr with ⟨ns', v', l', rfl, hrun, p1, hgn, f1, hlen⟩ | ⟨x, pp, j, v', d', rfl, hrun, R1, f1⟩
    · have hb := fr_below f1
      have hgl := gn_len hgn
      obtain ⟨A, c, hv, hnd⟩ := ps_nds p1
      subst hv
      obtain ⟨c0, c1, c2, c3, c4, c5⟩ := p1.pr.cells
      rw [hrun] at HPR
      have HG := hidd hgn
      have HN := hidd hnd
      have hlm : (l'.map (·.1)).length = l'.length := List.length_map ..
      have HLM := hidd hlm
      clear hrun hgn hnd p1 f1 hlm
      by_cases hmany : 1024 < l'.length
      · have HR : Hid (parse (bs s) = .error (3, 0)) := by show _ = _; rw [HPR.out]; simp only; rw [if_pos (by omega)]
        have hmi : (1024 : Int) < (l'.length : Int) := by omega
        clear hgl
        go_wp2
        go_ret3
        refine ⟨?_, hb⟩
        unfold ParseR
        rw [HR.out]
        exact ⟨none, 0, rfl⟩
      · have HR : Hid (parse (bs s) = .ok ns') := by show _ = _; rw [HPR.out]; simp only; rw [if_neg (by omega)]
        have hmi : ¬ (1024 : Int) < (l'.length : Int) := by omega
        clear hgl
        go_wp2
        go_ret3
        refine ⟨?_, hb⟩
        unfold ParseR
        rw [HR.out]
        exact ⟨A, c, l'.map (·.1), by rw [HLM.out]; rfl, HN.out, HG.out⟩
    · have hb := fr_below f1
      rw [hrun] at HPR
      have HR : Hid (parse (bs s) = .error (x, pp)) := HPR
      obtain ⟨c0, c1, c2, c3, c4, c5⟩ := R1.cells
      clear hrun f1 HPR
      go_wp2
      go_quiet (fail)
      go_wp2
      go_ret3
      refine ⟨?_, bel_drewN hb _⟩
      unfold ParseR
      rw [HR.out]
      exact ⟨none, 0, rfl⟩
end

end Go.Proofs.YtghjkbjpdjlddaaDoor.Sy

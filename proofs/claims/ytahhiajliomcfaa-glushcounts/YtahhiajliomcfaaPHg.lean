/- The reference's Parse, of patterns that are right. -/
import Derived.Test.YtahhiajliomcfaaPHf
import Derived.Test.YtahhiajliomcfaaPM4
namespace Go.Proofs.Ytahhiajliomcfaa.Sy.Rf
open Go.RowKit
set_option maxRecDepth 100000
set_option linter.unusedVariables false
section
variable {w w' w1 : World} {b : Nat} {s : ByteArray} {v v1 : Value} {l l1 : List NR} {i : Nat} {ns : List Nd} {st : List (List Nat × List Nat)} {aa I : List Nat} {d : Int}
/-- Reading an alternative while it goes on: the last row is not yet done. -/
def AlR (w : World) (b : Nat) (s : ByteArray) (v : Value) (l : List NR) (i : Nat) (ns : List Nd) (st : List (List Nat × List Nat)) (s3 : Value) (wr : World) : Prop :=
  ∃ (xs : List Nat) (k j : Nat) (ns1 : List Nd) (I1 : List Nat) (ns' : List Nd) (v' : Value) (l' : List NR), Loc w wr b v' l' s3 (xs ++ [k]) ∧ run (bs s) ⟨i, ns, st, [], []⟩ = run (bs s) ⟨j, ns1, st, xs, I1⟩ ∧ mkRow ns1 I1 = (ns', k) ∧ (j < s.size → at_ (bs s) j = 124 ∨ at_ (bs s) j = 41) ∧ i ≤ j ∧ j ≤ s.size ∧ xs.length + i ≤ j ∧
    QS wr b s (j : Int) (st.length : Int) v' l' ∧ GN (l'.map (·.1)) ns' ∧ Goes b v l v' l' w wr ∧ l'.length + 2 * i + one_if xs ≤ l.length + 2 * j + 1
theorem loc_one {k : Nat} (p : QS w b s (i : Int) d v l) (h0 : w1.heap.size ≤ w.heap.size) : Loc w1 (w.alloc (.cells #[.int .i64 (k : Int)] 3)) b v l (.slice (some ⟨w.heap.size, 0, none⟩) 1 1) [k] := by
  have hlt := p.own.lt
  have hb := p.pr.lt
  refine ⟨⟨rfl, .inr ⟨w.heap.size, 1, _, rfl, Nat.zero_le _, heap_new w _, Nat.le_refl _, by simp [maxLen], rfl, rfl⟩⟩, fun e => ?_, fun q hq e => ?_, fun x hx a ha hl e => ?_, fun q hq => ?_⟩
  · have e1 : w.heap.size = b := Option.some.inj e
    omega
  · have e1 : w.heap.size = q := Option.some.inj hq
    have := (hlt q e).2
    omega
  · have e1 : w.heap.size = a.block := Option.some.inj e
    obtain ⟨q, off, h1, h2, -⟩ := p.kids x hx hl
    rw [ha] at h1
    have h3 := Option.some.inj h1
    rw [h3] at e1
    simp only at e1
    omega
  · have e1 : w.heap.size = q := Option.some.inj hq
    omega
set_option maxHeartbeats 4000000 in
theorem alt_step {n : Nat} (hA : AltC n) : AltC (n + 1) := by
  intro w b s v l i ns st hS hO hn p hg hi hst hl
  obtain ⟨i0, hi0, hz0, hz1, hz2⟩ := info_parts int_info
  have HBL := hidd (bs_len s)
  have hs := hS.sz
  have HS := hidd hS
  have HO := hidd hO
  have HA := hidd hA
  have hrow := row_any (aa := []) hA hS hO hn p hg hi hst hl
  clear hS hO hA p hg
  go_enter Try.func65, Try.ntmps65
  go_wp2_with fail
  refine hrow.mono ?_
  rintro e w4 ⟨k, j, ns1, I1, ns', v', l', rfl, hrun, hmk, hij, hj, hend, p4, hgn, g4, hlen⟩
  have HS0 : Hid (AlR w b s v l i ns st (.slice (some ⟨w4.heap.size, 0, none⟩) 1 1) (w4.alloc (.cells #[.int .i64 (k : Int)] 3))) :=
    ⟨[], k, j, ns1, I1, ns', v', l', loc_one p4 g4.fr.size, hrun, hmk, hend, hij, hj, by simp; omega, p4.alloc _, hgn, g4.read ((Touch.refl b b w4).alloc _), by simp [one_if]; omega⟩
  clear hrow hrun hmk hend p4 hgn g4 hlen
  go_wp2
  go_loopw [3] (fun s3 wr => AlR w b s v l i ns st s3 wr) (fun _ wr => s.size - atOf wr b)
  case atStart => exact HS0.out
  case round =>
    clear HS0 hij hj
    obtain ⟨xs, k, j, ns1, I1, ns', v', l', L1, hrun, hmk, hend, hij, hj, hxj, p1, hgn, g1, hlen⟩ := hrel
    have HRUN := hidd hrun
    have HMK := hidd hmk
    have HG := hidd hgn
    have hao : Hid (atOf wr b = j) := p1.pr.atOf
    clear hrun hmk hgn
    obtain ⟨c0, c1, c2, c3, c4, c5⟩ := p1.pr.cells
    rcases Nat.lt_or_ge j s.size with hlt | hge
    · have hE := fun m => ends_no (i := j) (p1.pr.drewN m) hlt
      have hji : (j : Int) < (s.size : Int) := by omega
      rcases hend hlt with hc | hc
      · have hv : s[j].toNat = 124 := by rw [← at_get hlt]; exact hc
        have hbar : run (bs s) ⟨j, ns1, st, xs, I1⟩ = run (bs s) ⟨j + 1, (mkRow ns1 I1).1, st, xs ++ [(mkRow ns1 I1).2], []⟩ := run_bar (by rw [HBL.out]; exact hlt) hc
        rw [HMK.out] at hbar
        have HBAR := hidd hbar
        have hjs : (j : Int) < 100000 := by omega
        have ht := p1.pr.thawed
        clear hbar hc hend
        go_wp2_with fail
        go_quiet ((go_at_call 66; exact Calls.quiet_of (hE _)))
        have R3 := (p1.pr.drewN nq).atTo ((j : Int) + 1)
        have T3 := ((Touch.refl b b wr).drewN nq).set1 1 (.int .i64 ((j : Int) + 1))
        have HR3 : Hid (QR ((wr.drewN nq).setCell ⟨b, 1, none⟩ (.int .i64 ((j : Int) + 1))) b s ((j + 1 : Nat) : Int) v' (st.length : Int)) := by
          show QR _ _ _ _ _ _
          rw [show ((j + 1 : Nat) : Int) = (j : Int) + 1 from by omega]
          exact R3
        have p3 := p1.read T3 HR3.out
        have g3 := g1.read T3
        have L3 := L1.read T3
        clear p1 g1 L1 hE R3 T3 HR3
        go_wp2_with fail
        generalize (wr.drewN nq).setCell ⟨b, 1, none⟩ (.int .i64 ((j : Int) + 1)) = w3 at *
        clear c0 c1 c2 c3 c4 c5 hv ht
        refine (row_any (aa := xs ++ [k]) HA.out HS.out ((HO.out.to HRUN.out).to HBAR.out) (by omega) p3 HG.out (by omega) hst (by unfold one_if at hlen; split at hlen <;> omega)).mono ?_
        rintro e w4 ⟨k4, j4, ns4, I4, ns4', v4, l4, rfl, hrun4, hmk4, hij4, hj4, hend4, p4, hgn4, g4, hlen4⟩
        have HRUN4 := hidd hrun4
        have HMK4 := hidd hmk4
        have HG4 := hidd hgn4
        have HEND4 := hidd hend4
        have L4 := L3.goes g4
        have g14 := g3.trans g4
        clear hrun4 hgn4 hmk4 hend4 L3 g3 g4 p3
        have p5 := p4.alloc (.cells #[.int .i64 (k4 : Int)] 3)
        have L5 := L4.read ((Touch.refl b b w4).alloc (.cells #[.int .i64 (k4 : Int)] 3))
        have g5 := g14.read ((Touch.refl b b w4).alloc (.cells #[.int .i64 (k4 : Int)] 3))
        have hnews := int_news w4 (k4 : Int)
        have hz5 : (w4.alloc (.cells #[.int .i64 (k4 : Int)] 3)).heap.size = w4.heap.size + 1 := World.size_alloc ..
        have hown := L5.own
        have hw5 : w.heap.size ≤ w4.heap.size + 1 := by have := g14.fr.size; omega
        have hxl : (xs ++ [k]).length = xs.length + 1 := by simp
        have HXL := hidd hxl
        have hxl2 : (xs ++ [k]).length ≤ 100000 := by omega
        clear p4 L4 g14 hxl
        go_wp2_with (at_builtin; refine wpList_append_lies _ rfl _ _ _ rfl 0 3 i0 (.int .i64 0) 1 8 Try.underlying23 hi0 hz0 hz1 hz2 rfl (by omega) _ (xs ++ [k]).length (i64s (xs ++ [k])) rfl hown ⟨w4.heap.size, 0, none⟩ 1 1 [.int .i64 (k4 : Int)] rfl rfl hnews (by simp [Value.oneCell']) (by omega) (by simp only [maxLen]; omega) (by omega) (Nat.zero_le _) (w4.heap.size + 1) hz5 ?_; intro g cap w6 hown6 hgrow hat hlt6; refine Hid.out ?_)
        have p6 := p5.grown L5 hgrow
        have g6 := Rf.Goes.grown g5 L5 hgrow
        have L6 := L5.push p5 hz5 hw5 hown6 hat
        clear hown6 hgrow hat hlt6 p5 L5 g5 hnews hz5 hown hw5
        have HP := hidd p6
        have HL := hidd L6
        have HGo := hidd g6
        clear p6 L6 g6
        refine Lib.hid ?_
        go_wp2
        have hxl := HXL.out
        refine ⟨⟨xs ++ [k], k4, j4, ns4, I4, ns4', v4, l4, by have h := HL.out; rw [hxl] at h; exact h, ?_, HMK4.out, HEND4.out, by omega, hj4, by omega, HP.out, HG4.out, HGo.out, ?_⟩, ?_⟩
        · rw [HRUN.out, HBAR.out, HRUN4.out]
        · have h1 : one_if (xs ++ [k]) = 1 := by unfold one_if; rw [if_neg (by simp)]
          have h2 : one_if xs ≤ 1 := by unfold one_if; split <;> omega
          omega
        · rw [HP.out.pr.atOf, hao.out]
          omega
      · have hv : s[j].toNat = 41 := by rw [← at_get hlt]; exact hc
        have HE : Hid (j < s.size → at_ (bs s) j = 41) := fun _ => hc
        clear hc hend
        go_wp2_with fail
        go_quiet ((go_at_call 66; exact Calls.quiet_of (hE _)))
        have p3 := p1.read ((Touch.refl b b wr).drewN nq) (p1.pr.drewN nq)
        have g3 := g1.read ((Touch.refl b b wr).drewN nq)
        have L3 := L1.read ((Touch.refl b b wr).drewN nq)
        clear p1 g1 L1 hE c0 c1 c2 c3 c4 c5 hv
        generalize wr.drewN nq = w3 at *
        -- in world w3: p3, g3, L3 : Loc .. (xs ++ [k]), HRUN, HMK, HG, HE
        have hnl := gn_len HG.out
        have hcl : close ns1 xs I1 = mkAlt ns' (xs ++ [k]) := by unfold close; rw [HMK.out]
        have HCL := hidd hcl
        clear hcl
        obtain ⟨c0, c1, c2, c3, c4, c5⟩ := p3.pr.cells
        by_cases hx : xs = []
        · subst hx
          obtain ⟨g, c, rfl, hcell⟩ := loc_first L3
          have HP := hidd p3
          clear L3 p3
          go_wp2
          go_ret
          refine ⟨k, j, ns1, [], I1, ns', v', l', rfl, HRUN.out, by rw [HCL.out]; rfl, hij, hj, HE.out, HP.out, HG.out, g3, ?_⟩
          unfold one_if at hlen
          simp at hlen
          omega
        · have hx2 : 2 ≤ (xs ++ [k]).length := by
            rw [List.length_append, List.length_singleton]
            have : xs.length ≠ 0 := fun e => hx (List.eq_nil_of_length_eq_zero e)
            omega
          have hone : one_if xs = 1 := by unfold one_if; rw [if_neg hx]
          have hxl2 : (xs ++ [k]).length = xs.length + 1 := by simp
          obtain ⟨g, c, h1, hg, hk⟩ := L3.kid 4 (by omega)
          have ha := Ad.add_any p3 _ _ c hk (by omega)
          rw [cat_lit] at ha
          subst h1
          rw [List.length_map] at ha
          have HMA := hidd (mkAlt_lots (ns := ns') hx2)
          have n1 : (((xs ++ [k]).length : Int) == 1) = false := beq_eq_false_iff_ne.2 (by omega)
          clear L3 hk hx hx2 hxl2
          generalize hxl : (xs ++ [k]).length = xl at *
          have HXL := hidd hxl
          clear hxl
          go_wp2_with fail
          refine ha.mono ?_
          rintro e w8 ⟨rfl, v8, p8, f8⟩
          have g8 := g3.add f8 (x := (catG 4 ((xs ++ [k]).map fun k : Nat => (k : Int)), some ⟨g, 0, none⟩, c)) (fun y hy _ => by cases hy; exact hg)
          have HP := hidd p8
          clear ha p8 f8 c0 c1 c2 c3 c4 c5
          go_wp2
          go_ret
          exact ⟨l'.length, j, ns1, xs, I1, ns' ++ [ndAlt (xs ++ [k])], v8, _, rfl, HRUN.out, by rw [HCL.out, HMA.out, hnl], hij, hj, HE.out, HP.out, gn_map HG.out (gn_alt (xs ++ [k])), g8, by rw [List.length_append, List.length_singleton]; omega⟩
    · have hje : j = s.size := by omega
      have hE := fun m => ends_yes (p1.pr.drewN m) hje
      have HE : Hid (j < s.size → at_ (bs s) j = 41) := fun h => by omega
      clear hje hge hend
      go_wp2_with fail
      go_quiet ((go_at_call 66; exact Calls.quiet_of (hE _)))
      have p3 := p1.read ((Touch.refl b b wr).drewN nq) (p1.pr.drewN nq)
      have g3 := g1.read ((Touch.refl b b wr).drewN nq)
      have L3 := L1.read ((Touch.refl b b wr).drewN nq)
      clear p1 g1 L1 hE c0 c1 c2 c3 c4 c5
      generalize wr.drewN nq = w3 at *
      -- in world w3: p3, g3, L3 : Loc .. (xs ++ [k]), HRUN, HMK, HG, HE
      have hnl := gn_len HG.out
      have hcl : close ns1 xs I1 = mkAlt ns' (xs ++ [k]) := by unfold close; rw [HMK.out]
      have HCL := hidd hcl
      clear hcl
      obtain ⟨c0, c1, c2, c3, c4, c5⟩ := p3.pr.cells
      by_cases hx : xs = []
      · subst hx
        obtain ⟨g, c, rfl, hcell⟩ := loc_first L3
        have HP := hidd p3
        clear L3 p3
        go_wp2
        go_ret
        refine ⟨k, j, ns1, [], I1, ns', v', l', rfl, HRUN.out, by rw [HCL.out]; rfl, hij, hj, HE.out, HP.out, HG.out, g3, ?_⟩
        unfold one_if at hlen
        simp at hlen
        omega
      · have hx2 : 2 ≤ (xs ++ [k]).length := by
          rw [List.length_append, List.length_singleton]
          have : xs.length ≠ 0 := fun e => hx (List.eq_nil_of_length_eq_zero e)
          omega
        have hone : one_if xs = 1 := by unfold one_if; rw [if_neg hx]
        have hxl2 : (xs ++ [k]).length = xs.length + 1 := by simp
        obtain ⟨g, c, h1, hg, hk⟩ := L3.kid 4 (by omega)
        have ha := Ad.add_any p3 _ _ c hk (by omega)
        rw [cat_lit] at ha
        subst h1
        rw [List.length_map] at ha
        have HMA := hidd (mkAlt_lots (ns := ns') hx2)
        have n1 : (((xs ++ [k]).length : Int) == 1) = false := beq_eq_false_iff_ne.2 (by omega)
        clear L3 hk hx hx2 hxl2
        generalize hxl : (xs ++ [k]).length = xl at *
        have HXL := hidd hxl
        clear hxl
        go_wp2_with fail
        refine ha.mono ?_
        rintro e w8 ⟨rfl, v8, p8, f8⟩
        have g8 := g3.add f8 (x := (catG 4 ((xs ++ [k]).map fun k : Nat => (k : Int)), some ⟨g, 0, none⟩, c)) (fun y hy _ => by cases hy; exact hg)
        have HP := hidd p8
        clear ha p8 f8 c0 c1 c2 c3 c4 c5
        go_wp2
        go_ret
        exact ⟨l'.length, j, ns1, xs, I1, ns' ++ [ndAlt (xs ++ [k])], v8, _, rfl, HRUN.out, by rw [HCL.out, HMA.out, hnl], hij, hj, HE.out, HP.out, gn_map HG.out (gn_alt (xs ++ [k])), g8, by rw [List.length_append, List.length_singleton]; omega⟩
theorem altC : ∀ n, AltC n
  | 0 => fun w b s v l i ns st _ _ hn => by omega
  | n + 1 => alt_step (altC n)
theorem qs_nds (p : QS w b s (i : Int) d v l) : ∃ A c, v = .slice A l.length c ∧ Nds w w.heap.size A (l.map (·.1)) ∧ l.length ≤ c := by
  rcases Nat.eq_zero_or_pos l.length with h0 | h0
  · obtain ⟨A, c, hv⟩ := own_form p.own
    refine ⟨A, c, hv, fun hne => absurd ?_ hne, by omega⟩
    rw [List.eq_nil_of_length_eq_zero h0]
    rfl
  · obtain ⟨g, c, hv, _, hg⟩ := own_pos p.own h0
    have hcap : l.length ≤ c := by
      rcases p.own.2 with ⟨hv', _⟩ | ⟨g', cap', cur, hv', hg', hh, h3, _⟩
      · rw [hv] at hv'; cases hv'
      · rw [hv] at hv'; cases hv'; exact h3
    refine ⟨_, c, hv, fun _ => ⟨g, 0, rfl, hg, fun i hi => ?_⟩, hcap⟩
    rw [List.length_map] at hi
    have hx : l[i]? = some l[i] := List.getElem?_eq_getElem hi
    have e : (l.map (·.1)).getD i gd0 = l[i].1 := by rw [List.getD_eq_getElem?_getD, List.getElem?_map, hx]; rfl
    rw [e]
    refine ⟨l[i].2.1, l[i].2.2, fun hne => ?_, fun j u hu => ?_⟩
    · obtain ⟨q, off, h1, h2, -, -, h5⟩ := p.kids _ (List.getElem_mem hi) hne
      exact ⟨q, off, h1, h2, h5⟩
    · have hj : j < 9 := by
        rcases Nat.lt_or_ge j 9 with h | h
        · exact h
        · rw [List.getElem?_eq_none (by rw [gdL_len]; exact h)] at hu; cases hu
      have := p.own.cells (g := g) (by rw [hv]; rfl) (i * 9 + j) u (by rw [nodesC_at l i j _ hx hj]; exact hu)
      rw [Nat.zero_add]
      have ha : (⟨g, 0, none⟩ : Addr).add (i * 9 + j) = ⟨g, i * 9 + j, none⟩ := by unfold Addr.add; split <;> simp_all
      rw [ha] at this
      exact this
set_option maxHeartbeats 2000000 in
/-- The reference's Parse of a simple pattern that is right. -/
theorem refparse_cap (s : ByteArray) (hS : Smp s) (ns : List Nd) (hp : parse (bs s) = .ok ns) (w : World) :
    Calls Try.prog 50 #[.string s] w fun e w' => ∃ A c gs, e = .returned (.tuple #[.slice A gs.length c, .int .i64 0, .int .i64 0]) ∧ Nds w' w'.heap.size A gs ∧ GN gs ns ∧ Below w.heap.size w w' ∧ gs.length ≤ c := by
  have hbl := bs_len s
  have hsz := hS.sz
  have hpr := parse_run (t := bs s) (by rw [hbl]; omega)
  rw [hp] at hpr
  obtain ⟨ns0, hr0⟩ : ∃ ns0, run (bs s) start = .ok ns0 := by
    cases h : run (bs s) start with
    | error x => rw [h] at hpr; cases hpr
    | ok x => exact ⟨x, rfl⟩
  rw [hr0] at hpr
  simp only at hpr
  have hlen0 : ¬ 1024 < ns0.length := fun h => by rw [if_pos h] at hpr; cases hpr
  rw [if_neg hlen0] at hpr
  cases hpr
  have hi : ¬ (1024 : Int) < (s.size : Int) := by omega
  have p0 : QS (w.alloc (.cells #[.string s, .int .i64 0, .slice none 0 0, .int .i64 0, .int .i64 0, .int .i64 0] 104)) w.heap.size s ((0 : Nat) : Int) ((([] : List (List Nat × List Nat)).length : Nat) : Int) (.slice none 0 0) [] :=
    ⟨RowA.new w _ _, ⟨rfl, .inl ⟨rfl, rfl⟩⟩, nofun, fun x hx => absurd hx (List.not_mem_nil)⟩
  have halt := altC (s.size + 1) _ _ s _ [] 0 [] [] hS ⟨ns, hr0⟩ (by omega) p0 ⟨rfl, fun i hi => absurd hi (Nat.not_lt_zero _)⟩ (by omega) (by simp) (by simp)
  have HR0 := hidd hr0
  have HL0 := hidd hlen0
  have HBL := hidd hbl
  have HP := hidd hp
  clear hr0 hlen0 hp p0 hbl hS
  go_enter Try.func50, Try.ntmps50
  go_wp2_with fail
  refine halt.mono ?_
  rintro e w1 ⟨k, j, ns1, a1, I1, ns', v', l', rfl, hrun, hcl, hij, hj, hend, p1, hgn, g1, hlen⟩
  have hje : j = s.size := by
    rcases Nat.lt_or_ge j s.size with q | q
    · have h41 := hend q
      have := HR0.out
      unfold start at this
      rw [hrun, run_over (by rw [HBL.out]; exact q) h41] at this
      cases this
    · omega
  have hnn : ns = ns' := by
    have := HR0.out
    unfold start at this
    rw [hrun, run_done (by rw [HBL.out]; exact hje), hcl] at this
    cases this
    rfl
  subst hnn
  have hb := fr_below g1.fr
  have hgl := gn_len hgn
  obtain ⟨A, c, hv, hnd, hcp⟩ := qs_nds p1
  have HCP := hidd hcp
  clear hcp
  subst hv
  have hE := ends_yes p1.pr hje
  have HG := hidd hgn
  have HLM : Hid ((l'.map (·.1)).length = l'.length) := List.length_map ..
  have hml : ¬ 1024 < l'.length := by rw [← hgl]; exact HL0.out
  have hmi : ¬ (1024 : Int) < (l'.length : Int) := by omega
  clear halt hrun hcl hend hgn g1 hje
  go_wp2_with fail
  refine hE.mono ?_
  rintro e w2 ⟨rfl, m2, rfl⟩
  have HN2 : Hid (Nds (w1.drewN m2) (w1.drewN m2).heap.size A (l'.map (·.1))) := hnd
  have HB2 := hidd (bel_drewN hb m2)
  have R2 := p1.pr.drewN m2
  clear hE hnd hb p1
  generalize w1.drewN m2 = w2 at *
  obtain ⟨c0, c1, c2, c3, c4, c5⟩ := R2.cells
  clear hgl
  go_wp2
  go_ret3
  exact ⟨A, c, l'.map (·.1), by rw [HLM.out]; rfl, HN2.out, HG.out, HB2.out, by rw [HLM.out]; exact HCP.out⟩
theorem refparse_any (s : ByteArray) (hS : Smp s) (ns : List Nd) (hp : parse (bs s) = .ok ns) (w : World) :
    Calls Try.prog 50 #[.string s] w fun e w' => ∃ A c gs, e = .returned (.tuple #[.slice A gs.length c, .int .i64 0, .int .i64 0]) ∧ Nds w' w'.heap.size A gs ∧ GN gs ns ∧ Below w.heap.size w w' :=
  (refparse_cap s hS ns hp w).mono fun e w' ⟨A, c, gs, h1, h2, h3, h4, _⟩ => ⟨A, c, gs, h1, h2, h3, h4⟩
end
end Go.Proofs.Ytahhiajliomcfaa.Sy.Rf

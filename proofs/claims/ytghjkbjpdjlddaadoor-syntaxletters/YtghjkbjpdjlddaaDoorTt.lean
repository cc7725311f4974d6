/- The landed parser: an item. -/
import Derived.Test.YtghjkbjpdjlddaaDoorTs
namespace Go.Proofs.YtghjkbjpdjlddaaDoor.Sy
open Go.RowKit
set_option maxRecDepth 100000
set_option linter.unusedVariables false

section
variable {w w' w1 : World} {b : Nat} {s : ByteArray} {v v1 : Value} {l l1 : List NR} {i : Nat} {ns : List Nd} {st : List (List Nat × List Nat)} {aa I : List Nat}
/-- An item was read: no repetition stands behind it. -/
def ItemQ (w : World) (b : Nat) (s : ByteArray) (v : Value) (l : List NR) (i : Nat) (ns : List Nd) (st : List (List Nat × List Nat)) (aa I : List Nat) (e : Ending) (w' : World) : Prop :=
  (∃ (k j : Nat) (ns' : List Nd) (v' : Value) (l' : List NR), e = .returned (.tuple #[.int .i64 (k : Int), .bool true]) ∧ run (bs s) ⟨i, ns, st, aa, I⟩ = run (bs s) ⟨j, ns', st, aa, I ++ [k]⟩ ∧ i < j ∧ j ≤ s.size ∧
    PS w' b s (j : Int) 0 0 (st.length : Int) v' l' ∧ GN (l'.map (·.1)) ns' ∧ Goes b v l v' l' w w' ∧ l'.length + 2 * i ≤ l.length + 2 * j ∧ repAt (bs s) j = false) ∨
  BadR w b s v (run (bs s) ⟨i, ns, st, aa, I⟩) e w'
/-- Reading an item while it goes on. -/
def ItmR (w : World) (b : Nat) (s : ByteArray) (v : Value) (l : List NR) (i : Nat) (ns : List Nd) (st : List (List Nat × List Nat)) (aa I : List Nat) (s4 s5 : Value) (wr : World) : Prop :=
  (∃ (k j : Nat) (ns' : List Nd) (v' : Value) (l' : List NR), s4 = .int .i64 (k : Int) ∧ s5 = .bool true ∧ run (bs s) ⟨i, ns, st, aa, I⟩ = run (bs s) ⟨j, ns', st, aa, I ++ [k]⟩ ∧ i < j ∧ j ≤ s.size ∧
    PS wr b s (j : Int) 0 0 (st.length : Int) v' l' ∧ GN (l'.map (·.1)) ns' ∧ Goes b v l v' l' w wr ∧ l'.length + 2 * i ≤ l.length + 2 * j) ∨
  (∃ (k : Int) (x p j : Nat) (v' : Value) (d' : Int), s4 = .int .i64 k ∧ s5 = .bool false ∧ run (bs s) ⟨i, ns, st, aa, I⟩ = .error (x, p) ∧ PR wr b s (j : Int) (x : Int) (p : Int) v' d' ∧ Fr b v v' w wr)
def itmM (b : Nat) (s : ByteArray) (s5 : Value) (wr : World) : Nat := match s5 with | .bool true => s.size + 1 - atOf wr b | _ => 0
theorem rep_or (t : List Nat) (j : Nat) : repAt t j = (seesB t j [42, 43, 63] || (is t j 123 && dig t (j + 1))) := by
  have h : seesB t j [42, 43, 63] = (is t j 42 || is t j 43 || is t j 63) := by
    unfold seesB is
    cases decide (j < t.length) with
    | false => rfl
    | true =>
      simp only [Bool.true_and, List.contains_cons, List.contains_nil, Bool.or_false, Bool.or_assoc]
  unfold repAt
  rw [h]
theorem rep_lt {t : List Nat} {j : Nat} (h : repAt t j = true) : j < t.length := by
  unfold repAt at h
  simp only [Bool.or_eq_true, Bool.and_eq_true] at h
  rcases h with ((h | h) | h) | ⟨h, _⟩ <;> exact (is_lt h).1
theorem rep_lit (k lo hi : Int) (A : Option Addr) (c : Nat) : (gdL (repG k lo hi) A c).toArray = #[.int .u8 5, .int .u64 0, .int .u64 0, .int .u64 0, .int .u64 0, .slice A 1 c, .int .i64 lo, .int .i64 hi, .string { data := #[] }] := by
  simp only [gdL, repG, W_zero, List.length_cons, List.length_nil, Nat.zero_add]
theorem Goes.into (f : Fr b v v w w1) {v' : Value} {l' : List NR} {w2 : World} (g : Goes b v l v' l' w1 w2) : Goes b v l v' l' w w2 := by
  obtain ⟨m, h5, h6⟩ := g.new
  exact ⟨f.trans g.fr, m, h5, fun x hx a ha hne => Nat.le_trans f.size (h6 x hx a ha hne)⟩

set_option maxHeartbeats 4000000 in
theorem item_any {n : Nat} (hA : AltC n) (hn : s.size - i < n + 1) (p : PS w b s (i : Int) 0 0 (st.length : Int) v l) (hg : GN (l.map (·.1)) ns) (hi : i < s.size) (hs : s.size ≤ 1024) (hst : st.length ≤ 64) (hl : l.length ≤ 2 * i) (h1 : at_ (bs s) i ≠ 124) (h2 : at_ (bs s) i ≠ 41) (h3 : I = [] ∨ repAt (bs s) i = false) :
    Calls Tryd.prog 70 #[.pointer (some ⟨b, 0, none⟩)] w fun e w' => ItemQ w b s v l i ns st aa I e w' := by
  have HBL := hidd (bs_len s)
  go_enter Tryd.func70, Tryd.ntmps70
  go_wp2_with fail
  refine (atom_any (aa := aa) (I := I) hA hn p hg hi hs hst hl h1 h2 h3).mono ?_
  rintro e w1 hr
  have hsh : ∃ (s4 s5 : Value), e = .returned (.tuple #[s4, s5]) ∧ ItmR w b s v l i ns st aa I s4 s5 w1 := by
    rcases hr with ⟨k, j, ns', v', l', h5, h6⟩ | ⟨k, x, pp, j, v', d', h5, h6⟩
    · exact ⟨_, _, h5, .inl ⟨k, j, ns', v', l', rfl, rfl, h6⟩⟩
    · exact ⟨_, _, h5, .inr ⟨k, x, pp, j, v', d', rfl, rfl, h6⟩⟩
  obtain ⟨s4, s5, rfl, hr5⟩ := hsh
  have HR5 := hidd hr5
  clear hr hr5 hA hn p hg h1 h2 h3
  go_wp2
  go_loopw [4, 5] (fun s4 s5 wr => ItmR w b s v l i ns st aa I s4 s5 wr) (fun _ s5 wr => itmM b s s5 wr)
  case atStart => exact HR5.out
  case round =>
    clear HR5
    rcases hrel with ⟨k, j, ns', v', l', rfl, rfl, hrun, hij, hj, p1, g1n, g1, hlen⟩ | ⟨k, x, pp, j, v', d', rfl, rfl, hr, R1, f1⟩
    · have HRUN := hidd hrun
      have HG := hidd g1n
      clear hrun g1n
      go_wp2_with fail
      refine (sees_any p1.pr hj { data := #[42, 43, 63] }).mono ?_
      rintro e w2 ⟨rfl, m2, rfl⟩
      have hro := rep_or (bs s) j
      rw [show bs { data := #[42, 43, 63] } = [42, 43, 63] from rfl]
      cases hse : seesB (bs s) j [42, 43, 63] with
      | true =>
        have hrep : repAt (bs s) j = true := by rw [hro, hse]; rfl
        have R3 := p1.pr.drewN m2
        have T3 := (Touch.refl b b wr).drewN m2
        clear hro hse
        generalize wr.drewN m2 = w3 at *
        have hjl : j < s.size := by have := rep_lt hrep; rw [HBL.out] at this; exact this
        have hrr : run (bs s) ⟨j, ns', st, aa, I ++ [k]⟩ = _ := run_repet (by rw [HBL.out]; exact hjl) hrep
        have HRR := hidd hrr
        clear hrr
        have hao : atOf wr b = j := p1.pr.atOf
        have p3 := p1.read T3 R3
        have g3 := g1.read T3
        clear T3 R3
        go_wp2_with fail
        refine (prepet_any p3.pr hjl (by omega) p3.ev p3.eb hrep).mono ?_
        rintro e w4 ⟨T4, hg4⟩
        have f4 := g3.read T4
        clear hrep
        unfold GotN at hg4
        cases hre : repet (bs s) j with
        | error x =>
          obtain ⟨x, pp⟩ := x
          rw [hre] at hg4 HRR
          obtain ⟨rfl, j4, R4⟩ := hg4
          have HRE := hidd hre
          clear hre
          go_wp2
          refine ⟨.inr ⟨_, x, pp, j4, v', _, rfl, rfl, ?_, R4, f4.fr⟩, ?_⟩
          · rw [HRUN.out]
            exact HRR.out
          · show 0 < _
            unfold itmM
            simp only
            omega
        | ok x =>
          obtain ⟨⟨lo, hi2⟩, j2⟩ := x
          have hj2 := repet_ok (by rw [HBL.out]; exact hjl) hre
          rw [HBL.out] at hj2
          rw [hre] at hg4 HRR
          obtain ⟨rfl, R4⟩ := hg4
          have p4 := p3.read T4 R4
          have p5 := p4.alloc (.cells #[.int .i64 (k : Int)] 3)
          have g5 := f4.read ((Touch.refl b b w4).alloc (.cells #[.int .i64 (k : Int)] 3))
          have hq := p4.pr.lt
          have hqv := p4.own.lt
          have hk5 : Kid (w4.alloc (.cells #[.int .i64 (k : Int)] 3)) b v' (repG (k : Int) lo hi2, some ⟨w4.heap.size, 0, none⟩, 1) := fun _ => ⟨w4.heap.size, 0, rfl, by simp, by omega, fun e => by have := (hqv _ e).2; omega, fun t ht => by
            have ht0 : t = 0 := by simp [repG] at ht; exact ht
            subst ht0
            rw [World.cell?_alloc_new]
            rfl⟩
          have hl5 : l'.length ≤ 100000 := by omega
          have ha := Ad.add_any p5 (repG (k : Int) lo hi2) (some ⟨w4.heap.size, 0, none⟩) 1 hk5 hl5
          rw [rep_lit] at ha
          have hw4 := f4.fr.size
          clear hre R4 T4 p4 p3 hk5 f4 hq hqv g3
          go_wp2_with fail
          generalize w4.alloc (.cells #[.int .i64 (k : Int)] 3) = w5 at *
          refine ha.mono ?_
          rintro e w6 ⟨rfl, v6, p6, f6⟩
          have g6 := g5.add f6 (x := (repG (k : Int) lo hi2, some ⟨w4.heap.size, 0, none⟩, 1)) (fun y hy _ => by cases hy; exact hw4)
          have HGN := hidd (gn_map HG.out (x := (repG (k : Int) lo hi2, some ⟨w4.heap.size, 0, none⟩, 1)) (gn_rep k lo hi2))
          have HP := hidd p6
          clear ha p5 g5 f6 p6
          go_wp2
          have hnl : ns'.length = l'.length := by have := HG.out.1; rw [List.length_map] at this; exact this.symm
          refine ⟨.inl ⟨l'.length, j2, ns' ++ [ndRep k lo hi2], v6, _, rfl, rfl, ?_, by omega, hj2.2, HP.out, HGN.out, g6, by rw [List.length_append, List.length_singleton]; omega⟩, ?_⟩
          · rw [HRUN.out, ← hnl]
            exact HRR.out
          · have e6 := HP.out.pr.atOf
            unfold itmM
            simp only
            rw [e6, hao]
            omega
      | false =>
        rw [hse, Bool.false_or] at hro
        go_wp2_with fail
        refine (bnds_any (p1.pr.drewN m2) hj (by omega)).mono ?_
        rintro e w3 ⟨rfl, m3, rfl⟩
        cases hbn : (is (bs s) j 123 && dig (bs s) (j + 1)) with
        | true =>
          have hrep : repAt (bs s) j = true := by rw [hro, hbn]
          have R3 := (p1.pr.drewN m2).drewN m3
          have T3 := ((Touch.refl b b wr).drewN m2).drewN m3
          clear hro hse hbn
          generalize (wr.drewN m2).drewN m3 = w3 at *
          have hjl : j < s.size := by have := rep_lt hrep; rw [HBL.out] at this; exact this
          have hrr : run (bs s) ⟨j, ns', st, aa, I ++ [k]⟩ = _ := run_repet (by rw [HBL.out]; exact hjl) hrep
          have HRR := hidd hrr
          clear hrr
          have hao : atOf wr b = j := p1.pr.atOf
          have p3 := p1.read T3 R3
          have g3 := g1.read T3
          clear T3 R3
          go_wp2_with fail
          refine (prepet_any p3.pr hjl (by omega) p3.ev p3.eb hrep).mono ?_
          rintro e w4 ⟨T4, hg4⟩
          have f4 := g3.read T4
          clear hrep
          unfold GotN at hg4
          cases hre : repet (bs s) j with
          | error x =>
            obtain ⟨x, pp⟩ := x
            rw [hre] at hg4 HRR
            obtain ⟨rfl, j4, R4⟩ := hg4
            have HRE := hidd hre
            clear hre
            go_wp2
            refine ⟨.inr ⟨_, x, pp, j4, v', _, rfl, rfl, ?_, R4, f4.fr⟩, ?_⟩
            · rw [HRUN.out]
              exact HRR.out
            · show 0 < _
              unfold itmM
              simp only
              omega
          | ok x =>
            obtain ⟨⟨lo, hi2⟩, j2⟩ := x
            have hj2 := repet_ok (by rw [HBL.out]; exact hjl) hre
            rw [HBL.out] at hj2
            rw [hre] at hg4 HRR
            obtain ⟨rfl, R4⟩ := hg4
            have p4 := p3.read T4 R4
            have p5 := p4.alloc (.cells #[.int .i64 (k : Int)] 3)
            have g5 := f4.read ((Touch.refl b b w4).alloc (.cells #[.int .i64 (k : Int)] 3))
            have hq := p4.pr.lt
            have hqv := p4.own.lt
            have hk5 : Kid (w4.alloc (.cells #[.int .i64 (k : Int)] 3)) b v' (repG (k : Int) lo hi2, some ⟨w4.heap.size, 0, none⟩, 1) := fun _ => ⟨w4.heap.size, 0, rfl, by simp, by omega, fun e => by have := (hqv _ e).2; omega, fun t ht => by
              have ht0 : t = 0 := by simp [repG] at ht; exact ht
              subst ht0
              rw [World.cell?_alloc_new]
              rfl⟩
            have hl5 : l'.length ≤ 100000 := by omega
            have ha := Ad.add_any p5 (repG (k : Int) lo hi2) (some ⟨w4.heap.size, 0, none⟩) 1 hk5 hl5
            rw [rep_lit] at ha
            have hw4 := f4.fr.size
            clear hre R4 T4 p4 p3 hk5 f4 hq hqv g3
            go_wp2_with fail
            generalize w4.alloc (.cells #[.int .i64 (k : Int)] 3) = w5 at *
            refine ha.mono ?_
            rintro e w6 ⟨rfl, v6, p6, f6⟩
            have g6 := g5.add f6 (x := (repG (k : Int) lo hi2, some ⟨w4.heap.size, 0, none⟩, 1)) (fun y hy _ => by cases hy; exact hw4)
            have HGN := hidd (gn_map HG.out (x := (repG (k : Int) lo hi2, some ⟨w4.heap.size, 0, none⟩, 1)) (gn_rep k lo hi2))
            have HP := hidd p6
            clear ha p5 g5 f6 p6
            go_wp2
            have hnl : ns'.length = l'.length := by have := HG.out.1; rw [List.length_map] at this; exact this.symm
            refine ⟨.inl ⟨l'.length, j2, ns' ++ [ndRep k lo hi2], v6, _, rfl, rfl, ?_, by omega, hj2.2, HP.out, HGN.out, g6, by rw [List.length_append, List.length_singleton]; omega⟩, ?_⟩
            · rw [HRUN.out, ← hnl]
              exact HRR.out
            · have e6 := HP.out.pr.atOf
              unfold itmM
              simp only
              rw [e6, hao]
              omega
        | false =>
          rw [hbn] at hro
          have HRO := hidd hro
          clear hro hse hbn
          go_wp2
          go_ret2
          have T3 := (Touch.refl b b wr).drewN (m2 + m3)
          exact .inl ⟨k, j, ns', v', l', rfl, HRUN.out, hij, hj, p1.read T3 (p1.pr.drewN (m2 + m3)), HG.out, g1.read T3, hlen, HRO.out⟩
    · have HR := hidd hr
      clear hr
      go_wp2
      go_ret2
      exact .inr ⟨k, x, pp, j, v', d', rfl, HR.out, R1, f1⟩
end

end Go.Proofs.YtghjkbjpdjlddaaDoor.Sy

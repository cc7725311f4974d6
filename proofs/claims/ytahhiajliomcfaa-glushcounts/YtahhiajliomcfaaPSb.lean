/- The landed fits. -/
import Derived.Test.YtahhiajliomcfaaPSa
import Derived.Test.YtahhiajliomcfaaPM4
namespace Go.Proofs.Ytahhiajliomcfaa.Sy
open Go.RowKit
set_option maxRecDepth 100000
set_option linter.unusedVariables false

theorem bnd_rp (g : Gd) : bndB g.lo g.hi = (decide (0 ≤ g.lo) && decide (g.lo ≤ 4096) && hiOk g) := by
  unfold bndB hiOk
  rw [Bool.eq_iff_iff]
  simp
  omega
set_option maxHeartbeats 2000000 in
theorem fits_any (g : Gd) (A : Option Addr) (c : Nat) (w : World) (hs : g.nm.size ≤ maxLen) (hl : g.l.length ≤ maxLen) :
    Calls Try.prog 70 #[.agg (gdL g A c).toArray] w fun e w' => e = .returned (.bool (shapeG g)) ∧ Below w.heap.size w w' := by
  have R := RowA.new w 42 (gdL g A c).toArray
  have D : Below w.heap.size w (w.alloc (.cells (gdL g A c).toArray 42)) := (Below.refl _ _).alloc (Nat.le_refl _) _
  obtain ⟨a0, a1, a2, a3, a4, a5, a6, a7, a8⟩ := node_cells R
  have hz := set_zero g.s
  have HG : Hid (shapeG g = shapeV g.op (emptyS g.s) (!(g.lo == 0) || !(g.hi == 0)) (!g.nm.toList.isEmpty) g.l.length (decide (0 ≤ g.lo) && decide (g.lo ≤ 4096) && hiOk g) (nameB (bs g.nm))) := rfl
  clear R
  go_enter Try.func70, Try.ntmps70
  go_upto_region 1 with fail
  generalize hw1 : w.alloc (.cells (gdL g A c).toArray 42) = w1 at *
  clear hw1
  go_upto_region 2 with fail
  go_cut [4] (fun s4 wx => s4 = .bool (!(g.lo == 0) || !(g.hi == 0)) ∧ w1 = wx)
  case first =>
    by_cases h1 : g.lo = 0
    · by_cases h2 : g.hi = 0
      · go_wp2
        go_meet
        exact ⟨by simp [h1, h2], rfl⟩
      · have h2b : (g.hi != 0) = true := by simpa using h2
        go_wp2
        go_meet
        exact ⟨by simp [h1, h2], rfl⟩
    · have h1b : (g.lo != 0) = true := by simpa using h1
      go_wp2
      go_meet
      exact ⟨by simp [h1], rfl⟩
  case rest =>
    obtain ⟨rfl, rfl⟩ := hcut
    have HN := hidd (pname_same g.nm w1 hs)
    have hab := arebnd_any g.lo g.hi w1
    rw [bnd_rp] at hab
    have HAB := hidd hab
    clear hab
    unfold maxLen at hl
    go_upto_region 5 with fail
    generalize (decide (0 ≤ g.lo) && decide (g.lo ≤ 4096) && hiOk g) = rp at *
    generalize nameB (bs g.nm) = nb at *
    generalize emptyS g.s = e at *
    generalize (!(g.lo == 0) || !(g.hi == 0)) = b at *
    generalize g.nm.toList.isEmpty = mm at *
    generalize g.l.length = L at *
    generalize g.op = op at *
    clear hz a0 a1 a2 a3 a4
    by_cases o1 : op = 1
    · subst o1
      clear HAB HN
      by_cases hL : L = 0
      · have hLi : ((L : Int) == 0) = true := by rw [hL]; rfl
        cases e <;> cases b <;> cases mm <;> (go_wp2; go_ret; exact ⟨by rw [HG.out]; exact ret_bool (by simp [shapeV, hL]), D⟩)
      · have hLi : ((L : Int) == 0) = false := beq_eq_false_iff_ne.2 (by omega)
        cases e <;> cases b <;> cases mm <;> (go_wp2; go_ret; exact ⟨by rw [HG.out]; exact ret_bool (by simp [shapeV, hL]), D⟩)
    · by_cases o2 : op = 2
      · subst o2
        clear HAB HN
        by_cases hL : L = 0
        · have hLi : ((L : Int) == 0) = true := by rw [hL]; rfl
          cases e <;> cases b <;> cases mm <;> (go_wp2; go_ret; exact ⟨by rw [HG.out]; exact ret_bool (by simp [shapeV, hL]), D⟩)
        · have hLi : ((L : Int) == 0) = false := beq_eq_false_iff_ne.2 (by omega)
          cases e <;> cases b <;> cases mm <;> (go_wp2; go_ret; exact ⟨by rw [HG.out]; exact ret_bool (by simp [shapeV, hL]), D⟩)
      · by_cases o3 : op = 3
        · subst o3
          clear HAB HN
          by_cases hL : 2 ≤ L
          · have hLi : decide ((2 : Int) ≤ (L : Int)) = true := decide_eq_true (by omega)
            cases e <;> cases b <;> cases mm <;> (go_wp2; go_ret; exact ⟨by rw [HG.out]; exact ret_bool (by simp [shapeV, hL]), D⟩)
          · have hLi : decide ((2 : Int) ≤ (L : Int)) = false := decide_eq_false (by omega)
            cases e <;> cases b <;> cases mm <;> (go_wp2; go_ret; exact ⟨by rw [HG.out]; exact ret_bool (by simp [shapeV, hL]), D⟩)
        · by_cases o4 : op = 4
          · subst o4
            clear HAB HN
            by_cases hL : 2 ≤ L
            · have hLi : decide ((2 : Int) ≤ (L : Int)) = true := decide_eq_true (by omega)
              cases e <;> cases b <;> cases mm <;> (go_wp2; go_ret; exact ⟨by rw [HG.out]; exact ret_bool (by simp [shapeV, hL]), D⟩)
            · have hLi : decide ((2 : Int) ≤ (L : Int)) = false := decide_eq_false (by omega)
              cases e <;> cases b <;> cases mm <;> (go_wp2; go_ret; exact ⟨by rw [HG.out]; exact ret_bool (by simp [shapeV, hL]), D⟩)
          · have n1 : (op == 1) = false := by simpa using o1
            have n2 : (op == 2) = false := by simpa using o2
            have n3 : (op == 3) = false := by simpa using o3
            have n4 : (op == 4) = false := by simpa using o4
            by_cases o5 : op = 5
            · subst o5
              clear HN
              by_cases hL : L = 1
              · have hLi : ((L : Int) == 1) = true := by rw [hL]; rfl
                cases e with
                | false =>
                  clear HAB
                  go_wp2
                  go_ret
                  exact ⟨by rw [HG.out]; exact ret_bool (by simp [shapeV, hL]), D⟩
                | true =>
                  go_wp2_with fail
                  refine HAB.out.mono ?_
                  rintro e w2 ⟨rfl, rfl⟩
                  clear HAB
                  cases rp <;> cases mm <;> (go_wp2; go_ret; exact ⟨by rw [HG.out]; exact ret_bool (by simp [shapeV, hL]), D⟩)
              · have hLi : ((L : Int) == 1) = false := beq_eq_false_iff_ne.2 (by omega)
                clear HAB
                cases e <;> (go_wp2; go_ret; exact ⟨by rw [HG.out]; exact ret_bool (by simp [shapeV, hL]), D⟩)
            · have n5 : (op == 5) = false := by simpa using o5
              clear HAB
              by_cases o6 : op = 6
              · subst o6
                by_cases hL : L = 0
                · have hLi : ((L : Int) == 0) = true := by rw [hL]; rfl
                  cases e with
                  | false =>
                    clear HN
                    go_wp2
                    go_ret
                    exact ⟨by rw [HG.out]; exact ret_bool (by simp [shapeV, hL]), D⟩
                  | true =>
                    cases b with
                    | true =>
                      clear HN
                      go_wp2
                      go_ret
                      exact ⟨by rw [HG.out]; exact ret_bool (by simp [shapeV, hL]), D⟩
                    | false =>
                      go_wp2_with fail
                      refine HN.out.mono ?_
                      rintro e w2 ⟨rfl, rfl⟩
                      clear HN
                      cases nb <;> (go_wp2; go_ret; exact ⟨by rw [HG.out]; exact ret_bool (by simp [shapeV, hL]), D⟩)
                · have hLi : ((L : Int) == 0) = false := beq_eq_false_iff_ne.2 (by omega)
                  clear HN
                  cases e <;> (go_wp2; go_ret; exact ⟨by rw [HG.out]; exact ret_bool (by simp [shapeV, hL]), D⟩)
              · have n6 : (op == 6) = false := by simpa using o6
                clear HN
                go_wp2
                go_ret
                exact ⟨by rw [HG.out]; exact ret_bool (by simp [shapeV, o1, o2, o3, o4, o5, o6]), D⟩

end Go.Proofs.Ytahhiajliomcfaa.Sy

/- The reference's shape. -/
import Derived.Test.YtghjkbjpdjlddaaDoorNi
namespace Go.Proofs.YtghjkbjpdjlddaaDoor.Sy
open Go.RowKit

theorem eqB_empty (p : Nat → Bool) : eqB p noB = emptyS p := by
  cases h : emptyS p with
  | true =>
    refine eqB_true fun b hb => ?_
    unfold emptyS at h
    rw [List.all_eq_true] at h
    have := h b (List.mem_range.2 hb)
    simpa [noB] using this
  | false =>
    unfold emptyS at h
    rw [List.all_eq_false] at h
    obtain ⟨b, hb, hp⟩ := h
    have hb := List.mem_range.1 hb
    have hp : p b = true := by simpa using hp
    unfold eqB
    rw [decide_eq_false_iff_not]
    rintro ⟨h0, h1, h2, h3⟩
    have key : ∀ i, i < 4 → W p i = W noB i := fun i hi => by
      have : i = 0 ∨ i = 1 ∨ i = 2 ∨ i = 3 := by omega
      rcases this with rfl | rfl | rfl | rfl <;> assumption
    have := W_inj (key (b / 64) (by omega)) (b % 64) (by omega)
    rw [show 64 * (b / 64) + b % 64 = b from by omega, hp] at this
    cases this
theorem set_zero (p : Nat → Bool) (w : World) : (binOp .neq 28 (.agg #[.int .u64 (W (p) 0), .int .u64 (W (p) 1), .int .u64 (W (p) 2), .int .u64 (W (p) 3)]) (.agg #[.int .u64 0, .int .u64 0, .int .u64 0, .int .u64 0])).run Tryd.prog w = .ok (.bool (!emptyS p)) w := by
  have := set_neq p noB w
  rw [W_zero, W_zero, W_zero, W_zero, eqB_empty] at this
  exact this

/-- Has a node just what its kind has? In memory's own numbers. -/
def hiOk (g : Gd) : Bool := g.hi == -1 || (decide (1 ≤ g.hi) && decide (g.hi ≤ 4096) && decide (g.lo ≤ g.hi))
def shapeV (op : Int) (e b m : Bool) (L : Nat) (rp nb : Bool) : Bool :=
  if op = 1 then e && !b && !m && decide (L = 0)
  else if op = 2 then !e && !b && !m && decide (L = 0)
  else if op = 3 ∨ op = 4 then e && !b && !m && decide (2 ≤ L)
  else if op = 5 then e && !m && decide (L = 1) && rp
  else if op = 6 then e && !b && nb && decide (L = 0)
  else false
def shapeG (g : Gd) : Bool := shapeV g.op (emptyS g.s) (!(g.lo == 0) || !(g.hi == 0)) (!g.nm.toList.isEmpty) g.l.length (decide (0 ≤ g.lo) && decide (g.lo ≤ 4096) && hiOk g) (nameB (bs g.nm))

set_option maxRecDepth 100000 in
set_option maxHeartbeats 2000000 in
theorem shape_any (g : Gd) (A : Option Addr) (c : Nat) (w : World) (hs : g.nm.size ≤ maxLen) (hl : g.l.length ≤ maxLen) :
    Calls Tryd.prog 43 #[.agg (gdL g A c).toArray] w fun e w' => e = .returned (.bool (shapeG g)) ∧ Below w.heap.size w w' := by
  have R := RowA.new w 30 (gdL g A c).toArray
  have D : Below w.heap.size w (w.alloc (.cells (gdL g A c).toArray 30)) := (Below.refl _ _).alloc (Nat.le_refl _) _
  obtain ⟨a0, a1, a2, a3, a4, a5, a6, a7, a8⟩ := node_cells R
  have hz := set_zero g.s
  have HG : Hid (shapeG g = shapeV g.op (emptyS g.s) (!(g.lo == 0) || !(g.hi == 0)) (!g.nm.toList.isEmpty) g.l.length (decide (0 ≤ g.lo) && decide (g.lo ≤ 4096) && hiOk g) (nameB (bs g.nm))) := rfl
  clear R
  go_enter Tryd.func43, Tryd.ntmps43
  go_upto_region 1 with fail
  generalize hw1 : w.alloc (.cells (gdL g A c).toArray 30) = w1 at *
  clear hw1
  go_upto_region 2 with fail
  go_cut [4] (fun s4 wx => s4 = .bool (!(g.lo == 0) || !(g.hi == 0)) ∧ w1 = wx)
  case first =>
    by_cases h1 : g.lo = 0
    · by_cases h2 : g.hi = 0
      · go_wp2
        go_meet
        exact ⟨by simp [h1, h2], rfl⟩
      · have h2b : (g.hi != 0) = true := by simpa using h2
        go_wp2
        go_meet
        exact ⟨by simp [h1, h2], rfl⟩
    · have h1b : (g.lo != 0) = true := by simpa using h1
      go_wp2
      go_meet
      exact ⟨by simp [h1], rfl⟩
  case rest =>
    obtain ⟨rfl, rfl⟩ := hcut
    have HN := hidd (rname_any g.nm w1 hs)
    unfold maxLen at hl
    go_upto_region 5 with fail
    generalize hrp : (decide (0 ≤ g.lo) && decide (g.lo ≤ 4096) && hiOk g) = rp at *
    generalize nameB (bs g.nm) = nb at *
    generalize emptyS g.s = e at *
    generalize (!(g.lo == 0) || !(g.hi == 0)) = b at *
    generalize g.nm.toList.isEmpty = mm at *
    generalize g.l.length = L at *
    generalize g.op = op at *
    clear hz a0 a1 a2 a3 a4
    by_cases o1 : op = 1
    · subst o1
      clear hrp HN
      cases e <;> cases b <;> cases mm <;> (go_wp2; go_ret; exact ⟨by rw [HG.out]; first | rfl | exact ret_bool (by rw [Bool.eq_iff_iff]; simp [shapeV]; try omega), D⟩)
    · by_cases o2 : op = 2
      · subst o2
        clear hrp HN
        cases e <;> cases b <;> cases mm <;> (go_wp2; go_ret; exact ⟨by rw [HG.out]; first | rfl | exact ret_bool (by rw [Bool.eq_iff_iff]; simp [shapeV]; try omega), D⟩)
      · by_cases o3 : op = 3
        · subst o3
          clear hrp HN
          cases e <;> cases b <;> cases mm <;> (go_wp2; go_ret; exact ⟨by rw [HG.out]; first | rfl | exact ret_bool (by rw [Bool.eq_iff_iff]; simp [shapeV]; try omega), D⟩)
        · by_cases o4 : op = 4
          · subst o4
            clear hrp HN
            cases e <;> cases b <;> cases mm <;> (go_wp2; go_ret; exact ⟨by rw [HG.out]; first | rfl | exact ret_bool (by rw [Bool.eq_iff_iff]; simp [shapeV]; try omega), D⟩)
          · have n1 : (op == 1) = false := by simpa using o1
            have n2 : (op == 2) = false := by simpa using o2
            have n3 : (op == 3) = false := by simpa using o3
            have n4 : (op == 4) = false := by simpa using o4
            by_cases o5 : op = 5
            · subst o5
              clear HN
              go_upto_region 13 with fail
              go_cut [6] (fun s6 wx => s6 = .bool (hiOk g) ∧ w1 = wx)
              case first =>
                by_cases h1 : g.hi = -1
                · have HH : Hid (hiOk g = true) := by show _ = _; simp [hiOk, h1]
                  clear HG hrp
                  go_wp2
                  go_meet
                  exact ⟨by rw [HH.out], rfl⟩
                · have h1b : (g.hi == -1) = false := by simpa using h1
                  by_cases h2 : 1 ≤ g.hi
                  · by_cases h3 : g.hi ≤ 4096
                    · by_cases h4 : g.lo ≤ g.hi
                      · have HH : Hid (hiOk g = true) := by show _ = _; simp [hiOk, h2, h3, h4]
                        clear HG hrp
                        go_wp2
                        go_meet
                        exact ⟨by rw [HH.out], rfl⟩
                      · have HH : Hid (hiOk g = false) := by show _ = _; simp [hiOk, h1, h4]
                        clear HG hrp
                        go_wp2
                        go_meet
                        exact ⟨by rw [HH.out], rfl⟩
                    · have HH : Hid (hiOk g = false) := by show _ = _; simp [hiOk, h1, h3]
                      clear HG hrp
                      go_wp2
                      go_meet
                      exact ⟨by rw [HH.out], rfl⟩
                  · have HH : Hid (hiOk g = false) := by show _ = _; simp [hiOk, h1, h2]
                    clear HG hrp
                    go_wp2
                    go_meet
                    exact ⟨by rw [HH.out], rfl⟩
              case rest =>
                obtain ⟨rfl, rfl⟩ := hcut
                generalize hiOk g = q at *
                subst hrp
                cases e with
                | false => cases mm <;> (go_wp2; go_ret; exact ⟨by rw [HG.out]; first | rfl | exact ret_bool (by rw [Bool.eq_iff_iff]; simp [shapeV]; try omega), D⟩)
                | true =>
                  cases mm with
                  | false => (go_wp2; go_ret; exact ⟨by rw [HG.out]; first | rfl | exact ret_bool (by rw [Bool.eq_iff_iff]; simp [shapeV]; try omega), D⟩)
                  | true =>
                    by_cases hL : L = 1
                    · subst hL
                      by_cases h1 : 0 ≤ g.lo
                      · by_cases h2 : g.lo ≤ 4096
                        · have HF : Hid (shapeV 5 true b (!true) 1 (decide (0 ≤ g.lo) && decide (g.lo ≤ 4096) && q) nb = q) := by show _ = _; simp [shapeV, h1, h2]
                          go_wp2
                          go_ret
                          exact ⟨by rw [HG.out, HF.out]; rfl, D⟩
                        · have HF : Hid (shapeV 5 true b (!true) 1 (decide (0 ≤ g.lo) && decide (g.lo ≤ 4096) && q) nb = false) := by show _ = _; simp [shapeV, h2]
                          go_wp2
                          go_ret
                          exact ⟨by rw [HG.out, HF.out]; rfl, D⟩
                      · have HF : Hid (shapeV 5 true b (!true) 1 (decide (0 ≤ g.lo) && decide (g.lo ≤ 4096) && q) nb = false) := by show _ = _; simp [shapeV, h1]
                        go_wp2
                        go_ret
                        exact ⟨by rw [HG.out, HF.out]; rfl, D⟩
                    · have hLi : ((L : Int) == 1) = false := by simp; omega
                      have HF : Hid (shapeV 5 true b (!true) L (decide (0 ≤ g.lo) && decide (g.lo ≤ 4096) && q) nb = false) := by show _ = _; simp [shapeV, hL]
                      go_wp2
                      go_ret
                      exact ⟨by rw [HG.out, HF.out]; rfl, D⟩
            · have n5 : (op == 5) = false := by simpa using o5
              by_cases o6 : op = 6
              · subst o6
                clear hrp
                cases e with
                | false => cases b <;> (go_wp2; go_ret; exact ⟨by rw [HG.out]; first | rfl | exact ret_bool (by rw [Bool.eq_iff_iff]; simp [shapeV]; try omega), D⟩)
                | true =>
                  cases b with
                  | true => (go_wp2; go_ret; exact ⟨by rw [HG.out]; first | rfl | exact ret_bool (by rw [Bool.eq_iff_iff]; simp [shapeV]; try omega), D⟩)
                  | false =>
                    go_wp2_with fail
                    refine HN.out.mono ?_
                    rintro e2 w2 ⟨rfl, rfl⟩
                    clear HN
                    cases nb <;> (go_wp2; go_ret; exact ⟨by rw [HG.out]; first | rfl | exact ret_bool (by rw [Bool.eq_iff_iff]; simp [shapeV]; try omega), D⟩)
              · have n6 : (op == 6) = false := by simpa using o6
                have HF : Hid (shapeV op e b (!mm) L rp nb = false) := by show _ = _; simp [shapeV, o1, o2, o3, o4, o5, o6]
                clear hrp HN o1 o2 o3 o4 o5 o6
                go_wp2
                go_ret
                exact ⟨by rw [HG.out, HF.out]; rfl, D⟩

end Go.Proofs.YtghjkbjpdjlddaaDoor.Sy

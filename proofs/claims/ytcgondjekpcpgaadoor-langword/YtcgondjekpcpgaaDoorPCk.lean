/- Places: same. -/
import Derived.Test.YtcgondjekpcpgaaDoorPCh
namespace Go.Proofs.YtcgondjekpcpgaaDoor.Sy.Lg
open Go.RowKit Go.Proofs.YtcgondjekpcpgaaDoor.Sy.Ap Go.Proofs.YtcgondjekpcpgaaDoor.Sy.Ap.Wk
set_option maxRecDepth 100000
set_option linter.unusedVariables false

theorem agg2_inj {x y : Value} (h : Value.agg #[.int .i64 0, x] = Value.agg #[.int .i64 0, y]) : x = y := by
  injection h with h
  injection h with h
  injection h with _ h
  injection h with h _
def SamR (p r : Nat → Bool) (w : World) (e : Ending) (w' : World) : Prop := ∃ z, e = .returned (.bool z) ∧ (z = true ↔ ∀ i, p i = r i) ∧ Below w.heap.size w w'
theorem W_all {p r : Nat → Bool} (hp : ∀ i, p i = true → i < 64) (hr : ∀ i, r i = true → i < 64) (h : W p 0 = W r 0) : ∀ i, p i = r i := by
  intro i
  rcases Nat.lt_or_ge i 64 with q | q
  · have := W_inj h i q
    simpa using this
  · have h1 : p i = false := by
      cases e : p i with
      | false => rfl
      | true => have := hp i e; omega
    have h2 : r i = false := by
      cases e : r i with
      | false => rfl
      | true => have := hr i e; omega
    rw [h1, h2]
set_option maxHeartbeats 1000000 in
theorem equal_any (ts ss : Value) (p r : Nat → Bool) (u : World) (hp : Pl u (.agg #[.int .i64 0, ts]) p) (hr : Pl u (.agg #[.int .i64 0, ss]) r) :
    Calls Tryd.prog 86 #[ts, ss] u fun e u' => SamR p r u e u' := by
  rcases hp.2 with ⟨h1, hn1⟩ | ⟨g1, c1, i1, h1, hc1, hg1, hw1, hi1⟩
  · have e1 := agg2_inj h1
    subst e1
    rcases hr.2 with ⟨h2, hn2⟩ | ⟨g2, c2, i2, h2, hc2, hg2, hw2, hi2⟩
    · have e2 := agg2_inj h2
      subst e2
      go_enter Tryd.func86, Tryd.ntmps86
      go_wp2
      go_loopw [13] (fun s13 wr => s13 = .int .i64 0 ∧ u = wr) (fun _ _ => 0)
      case atStart => exact ⟨rfl, rfl⟩
      case round =>
        obtain ⟨rfl, rfl⟩ := hrel
        go_wp2
        go_ret
        exact ⟨true, rfl, ⟨fun _ i => by rw [hn1 i, hn2 i], fun _ => rfl⟩, Below.refl _ _⟩
    · have e2 := agg2_inj h2
      subst e2
      go_enter Tryd.func86, Tryd.ntmps86
      go_wp2
      go_ret
      exact ⟨false, rfl, ⟨(fun q => by cases q), fun q => by have := q i2; rw [hn1 i2, hi2] at this; cases this⟩, Below.refl _ _⟩
  · have e1 := agg2_inj h1
    subst e1
    rcases hr.2 with ⟨h2, hn2⟩ | ⟨g2, c2, i2, h2, hc2, hg2, hw2, hi2⟩
    · have e2 := agg2_inj h2
      subst e2
      go_enter Tryd.func86, Tryd.ntmps86
      go_wp2
      go_ret
      exact ⟨false, rfl, ⟨(fun q => by cases q), fun q => by have := q i1; rw [hn2 i1, hi1] at this; cases this⟩, Below.refl _ _⟩
    · have e2 := agg2_inj h2
      subst e2
      have HP := hidd hp.1
      have HR := hidd hr.1
      clear hp hr h1 h2
      go_enter Tryd.func86, Tryd.ntmps86
      go_wp2
      go_loopw [13] (fun s13 wr => ∃ m, wr = u.drewN m ∧ (s13 = .int .i64 0 ∨ (s13 = .int .i64 1 ∧ W p 0 = W r 0))) (fun s13 _ => 1 - (intOf s13).toNat)
      case atStart => exact ⟨0, rfl, .inl rfl⟩
      case round =>
        obtain ⟨m, rfl, h | ⟨h, he⟩⟩ := hrel
        · subst h
          have y1 : (u.drewN m).cell? ⟨g1, 0, none⟩ = some (.int .u64 (W p 0)) := hw1
          have y2 : (u.drewN m).cell? ⟨g2, 0, none⟩ = some (.int .u64 (W r 0)) := hw2
          by_cases he : W p 0 = W r 0
          · have hb1 : (W p 0 != W r 0) = false := by simp [he]
            have HE := hidd he
            clear he
            go_wp2
            go_quiet (fail)
            go_wp2
            refine ⟨⟨m + nq, ?_, .inr ⟨rfl, HE.out⟩⟩, by simp [intOf]⟩
            simp [World.drewN]
          · have hb1 : (W p 0 != W r 0) = true := by simp [he]
            have HE := hidd he
            clear he
            go_wp2
            go_quiet (fail)
            go_wp2
            go_ret
            refine ⟨false, rfl, ⟨(fun q => by cases q), fun q => absurd (W_congr fun j _ => q _) HE.out⟩, bel_drewN (bel_drewN (Below.refl _ _) m) nq⟩
        · subst h
          have HE := hidd he
          clear he
          go_wp2
          go_ret
          exact ⟨true, rfl, ⟨fun _ => W_all HP.out HR.out HE.out, fun _ => rfl⟩, bel_drewN (Below.refl _ _) m⟩
theorem pl_form {u : World} {v : Value} {p : Nat → Bool} (h : Pl u v p) : ∃ A n c, v = .agg #[.int .i64 0, .slice A n c] := by
  rcases h.2 with ⟨h1, _⟩ | ⟨b, c, i, h1, _⟩
  · exact ⟨_, _, _, h1⟩
  · exact ⟨_, _, _, h1⟩
set_option maxHeartbeats 1000000 in
theorem same_any (v v' : Value) (p r : Nat → Bool) (u : World) (hp : Pl u v p) (hr : Pl u v' r) : Calls Tryd.prog 76 #[v, v'] u fun e u' => SamR p r u e u' := by
  obtain ⟨A, n, c, rfl⟩ := pl_form hp
  obtain ⟨A', n', c', rfl⟩ := pl_form hr
  have R1 := RowA.new u 58 #[.int .i64 0, .slice A n c]
  have hs : (u.alloc (.cells #[.int .i64 0, .slice A n c] 58)).heap.size = u.heap.size + 1 := World.size_alloc ..
  have R2 := RowA.new (u.alloc (.cells #[.int .i64 0, .slice A n c] 58)) 58 #[.int .i64 0, .slice A' n' c']
  rw [hs] at R2
  have R1' := R1.alloc (.cells #[.int .i64 0, .slice A' n' c'] 58)
  have B2 : Below u.heap.size u ((u.alloc (.cells #[.int .i64 0, .slice A n c] 58)).alloc (.cells #[.int .i64 0, .slice A' n' c'] 58)) := ((Below.refl _ _).alloc (Nat.le_refl _) _).alloc (by omega) _
  have he := equal_any _ _ p r _ (hp.below B2) (hr.below B2)
  have HB2 := hidd B2
  have x0 : ((u.alloc (.cells #[.int .i64 0, .slice A n c] 58)).alloc (.cells #[.int .i64 0, .slice A' n' c'] 58)).cell? ⟨u.heap.size, 0, none⟩ = some (.int .i64 0) := R1'.at_ rfl
  have x1 : ((u.alloc (.cells #[.int .i64 0, .slice A n c] 58)).alloc (.cells #[.int .i64 0, .slice A' n' c'] 58)).cell? ⟨u.heap.size, 1, none⟩ = some (.slice A n c) := R1'.at_ rfl
  have y0 : ((u.alloc (.cells #[.int .i64 0, .slice A n c] 58)).alloc (.cells #[.int .i64 0, .slice A' n' c'] 58)).cell? ⟨u.heap.size + 1, 0, none⟩ = some (.int .i64 0) := R2.at_ rfl
  have y1 : ((u.alloc (.cells #[.int .i64 0, .slice A n c] 58)).alloc (.cells #[.int .i64 0, .slice A' n' c'] 58)).cell? ⟨u.heap.size + 1, 1, none⟩ = some (.slice A' n' c') := R2.at_ rfl
  clear R1 R2 R1' B2 hs hp hr
  go_enter Tryd.func76, Tryd.ntmps76
  go_wp2_with fail
  refine he.mono ?_
  rintro e u3 ⟨z, rfl, hz, b3⟩
  have HFIN : Hid (Below u.heap.size u u3) := HB2.out.trans (b3.mono HB2.out.size)
  have HZ := hidd hz
  clear he x0 x1 y0 y1 b3 hz
  go_wp2
  go_ret
  exact ⟨z, rfl, HZ.out, HFIN.out⟩
end Go.Proofs.YtcgondjekpcpgaaDoor.Sy.Lg

namespace Go.Proofs.YtcgondjekpcpgaaDoor.Sy.Lg
open Go.RowKit Go.Proofs.YtcgondjekpcpgaaDoor.Sy.Ap Go.Proofs.YtcgondjekpcpgaaDoor.Sy.Ap.Wk
set_option maxRecDepth 100000
set_option linter.unusedVariables false

/-- As Pl, but the word may be 0. -/
def Pz (w : World) (v : Value) (p : Nat → Bool) : Prop :=
  (∀ i, p i = true → i < 64) ∧ ((v = .agg #[.int .i64 0, .slice none 0 0] ∧ ∀ i, p i = false) ∨
    ∃ b c, v = .agg #[.int .i64 0, .slice (some ⟨b, 0, none⟩) 1 c] ∧ 1 ≤ c ∧ b < w.heap.size ∧ w.cell? ⟨b, 0, none⟩ = some (.int .u64 (W p 0)))
def TrmR (w : World) (v : Value) (p : Nat → Bool) (e : Ending) (w' : World) : Prop := Below w.heap.size w w' ∧ ∃ v', e = .returned v' ∧ Pl w' v' p ∧ (v' = v ∨ plB v' = none)
set_option maxHeartbeats 1000000 in
theorem trimmed_any (v : Value) (p : Nat → Bool) (u : World) (h : Pz u v p) : Calls Tryd.prog 85 #[v] u fun e u' => TrmR u v p e u' := by
  rcases h.2 with ⟨rfl, hno⟩ | ⟨b, c, rfl, hc, hb, hcell⟩
  · have HN := hidd hno
    have HZ := hidd h.1
    clear hno h
    have R1 := RowA.new u 58 #[.int .i64 0, .slice none 0 0]
    have hs : (u.alloc (.cells #[.int .i64 0, .slice none 0 0] 58)).heap.size = u.heap.size + 1 := World.size_alloc ..
    have R2 := RowA.new (u.alloc (.cells #[.int .i64 0, .slice none 0 0] 58)) 58 #[.int .i64 0, .slice none 0 0]
    rw [hs] at R2
    have R1' := R1.alloc (.cells #[.int .i64 0, .slice none 0 0] 58)
    have B2 : Below u.heap.size u ((u.alloc (.cells #[.int .i64 0, .slice none 0 0] 58)).alloc (.cells #[.int .i64 0, .slice none 0 0] 58)) := ((Below.refl _ _).alloc (Nat.le_refl _) _).alloc (by omega) _
    clear R1 hs
    go_enter Tryd.func85, Tryd.ntmps85
    go_upto_region 1 with fail
    generalize (u.alloc (.cells #[.int .i64 0, .slice none 0 0] 58)).alloc (.cells #[.int .i64 0, .slice none 0 0] 58) = u2 at *
    have x0 : u2.cell? ⟨u.heap.size, 0, none⟩ = some (.int .i64 0) := R1'.at_ rfl
    have x1 : u2.cell? ⟨u.heap.size, 1, none⟩ = some (.slice none 0 0) := R1'.at_ rfl
    go_wp2
    go_quiet (fail)
    have R3 : RowA (u2.drewN nq) (u.heap.size + 1) 58 #[.int .i64 0, .slice none 0 0] := R2.drewN nq
    have B3 : Below u.heap.size u (u2.drewN nq) := bel_drewN B2 nq
    clear x0 x1 R1' R2 B2
    generalize u2.drewN nq = u3 at *
    have HRF := hidd (R3.row #[.int .i64 0, .slice none 0 0])
    have HB3 := hidd (bel_setRow B3 (u.heap.size + 1) #[.int .i64 0, .slice none 0 0] (by omega))
    go_wp2
    go_loopw [3, 4] (fun s3 s4 wr => s3 = .slice none 0 0 ∧ s4 = .int .i64 0 ∧ u3 = wr) (fun _ _ _ => 0)
    case atStart => exact ⟨rfl, rfl, rfl⟩
    case round =>
      obtain ⟨rfl, rfl, rfl⟩ := hrel
      go_wp2
      go_loopw [3] (fun s3 wr => s3 = .slice none 0 0 ∧ u3 = wr) (fun _ _ => 0)
      case atStart => exact ⟨rfl, rfl⟩
      case round =>
        obtain ⟨rfl, rfl⟩ := hrel
        go_wp2_with (refine wpList_store_row rfl 58 (.tmp 2) (.tmp 42) rfl (u.heap.size + 1) #[.int .i64 0, .slice none 0 0] rfl rfl 58 #[.int .i64 0, .slice none 0 0] R3 (pl_info _ _) rfl (ones2 rfl rfl) ?_)
        exact ret_places Tryd.results85 rfl HRF.out rfl ⟨HB3.out, _, rfl, ⟨HZ.out, .inl ⟨rfl, HN.out⟩⟩, .inl rfl⟩
  · by_cases hz : W p 0 = 0
    · have HNO : Hid (∀ i, p i = false) := fun i => by
        cases e : p i with
        | false => rfl
        | true => exact absurd hz (W_ne (h.1 i e) e)
      have HZ := hidd h.1
      rw [hz] at hcell
      clear h hz
      have R1 := RowA.new u 58 #[.int .i64 0, .slice (some ⟨b, 0, none⟩) 1 c]
      have hs : (u.alloc (.cells #[.int .i64 0, .slice (some ⟨b, 0, none⟩) 1 c] 58)).heap.size = u.heap.size + 1 := World.size_alloc ..
      have R2 := RowA.new (u.alloc (.cells #[.int .i64 0, .slice (some ⟨b, 0, none⟩) 1 c] 58)) 58 #[.int .i64 0, .slice none 0 0]
      rw [hs] at R2
      have R1' := R1.alloc (.cells #[.int .i64 0, .slice none 0 0] 58)
      have B2 : Below u.heap.size u ((u.alloc (.cells #[.int .i64 0, .slice (some ⟨b, 0, none⟩) 1 c] 58)).alloc (.cells #[.int .i64 0, .slice none 0 0] 58)) := ((Below.refl _ _).alloc (Nat.le_refl _) _).alloc (by omega) _
      clear R1 hs
      go_enter Tryd.func85, Tryd.ntmps85
      go_upto_region 1 with fail
      generalize (u.alloc (.cells #[.int .i64 0, .slice (some ⟨b, 0, none⟩) 1 c] 58)).alloc (.cells #[.int .i64 0, .slice none 0 0] 58) = u2 at *
      have x0 : u2.cell? ⟨u.heap.size, 0, none⟩ = some (.int .i64 0) := R1'.at_ rfl
      have x1 : u2.cell? ⟨u.heap.size, 1, none⟩ = some (.slice (some ⟨b, 0, none⟩) 1 c) := R1'.at_ rfl
      go_wp2
      go_quiet (fail)
      have R3 : RowA (u2.drewN nq) (u.heap.size + 1) 58 #[.int .i64 0, .slice none 0 0] := R2.drewN nq
      have B3 : Below u.heap.size u (u2.drewN nq) := bel_drewN B2 nq
      clear x0 x1 R1' R2 B2
      generalize u2.drewN nq = u3 at *
      have HRF := hidd (R3.row #[.int .i64 0, .slice none 0 0])
      have HB3 := hidd (bel_setRow B3 (u.heap.size + 1) #[.int .i64 0, .slice none 0 0] (by omega))
      have hc3 : u3.cell? ⟨b, 0, none⟩ = some (.int .u64 0) := by rw [B3.cell (by exact hb)]; exact hcell
      have hci : (1 : Int) ≤ (c : Int) := by omega
      go_wp2
      go_loopw [3, 4] (fun s3 s4 wr => u3 = wr ∧ ((s3 = .slice (some ⟨b, 0, none⟩) 1 c ∧ s4 = .int .i64 0) ∨ ∃ A c', s3 = .slice A 0 c' ∧ s4 = .int .i64 1)) (fun _ s4 _ => 1 - (intOf s4).toNat)
      case atStart => exact ⟨rfl, .inl ⟨rfl, rfl⟩⟩
      case round =>
        obtain ⟨rfl, ⟨rfl, rfl⟩ | ⟨A, c', rfl, rfl⟩⟩ := hrel
        · go_wp2
          exact ⟨⟨trivial, .inr ⟨_, _, rfl, rfl⟩⟩, by simp [intOf]⟩
        · go_wp2
          go_loopw [3] (fun s3 wr => s3 = .slice A 0 c' ∧ u3 = wr) (fun _ _ => 0)
          case atStart => exact ⟨rfl, rfl⟩
          case round =>
            obtain ⟨rfl, rfl⟩ := hrel
            go_wp2_with (refine wpList_store_row rfl 58 (.tmp 2) (.tmp 42) rfl (u.heap.size + 1) #[.int .i64 0, .slice none 0 0] rfl rfl 58 #[.int .i64 0, .slice none 0 0] R3 (pl_info _ _) rfl (ones2 rfl rfl) ?_)
            exact ret_places Tryd.results85 rfl HRF.out rfl ⟨HB3.out, _, rfl, ⟨HZ.out, .inl ⟨rfl, HNO.out⟩⟩, .inr rfl⟩
    · obtain ⟨k, hF⟩ := fst_some hz
      have HZ := hidd h.1
      have HK := hidd hF.2.1
      have hzb : (W p 0 == 0) = false := by simp [hz]
      have hzd : decide (W p 0 = 0) = false := by simp [hz]
      clear h hF
      have R1 := RowA.new u 58 #[.int .i64 0, .slice (some ⟨b, 0, none⟩) 1 c]
      have hs : (u.alloc (.cells #[.int .i64 0, .slice (some ⟨b, 0, none⟩) 1 c] 58)).heap.size = u.heap.size + 1 := World.size_alloc ..
      have R2 := RowA.new (u.alloc (.cells #[.int .i64 0, .slice (some ⟨b, 0, none⟩) 1 c] 58)) 58 #[.int .i64 0, .slice none 0 0]
      rw [hs] at R2
      have R1' := R1.alloc (.cells #[.int .i64 0, .slice none 0 0] 58)
      have B2 : Below u.heap.size u ((u.alloc (.cells #[.int .i64 0, .slice (some ⟨b, 0, none⟩) 1 c] 58)).alloc (.cells #[.int .i64 0, .slice none 0 0] 58)) := ((Below.refl _ _).alloc (Nat.le_refl _) _).alloc (by omega) _
      clear R1 hs
      go_enter Tryd.func85, Tryd.ntmps85
      go_upto_region 1 with fail
      generalize (u.alloc (.cells #[.int .i64 0, .slice (some ⟨b, 0, none⟩) 1 c] 58)).alloc (.cells #[.int .i64 0, .slice none 0 0] 58) = u2 at *
      have x0 : u2.cell? ⟨u.heap.size, 0, none⟩ = some (.int .i64 0) := R1'.at_ rfl
      have x1 : u2.cell? ⟨u.heap.size, 1, none⟩ = some (.slice (some ⟨b, 0, none⟩) 1 c) := R1'.at_ rfl
      go_wp2
      go_quiet (fail)
      have R3 : RowA (u2.drewN nq) (u.heap.size + 1) 58 #[.int .i64 0, .slice none 0 0] := R2.drewN nq
      have B3 : Below u.heap.size u (u2.drewN nq) := bel_drewN B2 nq
      clear x0 x1 R1' R2 B2
      generalize u2.drewN nq = u3 at *
      have HRF := hidd (R3.row #[.int .i64 0, .slice (some ⟨b, 0, none⟩) 1 c])
      have HB3 := hidd (bel_setRow B3 (u.heap.size + 1) #[.int .i64 0, .slice (some ⟨b, 0, none⟩) 1 c] (by omega))
      have hc3 : u3.cell? ⟨b, 0, none⟩ = some (.int .u64 (W p 0)) := by rw [B3.cell (by exact hb)]; exact hcell
      have hb3 : b < u3.heap.size := Nat.lt_of_lt_of_le hb B3.size
      have HCF : Hid ((u3.setRow (u.heap.size + 1) #[.int .i64 0, .slice (some ⟨b, 0, none⟩) 1 c]).cell? ⟨b, 0, none⟩ = some (.int .u64 (W p 0)) ∧ b < (u3.setRow (u.heap.size + 1) #[.int .i64 0, .slice (some ⟨b, 0, none⟩) 1 c]).heap.size) := by
        refine ⟨?_, Nat.lt_of_lt_of_le hb HB3.out.size⟩
        rw [HB3.out.cell (by exact hb)]
        exact hcell
      go_wp2
      go_loopw [3, 4] (fun s3 s4 wr => s3 = .slice (some ⟨b, 0, none⟩) 1 c ∧ s4 = .int .i64 0 ∧ u3 = wr) (fun _ _ _ => 0)
      case atStart => exact ⟨rfl, rfl, rfl⟩
      case round =>
        obtain ⟨rfl, rfl, rfl⟩ := hrel
        go_wp2
        go_loopw [3] (fun s3 wr => s3 = .slice (some ⟨b, 0, none⟩) 1 c ∧ u3 = wr) (fun _ _ => 0)
        case atStart => exact ⟨rfl, rfl⟩
        case round =>
          obtain ⟨rfl, rfl⟩ := hrel
          go_wp2_with (refine wpList_store_row rfl 58 (.tmp 2) (.tmp 45) rfl (u.heap.size + 1) #[.int .i64 0, .slice (some ⟨b, 0, none⟩) 1 c] rfl rfl 58 #[.int .i64 0, .slice none 0 0] R3 (pl_info _ _) rfl (ones2 rfl rfl) ?_)
          exact ret_places Tryd.results85 rfl HRF.out rfl ⟨HB3.out, _, rfl, ⟨HZ.out, .inr ⟨b, c, k, rfl, hc, HCF.out.2, HCF.out.1, HK.out⟩⟩, .inl rfl⟩
end Go.Proofs.YtcgondjekpcpgaaDoor.Sy.Lg

namespace Go.Proofs.YtcgondjekpcpgaaDoor.Sy.Lg.Wo
open Go.RowKit Go.Proofs.YtcgondjekpcpgaaDoor.Sy.Ap Go.Proofs.YtcgondjekpcpgaaDoor.Sy.Ap.Wk Go.Proofs.YtcgondjekpcpgaaDoor.Sy.Lg.Pt Go.Proofs.YtcgondjekpcpgaaDoor.Sy.Lg.Cp
set_option maxRecDepth 100000
set_option linter.unusedVariables false

def subB (p r : Nat → Bool) : Nat → Bool := fun i => p i && !r i
theorem W_sub (p r : Nat → Bool) : bits .andNot .u64 (W p 0) (W r 0) = W (subB p r) 0 := by
  rw [W_eq p, W_eq r, u64_andNot_nat _ _ (wN_lt _ _) (wN_lt _ _), W_eq]
  congr 1
  apply wN_ext
  · exact Nat.lt_of_le_of_lt Nat.and_le_left (wN_lt p 0)
  · intro j hj
    have hlt := wN_lt r 0
    rw [Nat.testBit_and, show 18446744073709551615 - wN r 0 = 2 ^ 64 - (wN r 0 + 1) from by omega, Nat.testBit_two_pow_sub_succ (by omega), wN_bit, wN_bit]
    simp [hj, subB]
end Go.Proofs.YtcgondjekpcpgaaDoor.Sy.Lg.Wo

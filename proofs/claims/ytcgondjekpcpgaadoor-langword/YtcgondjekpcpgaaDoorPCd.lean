/- Places that grow: stretch, put, only, join. -/
import Derived.Test.YtcgondjekpcpgaaDoorPCc
namespace Go.Proofs.YtcgondjekpcpgaaDoor.Sy.Lg
open Go.RowKit Go.Proofs.YtcgondjekpcpgaaDoor.Sy.Ap Go.Proofs.YtcgondjekpcpgaaDoor.Sy.Ap.Wk
set_option maxRecDepth 100000
set_option linter.unusedVariables false

/-- Block q holds places of one's own. -/
def PB (base : Nat) (u : World) (q : Nat) (sv : Value) (p : Nat → Bool) : Prop :=
  RowA u q 58 #[.int .i64 0, sv] ∧ (∀ i, p i = true → i < 64) ∧ ((sv = .slice none 0 0 ∧ noneB p) ∨ ((∃ i, p i = true) ∧ u.ownsRow base 39 1 sv 1 [.int .u64 (W p 0)]))
theorem PB.below {base : Nat} {u u' : World} {q : Nat} {sv : Value} {p : Nat → Bool} (h : PB base u q sv p) (hb : Below u.heap.size u u') : PB base u' q sv p := by
  obtain ⟨h1, h2, h3⟩ := h
  refine ⟨h1.below hb h1.lt, h2, ?_⟩
  rcases h3 with h3 | ⟨h3, h4⟩
  · exact .inl h3
  · exact .inr ⟨h3, own_below h4 hb (Nat.le_refl _)⟩
/-- What a step on places of one's own may write. -/
def Pw (q : Nat) (sv : Value) (k : Nat) : Prop := k = q ∨ sv.ownBlock = some k
theorem W_none {p : Nat → Bool} (h : noneB p) : W p 0 = 0 := by
  rw [← W_zero 0]
  apply W_congr
  intro j _
  rw [h]
  rfl
/-- As a value. -/
theorem PB.pl {base : Nat} {u : World} {q : Nat} {sv : Value} {p : Nat → Bool} (h : PB base u q sv p) : Pl u (.agg #[.int .i64 0, sv]) p := by
  obtain ⟨h1, h2, h3⟩ := h
  refine ⟨h2, ?_⟩
  rcases h3 with ⟨rfl, h3⟩ | ⟨⟨i, hi⟩, h4⟩
  · exact .inl ⟨rfl, h3⟩
  · obtain ⟨g, c, hv, hb, hl⟩ := own_pos h4 (by omega)
    subst hv
    refine .inr ⟨g, c, i, rfl, own_cap h4, hl, ?_, hi⟩
    have := h4.cells (g := g) rfl 0 _ rfl
    rw [addr_addO] at this
    exact this
def StrR (base : Nat) (u : World) (q : Nat) (sv : Value) (p : Nat → Bool) (e : Ending) (u' : World) : Prop :=
  e = .returned (.tuple #[]) ∧ ∃ sv', RowA u' q 58 #[.int .i64 0, sv'] ∧ u'.ownsRow base 39 1 sv' 1 [.int .u64 (W p 0)] ∧ Keeps (Pw q sv) u u' ∧ Lies u sv sv'
theorem u64_info : (Tryd.prog.info? 39).map (fun i => (i.zero, i.size, i.bytes)) = some (some (.int .u64 0), 1, 8) := by kernel_rfl
/-- No word yet? -/
def stM (q : Nat) (w : World) : Nat := match w.cell? ⟨q, 1, none⟩ with | some (.slice none _ _) => 1 | _ => 0
set_option maxHeartbeats 2000000 in
theorem stretch_any (base : Nat) (u : World) (q : Nat) (sv : Value) (p : Nat → Bool) (h : PB base u q sv p) (hbs : base ≤ u.heap.size) :
    Calls Tryd.prog 67 #[.pointer (some ⟨q, 0, none⟩), .int .i64 0, .int .i64 1] u fun e u' => StrR base u q sv p e u' := by
  obtain ⟨j0, hj0i, hy0, hy1, hy2⟩ := info_parts u64_info
  have hpl := h.pl
  have hno := none_any _ _ u hpl
  have HH := hidd h
  have R := h.1
  have r0 : u.cell? ⟨q, 0, none⟩ = some (.int .i64 0) := R.at_ rfl
  have r1 : u.cell? ⟨q, 1, none⟩ = some sv := R.at_ rfl
  clear hpl h
  rcases HH.out.2.2 with ⟨rfl, hnone⟩ | ⟨hi, hown⟩
  · clear R
    go_enter Tryd.func67, Tryd.ntmps67
    go_wp2_with fail
    refine hno.mono ?_
    rintro e u1 ⟨z, rfl, hz, b1⟩
    have hzt : z = true := hz.2 hnone
    subst hzt
    have R1 := HH.out.1.below b1 HH.out.1.lt
    have r0 : u1.cell? ⟨q, 0, none⟩ = some (.int .i64 0) := R1.at_ rfl
    have r1 : u1.cell? ⟨q, 1, none⟩ = some (.slice none 0 0) := R1.at_ rfl
    have ht := R1.thawed
    have R2 : RowA (u1.setCell ⟨q, 0, none⟩ (.int .i64 0)) q 58 #[.int .i64 0, .slice none 0 0] := R1.set 0 _
    have K2 : Keeps (Pw q (.slice none 0 0)) u (u1.setCell ⟨q, 0, none⟩ (.int .i64 0)) := keeps_set (Keeps.of_below b1) _ _ (.inl (.inl rfl))
    clear hz hno b1
    go_upto_region 2 with fail
    generalize u1.setCell ⟨q, 0, none⟩ (.int .i64 0) = u2 at *
    clear r0 r1 ht R1
    have r0 : u2.cell? ⟨q, 0, none⟩ = some (.int .i64 0) := R2.at_ rfl
    have r1 : u2.cell? ⟨q, 1, none⟩ = some (.slice none 0 0) := R2.at_ rfl
    have HR2 := hidd R2
    have HK2 := hidd K2
    clear R2 K2
    go_wp2
    go_loopw [] (fun wr => (RowA wr q 58 #[.int .i64 0, .slice none 0 0] ∧ Keeps (Pw q (.slice none 0 0)) u wr) ∨ (∃ sv', RowA wr q 58 #[.int .i64 0, sv'] ∧ wr.ownsRow base 39 1 sv' 1 [.int .u64 (W p 0)] ∧ Keeps (Pw q (.slice none 0 0)) u wr ∧ Lies u (.slice none 0 0) sv')) (fun wr => stM q wr)
    case atStart => exact .inl ⟨HR2.out, HK2.out⟩
    case round =>
      clear HR2 HK2 r0 r1
      rcases hrel with ⟨R, K⟩ | ⟨sv', R, O, K, Ls⟩
      · have r0 : wr.cell? ⟨q, 0, none⟩ = some (.int .i64 0) := R.at_ rfl
        have r1 : wr.cell? ⟨q, 1, none⟩ = some (.slice none 0 0) := R.at_ rfl
        go_wp2
        go_quiet (fail)
        have K3 : Keeps (Pw q (.slice none 0 0)) u (wr.drewN nq) := K.trans (Keeps.of_below (P := Pw q (.slice none 0 0)) (bel_drewN (Below.refl _ _) nq)) (fun k _ h => h)
        have R3 : RowA (wr.drewN nq) q 58 #[.int .i64 0, .slice none 0 0] := R.drewN nq
        have hms : stM q wr = 1 := by unfold stM; rw [r1]
        have HMS := hidd hms
        clear r0 r1 K R hms
        generalize wr.drewN nq = u3 at *
        have r1 : u3.cell? ⟨q, 1, none⟩ = some (.slice none 0 0) := R3.at_ rfl
        have ht := R3.thawed
        have hown : (u3.alloc (.cells #[.int .u64 0] 39)).ownsRow base 39 1 (.slice none 0 0) 0 [] := World.ownsRow_nil _ _ _ _
        have hnews : ∀ j v, ([.int .u64 0] : List Value)[j]? = some v → (u3.alloc (.cells #[.int .u64 0] 39)).cell? ((⟨u3.heap.size, 0, none⟩ : Addr).add j) = some v := World.news_of_block (RowA.new u3 39 #[.int .u64 0])
        have hH : (u3.alloc (.cells #[.int .u64 0] 39)).heap.size = u3.heap.size + 1 := World.size_alloc ..
        have hbase : base ≤ (u3.alloc (.cells #[.int .u64 0] 39)).heap.size := by have := K3.size; omega
        have HK3 := hidd K3
        have HR3 := hidd R3
        clear K3 R3
        go_wp2_with (at_builtin; refine wpList_append_lies _ rfl _ _ _ rfl base 39 j0 (.int .u64 0) 1 8 Tryd.underlying56 hj0i hy0 hy1 hy2 rfl (by omega) _ 0 [] rfl hown ⟨u3.heap.size, 0, none⟩ 1 1 [.int .u64 0] rfl rfl hnews (by simp [Value.oneCell']) (by omega) (by simp only [maxLen]; omega) (by omega) hbase (u3.heap.size + 1) hH ?_; intro g8 cap8 w8 hown8 hgrow hat hlt8; have R8 : RowA w8 q 58 #[.int .i64 0, .slice none 0 0] := (hgrow.block q (by rw [hH]; have := HR3.out.lt; omega) (fun e => by cases e)).trans (HR3.out.alloc _); have r8 : w8.cell? ⟨q, 1, none⟩ = some (.slice none 0 0) := R8.at_ rfl; have t8 := R8.thawed; refine Hid.out ?_)
        have hg8 : u.heap.size ≤ g8 := by
          have := HK3.out.size
          rcases hat with h | h
          · cases h
          · omega
        have hown9 : w8.ownsRow base 39 1 (.slice (some ⟨g8, 0, none⟩) 1 cap8) 1 [.int .u64 0] := hown8
        have HFIN : Hid (RowA (w8.setCell ⟨q, 1, none⟩ (.slice (some ⟨g8, 0, none⟩) 1 cap8)) q 58 #[.int .i64 0, .slice (some ⟨g8, 0, none⟩) 1 cap8] ∧ (w8.setCell ⟨q, 1, none⟩ (.slice (some ⟨g8, 0, none⟩) 1 cap8)).ownsRow base 39 1 (.slice (some ⟨g8, 0, none⟩) 1 cap8) 1 [.int .u64 (W p 0)] ∧ Keeps (Pw q (.slice none 0 0)) u (w8.setCell ⟨q, 1, none⟩ (.slice (some ⟨g8, 0, none⟩) 1 cap8)) ∧ Lies u (.slice none 0 0) (.slice (some ⟨g8, 0, none⟩) 1 cap8)) := by
          refine ⟨R8.set 1 _, ?_, ?_, .inr ⟨g8, rfl, hg8⟩⟩
          · rw [W_none hnone]
            exact own_sb hown9 (own_neR hown9 R8 (by decide)) _
          · exact keeps_set (keeps_grown (HK3.out.trans (Keeps.of_below (P := Pw q (.slice none 0 0)) ((Below.refl _ _).alloc (Nat.le_refl _) _)) (fun k _ h => h)) hgrow (fun k hk => by cases hk)) _ _ (.inl (.inl rfl))
        clear hown hnews hH hbase hown8 hown9 hgrow hat hlt8 hg8 r1 ht
        refine Lib.hid ?_
        go_wp2
        refine ⟨.inr ⟨_, HFIN.out⟩, ?_⟩
        have e1 : (w8.setCell ⟨q, 1, none⟩ (.slice (some ⟨g8, 0, none⟩) 1 cap8)).cell? ⟨q, 1, none⟩ = some (.slice (some ⟨g8, 0, none⟩) 1 cap8) := HFIN.out.1.at_ rfl
        rw [HMS.out]
        unfold stM
        rw [e1]
        exact Nat.zero_lt_one
      · obtain ⟨A, c, rfl⟩ := own_form O
        have r0 : wr.cell? ⟨q, 0, none⟩ = some (.int .i64 0) := R.at_ rfl
        have r1 : wr.cell? ⟨q, 1, none⟩ = some (.slice A 1 c) := R.at_ rfl
        go_wp2
        go_quiet (fail)
        go_wp2
        go_end0
        exact ⟨rfl, _, R.drewN nq, own_below O (bel_drewN (Below.refl _ _) nq) (Nat.le_refl _), K.trans (Keeps.of_below (P := Pw q (.slice none 0 0)) (bel_drewN (Below.refl _ _) nq)) (fun k _ h => h), Ls⟩
  · obtain ⟨A, c, rfl⟩ := own_form hown
    clear R
    go_enter Tryd.func67, Tryd.ntmps67
    go_wp2_with fail
    refine hno.mono ?_
    rintro e u1 ⟨z, rfl, hz, b1⟩
    have hzf : z = false := by
      cases z with
      | false => rfl
      | true =>
        obtain ⟨i, hi⟩ := hi
        have := (hz.1 rfl) i
        rw [hi] at this
        cases this
    subst hzf
    have R1 := HH.out.1.below b1 HH.out.1.lt
    have O1 := own_below hown b1 (Nat.le_refl _)
    have r0 : u1.cell? ⟨q, 0, none⟩ = some (.int .i64 0) := R1.at_ rfl
    have r1 : u1.cell? ⟨q, 1, none⟩ = some (.slice A 1 c) := R1.at_ rfl
    have HR1 := hidd R1
    have HO1 := hidd O1
    have HB1 := hidd b1
    clear hz hno b1 R1 O1
    go_wp2
    go_loopw [] (fun wr => ∃ m, wr = u1.drewN m) (fun wr => 0)
    case atStart => exact ⟨0, rfl⟩
    case round =>
      obtain ⟨m, rfl⟩ := hrel
      have r0 : (u1.drewN m).cell? ⟨q, 0, none⟩ = some (.int .i64 0) := r0
      have r1 : (u1.drewN m).cell? ⟨q, 1, none⟩ = some (.slice A 1 c) := r1
      go_wp2
      go_quiet (fail)
      go_wp2
      go_end0
      refine ⟨rfl, _, (HR1.out.drewN m).drewN nq, own_below HO1.out (bel_drewN (bel_drewN (Below.refl _ _) m) nq) (Nat.le_refl _), Keeps.of_below ?_, lies_refl _ _⟩
      exact HB1.out.trans ((bel_drewN (bel_drewN (Below.refl u1.heap.size u1) m) nq).mono HB1.out.size)
end Go.Proofs.YtcgondjekpcpgaaDoor.Sy.Lg

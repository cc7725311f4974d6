/- The matcher: places of one's own beside it; two new blocks; optional. -/
import Derived.Test.YtcgondjekpcpgaaDoorPCp
namespace Go.Proofs.YtcgondjekpcpgaaDoor.Sy.Lg
open Go.RowKit Go.Proofs.YtcgondjekpcpgaaDoor.Sy.Ap Go.Proofs.YtcgondjekpcpgaaDoor.Sy.Ap.Wk
set_option maxRecDepth 100000
set_option linter.unusedVariables false

/-! ### As many times as there are places find all -/
open Classical in
theorem up_all {R : Rel} {X : Nat → Prop} {N : Nat} (hR : ∀ i j, R i j → i ≤ N → j ≤ N) (hX : ∀ j, X j → j ≤ N) (j : Nat) : (∃ t, img (upR R t) X j) ↔ img (upR R N) X j := by
  have hin : ∀ t j, img (upR R t) X j → j ≤ N := by
    rintro t j ⟨i, hi, s, hs, q⟩
    exact powR_le hR s i j q (hX i hi)
  have hmono : ∀ t s j, img (upR R t) X j → img (upR R (t + s)) X j := by
    intro t s j h
    induction s with
    | zero => exact h
    | succ s ih => exact img_up_more ih
  have hstop : ∀ t, t ≤ N → (∀ j, img R (img (upR R t) X) j → img (upR R t) X j) → ((∃ t, img (upR R t) X j) ↔ img (upR R N) X j) := by
    intro t ht h
    have key := img_up_same h
    constructor
    · rintro ⟨s, hs⟩
      have h1 := hmono s t j hs
      rw [Nat.add_comm] at h1
      have h2 := (key s j).1 h1
      have h3 := hmono t (N - t) j h2
      rwa [show t + (N - t) = N from by omega] at h3
    · intro h; exact ⟨N, h⟩
  have hcnt : ∀ t, (∃ s, s < t ∧ ∀ j, img R (img (upR R s) X) j → img (upR R s) X j) ∨ t + cnt (fun j => decide (img (upR R 0) X j)) N ≤ cnt (fun j => decide (img (upR R t) X j)) N := by
    intro t
    induction t with
    | zero => exact .inr (by omega)
    | succ t ih =>
      rcases ih with ⟨s, h1, h2⟩ | ih
      · exact .inl ⟨s, by omega, h2⟩
      · by_cases h : ∀ j, img R (img (upR R t) X) j → img (upR R t) X j
        · exact .inl ⟨t, by omega, h⟩
        · right
          have ⟨x, hx⟩ := Classical.not_forall.1 h
          have ⟨h1, h2⟩ := Classical.not_imp.1 hx
          have h3 : img (upR R (t + 1)) X x := (img_up R X t x).2 (.inr h1)
          have := cnt_more (p := fun j => decide (img (upR R t) X j)) (q := fun j => decide (img (upR R (t + 1)) X j)) (N := N) (fun i hi => decide_eq_true (img_up_more (of_decide_eq_true hi))) (hin _ _ h3) (decide_eq_false h2) (decide_eq_true h3)
          omega
  rcases hcnt N with ⟨s, h1, h2⟩ | h
  · exact hstop s (by omega) h2
  · by_cases h0 : cnt (fun j => decide (img (upR R 0) X j)) N = 0
    · have hno : ∀ j, ¬ X j := fun j hj => by
        have h1 : decide (img (upR R 0) X j) = true := decide_eq_true ((img_up_zero R X j).2 hj)
        have := cnt_more (p := fun _ => false) (q := fun j => decide (img (upR R 0) X j)) (N := N) (fun i hi => by cases hi) (hX j hj) rfl h1
        omega
      constructor
      · rintro ⟨t, i, hi, _⟩; exact absurd hi (hno i)
      · rintro ⟨i, hi, _⟩; exact absurd hi (hno i)
    · have := cnt_full (p := fun j => decide (img (upR R N) X j)) (N := N) (by omega)
      refine hstop N (Nat.le_refl _) fun j hj => ?_
      have hjN : j ≤ N := by
        obtain ⟨i, hi, q⟩ := hj
        exact hR i j q (hin _ _ hi)
      exact of_decide_eq_true (this j hjN)
/-! ### Two new blocks, made in a region that draws -/
structure TwoS (S0 : World → Prop) (d1 d2 : Nat) (a : Act) (u : World) : Prop where
  s : S0 u
  p1 : ∀ g, a.tmps[d1]? = some (.pointer (some ⟨g, 0, none⟩)) → g < u.heap.size
  p2 : ∀ g, a.tmps[d2]? = some (.pointer (some ⟨g, 0, none⟩)) → g < u.heap.size
  far : ∀ g h, a.tmps[d1]? = some (.pointer (some ⟨g, 0, none⟩)) → a.tmps[d2]? = some (.pointer (some ⟨h, 0, none⟩)) → g ≠ h
section
variable {S0 : World → Prop} {d1 d2 : Nat} {a : Act} {u u' : World}
theorem TwoS.to (h : TwoS S0 d1 d2 a u) (hs : S0 u') (hz : u.heap.size ≤ u'.heap.size) : TwoS S0 d1 d2 a u' :=
  ⟨hs, fun g e => Nat.lt_of_lt_of_le (h.p1 g e) hz, fun g e => Nat.lt_of_lt_of_le (h.p2 g e) hz, h.far⟩
theorem TwoS.put (h : TwoS S0 d1 d2 a u) {d : Option Nat} (hd : (d != some d1 && d != some d2) = true) (z : Value) : TwoS S0 d1 d2 (a.put d z) u := by
  have e : ∀ k, (d != some k) = true → (a.put d z).tmps[k]? = a.tmps[k]? := by
    intro k hk
    cases d with
    | none => rfl
    | some d => rw [put_tmps, Array.getElem?_setIfInBounds_ne (fun e => by subst e; simp at hk)]
  have hd' : (d != some d1) = true ∧ (d != some d2) = true := by simpa using hd
  have e1 := e d1 hd'.1
  have e2 := e d2 hd'.2
  exact ⟨h.s, fun g q => h.p1 g (e1 ▸ q), fun g q => h.p2 g (e2 ▸ q), fun g k q r => h.far g k (e1 ▸ q) (e2 ▸ r)⟩
theorem put_self {a : Act} {d n : Nat} {g : Nat} (e : (a.put (some d) (.pointer (some ⟨n, 0, none⟩))).tmps[d]? = some (.pointer (some ⟨g, 0, none⟩))) : g = n := by
  rw [put_tmps, Array.getElem?_setIfInBounds] at e
  simp only [if_true] at e
  split at e
  · cases e; rfl
  · cases e
end
/-! ### Places of one's own beside the matcher -/
def Fo (F : Nat → Prop) (sv : Value) (k : Nat) : Prop := F k ∨ sv.ownBlock = some k
theorem PB.mi {M : MC} {F : Nat → Prop} {cs : List Nat} {ms : List (Option Nat)} {u u' : World} (h : MI M F cs ms u) {B q : Nat} {sv : Value} {p : Nat → Bool} (hp : PB B u q sv p) (hk : Keeps (MP M u) u u') : PB B u' q sv p := by
  obtain ⟨h1, h2, h3⟩ := hp
  refine ⟨mi_row h h1 (by decide) (by decide) hk, h2, ?_⟩
  rcases h3 with h3 | ⟨h3, h4⟩
  · exact .inl h3
  · refine .inr ⟨h3, own_keeps h4 hk fun k hkk => ?_⟩
    obtain ⟨cur, hc⟩ := own_blk h4 hkk
    exact h.row_off (show RowA u k 39 cur from hc) (by decide) (by decide)
structure OpS (M : MC) (F : Nat → Prop) (B : Nat) (w : World) (L : List Row3) (q : Nat) (sv : Value) (p : Nat → Bool) (v : Value) (X : Nat → Prop) (u : World) : Prop where
  fs : FS M (Fo F sv) w L v X u
  pb : PB B u q sv p
  qlo : B ≤ q
  blo : M.B ≤ B
  qne : ∀ x ∈ L, x.1 ≠ q
section
variable {M : MC} {F : Nat → Prop} {B : Nat} {w : World} {L : List Row3} {q : Nat} {sv : Value} {p : Nat → Bool} {v : Value} {X : Nat → Prop} {u u' : World}
theorem OpS.step (h : OpS M F B w L q sv p v X u) (hm : ∃ (cs : List Nat) (ms : List (Option Nat)), MI M (Fo F sv) cs ms u') (hk : Keeps (MP M u) u u') : OpS M F B w L q sv p v X u' := by
  obtain ⟨cs, ms, hm0⟩ := h.fs.mi
  exact ⟨h.fs.step hm hk, h.pb.mi hm0 hk, h.qlo, h.blo, h.qne⟩
theorem OpS.below (h : OpS M F B w L q sv p v X u) (hb : Below u.heap.size u u') : OpS M F B w L q sv p v X u' := ⟨h.fs.below hb, h.pb.below hb, h.qlo, h.blo, h.qne⟩
theorem OpS.again (h : OpS M F B w L q sv p v X u) : OpS M F B u L q sv p v X u := ⟨h.fs.again, h.pb, h.qlo, h.blo, h.qne⟩
theorem OpS.turn (h : OpS M F B w L q sv p v X u) {v' : Value} {X' : Nat → Prop} (hp : PlX u v' X') (ho : Off (Fo F sv) v') : OpS M F B w L q sv p v' X' u := ⟨h.fs.turn hp ho, h.pb, h.qlo, h.blo, h.qne⟩
theorem OpS.chain {L' : List Row3} {v' : Value} {X' : Nat → Prop} (h : OpS M F B w L q sv p v X u) (h2 : OpS M F B u L' q sv p v' X' u') : OpS M F B w L' q sv p v' X' u' := ⟨h.fs.chain h2.fs, h2.pb, h.qlo, h.blo, h2.qne⟩
theorem OpS.sub {L' : List Row3} (h : OpS M F B w L q sv p v X u) (hs : ∀ x ∈ L', x ∈ L) : OpS M F B w L' q sv p v X u := ⟨h.fs.sub hs, h.pb, h.qlo, h.blo, fun x hx => h.qne x (hs x hx)⟩
theorem OpS.own_lt (h : OpS M F B w L q sv p v X u) : ∀ k, sv.ownBlock = some k → k < u.heap.size := fun k hk => by
  rcases h.pb.2.2 with ⟨e, _⟩ | ⟨_, o⟩
  · rw [e] at hk; cases hk
  · exact (o.lt k hk).2
theorem OpS.own_lo (h : OpS M F B w L q sv p v X u) : ∀ k, sv.ownBlock = some k → B ≤ k := fun k hk => by
  rcases h.pb.2.2 with ⟨e, _⟩ | ⟨_, o⟩
  · rw [e] at hk; cases hk
  · exact (o.lt k hk).1
theorem OpS.setRow {b : Nat} {c c' : Array Value} (h : OpS M F B w ((b, 58, c) :: L) q sv p v X u) (hq : w.heap.size ≤ b) (hne : ∀ x ∈ L, x.1 ≠ b) (hc : c[0]? = some (.int .i64 0)) : OpS M F B w ((b, 58, c') :: L) q sv p v X (u.setRow b c') := by
  have hbq : b ≠ q := h.qne (b, 58, c) (by simp)
  refine ⟨h.fs.setRow hq hne hc, ?_, h.qlo, h.blo, fun x hx => ?_⟩
  · obtain ⟨h1, h2, h3⟩ := h.pb
    refine ⟨h1.apart _ (fun e => hbq e.symm), h2, ?_⟩
    rcases h3 with h3 | ⟨h3, h4⟩
    · exact .inl h3
    · exact .inr ⟨h3, Cp.own_setRow h4 (own_neR h4 h.fs.r0 (by decide)) _⟩
  · rcases List.mem_cons.1 hx with e | e
    · subst e; exact hbq
    · exact h.qne x (by simp [e])
/-- More places are put. -/
theorem OpS.more (h : OpS M F B w L q sv p v X u) (hw : w.heap.size ≤ B) (hL : ∀ x ∈ L, x.2.1 ≠ 39) {p' : Nat → Bool} {e : Ending} (hp : Pt.PutR B u q sv p' e u') : e = .returned (.tuple #[]) ∧ ∃ sv', OpS M F B w L q sv' p' v X u' := by
  obtain ⟨rfl, sv', P', K', L'⟩ := hp
  refine ⟨rfl, sv', ?_⟩
  obtain ⟨cs, ms, hm⟩ := h.fs.mi
  have m2 : MI M (Fo F sv') cs ms u' := hm.own h.pb h.blo (Nat.le_trans h.blo h.qlo) (fun k hk => .inr hk) K' (fun k hk => by
    rcases hk with hk | hk
    · exact .inl (.inl hk)
    · rcases L' with e | ⟨j, e, hj⟩
      · exact .inl (.inr (e ▸ hk))
      · rw [e] at hk; cases hk; exact .inr hj)
  refine ⟨⟨⟨cs, ms, m2⟩, h.fs.keep.trans K' (fun k hl hn hk => ?_), fun x hx => ?_, ?_, ?_, h.fs.lo⟩, P', h.qlo, h.blo, h.qne⟩
  · have h1 := h.qlo
    rcases hk with hk | hk
    · omega
    · have := h.own_lo k hk; omega
  · obtain ⟨h1, h2, h3⟩ := h.fs.rows x hx
    refine ⟨row_keeps h1 K' (fun hk => ?_), h2, h3⟩
    rcases hk with hk | hk
    · exact h.qne x hx hk
    · rcases h.pb.2.2 with ⟨e, _⟩ | ⟨_, o⟩
      · rw [e] at hk; cases hk
      · exact own_neR o h1 (fun e => hL x hx e.symm) hk
  · obtain ⟨pp, h1, h2⟩ := h.fs.pl
    refine ⟨pp, h1.keep K'.size fun b hb => K'.block b (h1.lt hb) fun hk => ?_, h2⟩
    rcases hk with hk | hk
    · exact h1.off h.pb.1 rfl (fun x q => by cases q) hb hk
    · exact h.fs.off b hb (.inr hk)
  · intro b hb hk
    rcases hk with hk | hk
    · exact h.fs.off b hb (.inl hk)
    · rcases L' with e | ⟨j, e, hj⟩
      · exact h.fs.off b hb (.inr (e ▸ hk))
      · rw [e] at hk; cases hk
        obtain ⟨pp, h1, h2⟩ := h.fs.pl
        have := h1.lt hb
        omega
end
end Go.Proofs.YtcgondjekpcpgaaDoor.Sy.Lg

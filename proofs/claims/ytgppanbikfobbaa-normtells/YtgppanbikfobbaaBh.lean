/- The reference's walk: what it tells of a node. -/
import Derived.Test.YtgppanbikfobbaaBg
namespace Go.Proofs.Ytgppanbikfobbaa.Sy.Ap.Wk
open Go.RowKit
set_option maxRecDepth 100000
set_option linter.unusedVariables false

/-! ### By plain lists -/
theorem forest_nil {ns : List Nd} {a b : Nat} (h : Forest ns a b []) : b = a := by
  generalize hk : ([] : List Nat) = ks at h
  cases h with
  | nil => rfl
  | snoc => simp at hk
theorem top1 {ns : List Nd} {b i : Nat} (h : Forest ns b (i + 1) [i]) : ∃ n, ns[i]? = some n ∧ Forest ns b i n.l := by
  have hp := h.pos (by simp)
  obtain ⟨b', ks2, n, e, hn, f1, f2⟩ := h.top (by omega)
  have hk : ks2 = [] := by
    cases ks2 with
    | nil => rfl
    | cons x r => have := congrArg List.length e; simp at this
  subst hk
  have := forest_nil f1
  subst this
  exact ⟨n, hn, f2⟩
theorem kid_step {ns : List Nd} {mid c k : Nat} {r : List Nat} (h : Forest ns mid c (k :: r)) : Forest ns mid (k + 1) [k] ∧ Forest ns (k + 1) c r := by
  obtain ⟨m, f1, f2⟩ := h.split [k] r rfl
  have := f1.last
  subst this
  exact ⟨f1, f2⟩
theorem seg_shp {ns : List Nd} (h : Shp ns) (a b : Nat) : Shp (seg ns a b) := fun n hn => h n (List.mem_of_mem_drop (List.mem_of_mem_take hn))
section
variable {all : List Nat → Bool} {D : List Df} {ns : List Nd} {bb mid k c : Nat} {out : List Nd}
theorem seg_hts (h : Forest ns mid (k + 1) [k]) : hts 0 (seg ns mid (k + 1)) = some 1 := by
  have := h.hts 0
  simpa using this
/-- One kid more. -/
theorem kid_ok (hT : TreesD D) (hs : Shp ns) {x y : X} (h0 : bb ≤ mid) (hf : Forest ns mid (k + 1) [k]) (h1 : exF all D (seg ns bb mid) ⟨out, []⟩ = .ok x) (h2 : exF all D (seg ns mid (k + 1)) ⟨x.out, []⟩ = .ok y) : exF all D (seg ns bb (k + 1)) ⟨out, []⟩ = .ok ⟨y.out, x.rt ++ y.rt⟩ := by
  rw [seg_join h0 hf.le, exF_append, h1]
  have h3 := exF_pre (all := all) hT (seg_shp hs mid (k + 1)) (x := ⟨x.out, []⟩) (seg_hts hf) x.rt
  unfold preX at h3
  simp only [List.append_nil] at h3
  show exF all D (seg ns mid (k + 1)) x = _
  have e : x = ⟨x.out, x.rt⟩ := rfl
  rw [e, h3, h2]
  rfl
theorem kid_bad (hT : TreesD D) (hs : Shp ns) {x : X} {q : Nat} (h0 : bb ≤ mid) (hf : Forest ns mid (k + 1) [k]) (hc : k + 1 ≤ c) (h1 : exF all D (seg ns bb mid) ⟨out, []⟩ = .ok x) (h2 : exF all D (seg ns mid (k + 1)) ⟨x.out, []⟩ = .error q) : exF all D (seg ns bb c) ⟨out, []⟩ = .error q := by
  have hle := hf.le
  have h3 : exF all D (seg ns bb (k + 1)) ⟨out, []⟩ = .error q := by
    rw [seg_join h0 hle, exF_append, h1]
    have h3 := exF_pre (all := all) hT (seg_shp hs mid (k + 1)) (x := ⟨x.out, []⟩) (seg_hts hf) x.rt
    unfold preX at h3
    simp only [List.append_nil] at h3
    show exF all D (seg ns mid (k + 1)) x = _
    have e : x = ⟨x.out, x.rt⟩ := rfl
    rw [e, h3, h2]
    rfl
  rw [seg_join (b := k + 1) (by omega) hc, exF_append, h3]
theorem put_all {n : Nd} {x : X} (hn : ns[c]? = some n) (h6 : n.op ≠ 6) (h0 : bb ≤ c) (h1 : exF all D (seg ns bb c) ⟨out, []⟩ = .ok x) (hl : x.rt.length = n.l.length) : exF all D (seg ns bb (c + 1)) ⟨out, []⟩ = if 1024 ≤ x.out.length then .error 3 else .ok ⟨x.out ++ [withL n x.rt], [x.out.length]⟩ := by
  rw [seg_join h0 (Nat.le_succ c), seg_one hn, exF_append, h1]
  show exF all D [n] x = _
  by_cases hq : 1024 ≤ x.out.length
  · rw [exF_long h6 hq, if_pos hq]
  · rw [exF_put h6 hq, exF_nil, if_neg hq]
    unfold putX
    rw [hl, Nat.sub_self, List.drop_zero, List.take_zero]
    rfl
end
/-! ### What a walk owes -/
def WkQ (B : Nat) (u : World) (b ob m : Nat) (A2 : Option Addr) (c2 : Nat) (nv : Value) (l : List NR) (o : List Bool) (RES : Except Nat X) (e : Ending) (u' : World) : Prop :=
  ∃ (nv' : Value) (new : List NR) (er r : Int), e = .returned (.int .i64 r) ∧ WK B u' b ob m A2 c2 nv' (l ++ new) o er ∧ Lies u nv nv' ∧ (∀ x ∈ new, ∀ k, (Value.slice x.2.1 x.1.l.length x.2.2).ownBlock = some k → u.heap.size ≤ k) ∧ Keeps (Wr b ob nv) u u' ∧
    match RES with
    | .error q => er = (q : Int) ∧ 1 ≤ q
    | .ok x => er = 0 ∧ GN ((l ++ new).map (·.1)) x.out ∧ (l ++ new).length ≤ 1024 ∧ ∃ j : Nat, r = (j : Int) ∧ x.rt = [j]
theorem lies_refl (u : World) (v : Value) : Lies u v v := .inl rfl
theorem lies_trans {u u1 : World} {v v1 v2 : Value} (hs : u.heap.size ≤ u1.heap.size) (h1 : Lies u v v1) (h2 : Lies u1 v1 v2) : Lies u v v2 := by
  rcases h2 with h2 | ⟨k, h2, h3⟩
  · rcases h1 with h1 | ⟨k, h1, h4⟩
    · exact .inl (h2.trans h1)
    · exact .inr ⟨k, h2.trans h1, h4⟩
  · exact .inr ⟨k, h2, Nat.le_trans hs h3⟩
theorem lies_wr {u : World} {v v1 : Value} {b ob k : Nat} (h : Lies u v v1) (hk : k < u.heap.size) (hn : ¬ Wr b ob v k) : ¬ Wr b ob v1 k := by
  rintro (q | q | q)
  · exact hn (.inl q)
  · exact hn (.inr (.inl q))
  · rcases h with h | ⟨j, h, h2⟩
    · exact hn (.inr (.inr (h ▸ q)))
    · rw [h] at q
      cases q
      omega
/-- A walk that tells an error and puts nothing. -/
theorem wkq_bad {B : Nat} {u u' : World} {b ob m : Nat} {A2 : Option Addr} {c2 : Nat} {nv : Value} {l : List NR} {o : List Bool} {RES : Except Nat X} {q : Nat} (hR : RES = .error q) (hq : 1 ≤ q) (h : WK B u' b ob m A2 c2 nv l o q) (hk : Keeps (Wr b ob nv) u u') {r : Int} : WkQ B u b ob m A2 c2 nv l o RES (.returned (.int .i64 r)) u' := by
  rw [hR]
  exact ⟨nv, [], q, r, rfl, by rw [List.append_nil]; exact h, lies_refl _ _, fun x hx => absurd hx List.not_mem_nil, hk, rfl, hq⟩
theorem gn_get {gs : List Gd} {ns : List Nd} (h : GN gs ns) {i : Nat} {n : Nd} (hn : ns[i]? = some n) : i < gs.length ∧ GN1 (gs.getD i gd0) n := by
  have hl : i < ns.length := (List.getElem?_eq_some_iff.1 hn).1
  have hl2 : i < gs.length := by rw [h.1]; exact hl
  have := h.2 i hl2
  rw [List.getD_eq_getElem?_getD (l := ns), hn] at this
  exact ⟨hl2, this⟩
end Go.Proofs.Ytgppanbikfobbaa.Sy.Ap.Wk

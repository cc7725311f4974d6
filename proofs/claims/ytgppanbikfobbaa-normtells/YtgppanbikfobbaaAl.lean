/- The landed expander: expand, walked. -/
import Derived.Test.YtgppanbikfobbaaAk
namespace Go.Proofs.Ytgppanbikfobbaa.Sy.Ap
open Go.RowKit
set_option maxRecDepth 100000
set_option linter.unusedVariables false

theorem res_one {all : List Nat → Bool} {D : List Df} {l : List Nd} {x : X} : res all [(l, D)] x = exF all D l x := by
  rw [res]
  cases exF all D l x with
  | error e => rfl
  | ok x' => rfl
section
variable {B : Nat} {w wr w' : World} {b bt bo nt no : Nat} {f g : ByteArray → Option Value} {D0 : List Df} {RES : Except Nat X} {k : Nat} {fs : List FR} {x : X} {wv nv rv : Value} {wl : List WkE} {l : List NR}
/-- A name that is none. -/
theorem tk_none (h : ES B w b bt bo nt no f g wv nv rv wl l x.rt) (gx : Gd) (A : Option Addr) (c : Nat) (h6 : gx.op = 6) (hs : gx.nm.size ≤ maxLen) (hf : f gx.nm = none) :
    Calls Try.prog 36 #[.pointer (some ⟨b, 0, none⟩), .agg (gdL gx A c).toArray] w fun e w' => e = .returned (.int .i64 60) ∧ Below B w w' :=
  take_ref h gx A c h6 fun u hu => (enter_none (h.below hu) gx.nm hs hf).mono fun e w' ⟨h1, h2⟩ => ⟨60, h1, rfl, (hu.trans (h2.mono hu.size)).mono h.size⟩
theorem tk_twice (h : ES B w b bt bo nt no f g wv nv rv wl l x.rt) (gx : Gd) (A : Option Addr) (c : Nat) (h6 : gx.op = 6) (hs : gx.nm.size ≤ maxLen) {v : Value} (hf : f gx.nm = some v) (hg : g gx.nm = some (.agg #[])) :
    Calls Try.prog 36 #[.pointer (some ⟨b, 0, none⟩), .agg (gdL gx A c).toArray] w fun e w' => e = .returned (.int .i64 61) ∧ Below B w w' :=
  take_ref h gx A c h6 fun u hu => (enter_twice (h.below hu) gx.nm hs hf hg).mono fun e w' ⟨h1, h2⟩ => ⟨61, h1, rfl, (hu.trans (h2.mono hu.size)).mono h.size⟩
theorem tk_enter (h : ES B w b bt bo nt no f g wv nv rv wl l x.rt) (gx : Gd) (A : Option Addr) (c : Nat) (h6 : gx.op = 6) (hs : gx.nm.size ≤ maxLen) (A2 : Option Addr) (c2 : Nat) (rest : List Gd) (hf : f gx.nm = some (.slice A2 rest.length c2)) (hg : g gx.nm = none) (hwl : wl.length ≤ 100000) (hno : no ≤ 100000) :
    Calls Try.prog 36 #[.pointer (some ⟨b, 0, none⟩), .agg (gdL gx A c).toArray] w fun e w' => e = .returned (.int .i64 0) ∧ Below B w w' ∧ ∃ wv', ES B w' b bt bo nt (no + 1) f (fun k => if k = gx.nm then some (.agg #[]) else g k) wv' nv rv (wl ++ [⟨gx.nm, A2, c2, rest⟩]) l x.rt :=
  take_ref h gx A c h6 fun u hu => (enter_ok (h.below hu) gx.nm hs A2 c2 rest hf hg hwl hno).mono fun e w' ⟨h1, h2, h3⟩ => ⟨0, h1, rfl, (hu.mono h.size).trans h2, h3⟩
theorem tk_full (h : ES B w b bt bo nt no f g wv nv rv wl l x.rt) (gx : Gd) (A : Option Addr) (c : Nat) (h6 : gx.op ≠ 6) (hl : l.length = 1024) :
    Calls Try.prog 36 #[.pointer (some ⟨b, 0, none⟩), .agg (gdL gx A c).toArray] w fun e w' => e = .returned (.int .i64 3) ∧ Below B w w' :=
  take_put h gx A c h6 fun u hu => (put_full (h.below hu) gx A c hl).mono fun e w' ⟨h1, h2⟩ => ⟨3, h1, rfl, (hu.trans (h2.mono hu.size)).mono h.size⟩
theorem tk_put (h : ES B w b bt bo nt no f g wv nv rv wl l x.rt) (gx : Gd) (A : Option Addr) (c : Nat) (h6 : gx.op ≠ 6) (hk : gx.l.length ≤ x.rt.length) (hl : l.length < 1024) (hrt : x.rt.length ≤ 100000) :
    Calls Try.prog 36 #[.pointer (some ⟨b, 0, none⟩), .agg (gdL gx A c).toArray] w fun e w' => e = .returned (.int .i64 0) ∧ Below B w w' ∧
      ∃ nv' rv' kA kc, ES B w' b bt bo nt no f g wv nv' rv' wl (l ++ [(withG gx ((x.rt.drop (x.rt.length - gx.l.length)).map fun k : Nat => (k : Int)), kA, kc)]) (x.rt.take (x.rt.length - gx.l.length) ++ [l.length]) :=
  take_put h gx A c h6 fun u hu => (put_ok (h.below hu) gx A c hk hl hrt).mono fun e w' ⟨h1, h2, h3⟩ => ⟨0, h1, rfl, (hu.mono h.size).trans h2, h3⟩
/-- One round's end: it goes on, or an error is told. -/
def TkR (B : Nat) (w : World) (b bt bo nt : Nat) (f : ByteArray → Option Value) (D0 : List Df) (RES : Except Nat X) (k : Nat) (e : Ending) (w' : World) : Prop :=
  (e = .returned (.int .i64 0) ∧ ∃ k', k' < k ∧ ExL B w b bt bo nt f D0 RES k' w') ∨ (∃ er : Nat, e = .returned (.int .i64 ((er + 1 : Nat) : Int)) ∧ RES = .error (er + 1) ∧ Below B w w')
/-- A node is taken. -/
theorem take_any {e e2 : WkE} {n : Nd} {ns : List Nd} {D : List Df} {r : List FR} {gx : Gd} {A : Option Addr} {c : Nat} (h : ExI B w b bt bo nt f D0 RES k ((e, n :: ns, D) :: r) x no g wv nv rv wl l wr) (hT : TrM w B D0 f) (hD : D0.length ≤ 1000) (hb : Below B wr w') (hn : e2.nm = e.nm) (hf : Frm w' B e2 ns) (hg : GN1 gx n) (hsm : gx.nm.size ≤ maxLen)
    (hE : ES B w' b bt bo nt no f g wv nv rv ((r.map (·.1)).reverse ++ [e2]) l x.rt) :
    Calls Try.prog 36 #[.pointer (some ⟨b, 0, none⟩), .agg (gdL gx A c).toArray] w' fun en w2 => TkR B w b bt bo nt f D0 RES k en w2 := by
  have hll : l.length = x.out.length := by have := h.gn.1; rw [List.length_map] at this; exact this
  have hsh : shapeB n = true := h.stk.top.1.shp n (by simp)
  have hW : Below B w w' := h.bel.trans hb
  by_cases h6 : n.op = 6
  · have g6 : gx.op = 6 := by rw [hg.op, h6]; rfl
    have hst := h.stk.find _ _ _ _ rfl gx.nm
    have hnm := hg.nm
    have hlen := h.stk.len'
    have hcnt := h.cnt (by simp)
    rcases hst with ⟨q1, q2⟩ | ⟨q1, q2, q3⟩
    · cases hfv : f gx.nm with
      | none =>
        have hD0 := hT.none _ hfv
        refine (tk_none (x := x) hE gx A c g6 hsm hfv).mono fun en w2 ⟨h1, h2⟩ => .inr ⟨59, h1, ?_, hW.trans h2⟩
        rw [← h.run]
        have : res (allD D0) (((e, n :: ns, D) :: r).map (·.2)) x = .error (if allD D0 n.name then 61 else 60) := res_bad h6 (by rw [← hnm, q2, hD0])
        rw [this]
        have : allD D0 n.name = false := by unfold allD; rw [← hnm, hD0]; rfl
        rw [this]
        rfl
      | some v =>
        obtain ⟨A2, c2, gs, t, hv, p1, p2, p3, p4, p5, p6⟩ := hT.some _ v hfv
        subst hv
        have hwl : ((r.map (·.1)).reverse ++ [e2]).length ≤ 100000 := by simp; rw [List.length_cons] at hlen; omega
        refine (tk_enter (x := x) hE gx A c g6 hsm A2 c2 gs hfv q1 hwl (by rw [List.length_cons] at hlen hcnt; omega)).mono fun en w2 ⟨h1, h2, wv', h3⟩ => .inl ⟨h1, ?_⟩
        have hb2 := hb.trans h2
        obtain ⟨i1, i2⟩ := h.enter (e2 := e2) (t := t) hb2 h6 hn (hf.below h2) hnm hsm q1 ⟨p1.below (h.bel.trans hb2), p3, p2, p5.shp, p6⟩ (by rw [q2]; exact p4) p5 hsh h3 rfl
        exact ⟨_, i2, _, _, _, _, _, _, _, _, _, i1⟩
    · have hfs : ∃ v, f gx.nm = some v := by
        cases hfv : f gx.nm with
        | none => rw [hT.none _ hfv] at q3; cases q3
        | some v => exact ⟨v, rfl⟩
      obtain ⟨v, hfv⟩ := hfs
      refine (tk_twice (x := x) hE gx A c g6 hsm hfv q1).mono fun en w2 ⟨h1, h2⟩ => .inr ⟨60, h1, ?_, hW.trans h2⟩
      rw [← h.run]
      have : res (allD D0) (((e, n :: ns, D) :: r).map (·.2)) x = .error (if allD D0 n.name then 61 else 60) := res_bad h6 (by rw [← hnm, q2])
      rw [this]
      have : allD D0 n.name = true := by unfold allD; rw [← hnm]; exact q3
      rw [this]
      rfl
  · have g6 : gx.op ≠ 6 := by rw [hg.op]; omega
    have hfew := h.few
    by_cases hl : 1024 ≤ x.out.length
    · refine (tk_full (x := x) hE gx A c g6 (by omega)).mono fun en w2 ⟨h1, h2⟩ => .inr ⟨2, h1, ?_, hW.trans h2⟩
      rw [← h.run]
      exact res_long h6 hl
    · have hgl : gx.l.length = n.l.length := by rw [hg.l, List.length_map]
      obtain ⟨m, hm⟩ := h.hgt
      have hnl : n.l.length ≤ x.rt.length := by
        rw [flat_cons, List.cons_append, hts] at hm
        by_cases q : n.l.length ≤ x.rt.length
        · exact q
        · rw [if_neg q] at hm; cases hm
      have hrts := h.rts
      refine (tk_put (x := x) hE gx A c g6 (by omega) (by omega) (by omega)).mono fun en w2 ⟨h1, h2, nv', rv', kA, kc, h3⟩ => .inl ⟨h1, ?_⟩
      obtain ⟨i1, i2⟩ := h.put (e2 := e2) (hb.trans h2) h6 hl hn (hf.below h2) hg h3 rfl
      exact ⟨_, i2, _, _, _, _, _, _, _, _, _, i1⟩
end
end Go.Proofs.Ytgppanbikfobbaa.Sy.Ap

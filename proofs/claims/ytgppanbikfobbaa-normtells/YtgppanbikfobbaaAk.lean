/- The landed expander: expand. -/
import Derived.Test.YtgppanbikfobbaaAj
import Derived.Deep.LoopGhost
namespace Go.Proofs.Ytgppanbikfobbaa.Sy.Ap
open Go.RowKit
set_option maxRecDepth 100000
set_option linter.unusedVariables false

/-- The map of what names stand for, by plain lists. -/
structure TrM (w : World) (B : Nat) (D0 : List Df) (f : ByteArray → Option Value) : Prop where
  none : ∀ s, f s = none → findD D0 (bs s) = none
  some : ∀ s v, f s = some v → ∃ A c gs t, v = .slice A gs.length c ∧ Nds w B A gs ∧ gs.length ≤ c ∧ GN gs t ∧ findD D0 (bs s) = some t ∧ TreeN t ∧ Small gs
theorem TrM.keep {w w' : World} {B : Nat} {D0 : List Df} {f : ByteArray → Option Value} (h : TrM w B D0 f) (hb : Below B w w') : TrM w' B D0 f :=
  ⟨h.none, fun s v hv => by
    obtain ⟨A, c, gs, t, h1, h2, h3⟩ := h.some s v hv
    exact ⟨A, c, gs, t, h1, h2.below hb, h3⟩⟩
def flat (fs : List FR) : List Nd := fs.flatMap (·.2.1)
/-- What holds while it is expanded. -/
structure ExI (B : Nat) (w : World) (b bt bo nt : Nat) (f : ByteArray → Option Value) (D0 : List Df) (RES : Except Nat X) (k : Nat) (fs : List FR) (x : X) (no : Nat) (g : ByteArray → Option Value) (wv nv rv : Value) (wl : List WkE) (l : List NR) (wr : World) : Prop where
  es : ES B wr b bt bo nt no f g wv nv rv wl l x.rt
  wls : wl = (fs.map (·.1)).reverse
  gn : GN (l.map (·.1)) x.out
  stk : Stk wr B D0 g fs
  run : res (allD D0) (fs.map (·.2)) x = RES
  meas : costs (fs.map (·.2)) = k
  hgt : ∃ m, hts x.rt.length (flat fs) = some m
  cnt : fs ≠ [] → no + 1 ≤ fs.length
  bel : Below B w wr
  few : x.out.length ≤ 1024
  rts : x.rt.length ≤ x.out.length
def ExL (B : Nat) (w : World) (b bt bo nt : Nat) (f : ByteArray → Option Value) (D0 : List Df) (RES : Except Nat X) (k : Nat) (wr : World) : Prop := ∃ fs x no g wv nv rv wl l, ExI B w b bt bo nt f D0 RES k fs x no g wv nv rv wl l wr
/-- What expand tells. -/
def ExpR (B : Nat) (w : World) (b bt bo nt : Nat) (f : ByteArray → Option Value) (RES : Except Nat X) (e : Ending) (w' : World) : Prop :=
  Below B w w' ∧ match RES with
    | .error er => e = .returned (.int .i64 (er : Int))
    | .ok x => e = .returned (.int .i64 0) ∧ ∃ no g wv nv rv wl l, ES B w' b bt bo nt no f g wv nv rv wl l x.rt ∧ GN (l.map (·.1)) x.out
section
variable {B : Nat} {w wr w' : World} {b bt bo nt no : Nat} {f g : ByteArray → Option Value} {D0 : List Df} {RES : Except Nat X} {k : Nat} {fs : List FR} {x : X} {wv nv rv : Value} {wl : List WkE} {l : List NR}
theorem flat_cons (e : WkE) (ns : List Nd) (D : List Df) (r : List FR) : flat ((e, ns, D) :: r) = ns ++ flat r := rfl
/-- The innermost walk has come to its end. -/
theorem ExI.leave {e : WkE} {D : List Df} {r : List FR} {wl' : List WkE} {wv' : Value} (h : ExI B w b bt bo nt f D0 RES k ((e, [], D) :: r) x no g wv nv rv wl l wr) (hb : Below B wr w')
    (hE : ES B w' b bt bo nt (no - cntO (g e.nm)) f (fun k => if k = e.nm then none else g k) wv' nv rv wl' l x.rt) (hw : wl' = (r.map (·.1)).reverse) : ExI B w b bt bo nt f D0 RES (costs (r.map (·.2))) r x (no - cntO (g e.nm)) (fun k => if k = e.nm then none else g k) wv' nv rv wl' l w' ∧ costs (r.map (·.2)) < k := by
  obtain ⟨p1, p2⟩ := h.stk.pop
  refine ⟨⟨hE, hw, h.gn, p1.keep hb, ?_, rfl, ?_, fun hr => ?_, h.bel.trans hb, h.few, h.rts⟩, ?_⟩
  · rw [← h.run]
    exact res_leave.symm
  · obtain ⟨m, hm⟩ := h.hgt
    exact ⟨m, hm⟩
  · have h1 := h.cnt (by simp)
    have h2 : cntO (g e.nm) = 1 := by unfold cntO; rw [p2 hr]; rfl
    have h3 : 1 ≤ r.length := by
      cases r with
      | nil => exact absurd rfl hr
      | cons a t => simp
    rw [List.length_cons] at h1
    omega
  · have := h.meas
    have e1 : costs (((e, ([] : List Nd), D) :: r).map (·.2)) = cost D [] + 1 + costs (r.map (·.2)) := rfl
    rw [e1] at this
    omega
/-- A node was put. -/
theorem ExI.put {e e2 : WkE} {n : Nd} {ns : List Nd} {D : List Df} {r : List FR} {wl' : List WkE} {nv' rv' : Value} {gx : Gd} {kA : Option Addr} {kc : Nat} (h : ExI B w b bt bo nt f D0 RES k ((e, n :: ns, D) :: r) x no g wv nv rv wl l wr) (hb : Below B wr w') (h6 : n.op ≠ 6) (hl : ¬ 1024 ≤ x.out.length) (hn : e2.nm = e.nm) (hf : Frm w' B e2 ns) (hg : GN1 gx n)
    (hE : ES B w' b bt bo nt no f g wv nv' rv' wl' (l ++ [(withG gx ((x.rt.drop (x.rt.length - gx.l.length)).map fun k : Nat => (k : Int)), kA, kc)]) (x.rt.take (x.rt.length - gx.l.length) ++ [l.length])) (hw : wl' = (r.map (·.1)).reverse ++ [e2]) :
    ExI B w b bt bo nt f D0 RES (costs (((e2, ns, D) :: r).map (·.2))) ((e2, ns, D) :: r) (putX n x) no g wv nv' rv' wl' (l ++ [(withG gx ((x.rt.drop (x.rt.length - gx.l.length)).map fun k : Nat => (k : Int)), kA, kc)]) w' ∧ costs (((e2, ns, D) :: r).map (·.2)) < k := by
  have hgl : gx.l.length = n.l.length := by rw [hg.l, List.length_map]
  have hll : l.length = x.out.length := by have := h.gn.1; rw [List.length_map] at this; exact this
  rw [hgl] at hE ⊢
  obtain ⟨m, hm⟩ := h.hgt
  have hnl : n.l.length ≤ x.rt.length := by
    rw [flat_cons, List.cons_append, hts] at hm
    by_cases q : n.l.length ≤ x.rt.length
    · exact q
    · rw [if_neg q] at hm; cases hm
  refine ⟨⟨?_, ?_, ?_, ((h.stk.keep hb).turn hn hf), ?_, rfl, ⟨m, ?_⟩, fun _ => ?_, h.bel.trans hb, ?_, ?_⟩, ?_⟩
  · have : (putX n x).rt = x.rt.take (x.rt.length - n.l.length) ++ [l.length] := by unfold putX; simp only [hll]
    rw [this]
    exact hE
  · rw [hw]
    simp
  · have e1 : (putX n x).out = x.out ++ [withL n (x.rt.drop (x.rt.length - n.l.length))] := rfl
    rw [e1]
    have q : GN1 (withG gx ((x.rt.drop (x.rt.length - n.l.length)).map fun k : Nat => (k : Int))) (withL n (x.rt.drop (x.rt.length - n.l.length))) := ⟨hg.op, hg.s, rfl, hg.lo, hg.hi, hg.nm⟩
    exact gn_map (x := (_, kA, kc)) h.gn q
  · rw [← h.run]
    exact (res_put h6 hl).symm
  · rw [put_len]
    rw [flat_cons, List.cons_append, hts, if_pos hnl] at hm
    exact hm
  · have := h.cnt (by simp)
    simpa using this
  · show (x.out ++ [_]).length ≤ 1024
    rw [List.length_append, List.length_singleton]
    omega
  · rw [put_len]
    show _ ≤ (x.out ++ [_]).length
    rw [List.length_append, List.length_singleton]
    have := h.rts
    omega
  · have := h.meas
    have q1 : costs (((e, n :: ns, D) :: r).map (·.2)) = cost D (n :: ns) + 1 + costs (r.map (·.2)) := rfl
    have q2 : costs (((e2, ns, D) :: r).map (·.2)) = cost D ns + 1 + costs (r.map (·.2)) := rfl
    have := cost_lt D n ns
    have q0 := h.meas
    rw [q1] at q0
    rw [q2]
    omega
/-- A name was entered. -/
theorem ExI.enter {e e2 : WkE} {n : Nd} {ns t : List Nd} {D : List Df} {r : List FR} {wl' : List WkE} {wv' : Value} {s : ByteArray} {A : Option Addr} {c : Nat} {gs : List Gd} (h : ExI B w b bt bo nt f D0 RES k ((e, n :: ns, D) :: r) x no g wv nv rv wl l wr) (hb : Below B wr w') (h6 : n.op = 6) (hn : e2.nm = e.nm) (hf : Frm w' B e2 ns)
    (hs : bs s = n.name) (hsz : s.size ≤ maxLen) (hgs : g s = none) (hft : Frm w' B ⟨s, A, c, gs⟩ t) (hfd : findD D (bs s) = some t) (ht : TreeN t) (hsh : shapeB n = true)
    (hE : ES B w' b bt bo nt (no + 1) f (fun k => if k = s then some (.agg #[]) else g k) wv' nv rv wl' l x.rt) (hw : wl' = (r.map (·.1)).reverse ++ [e2] ++ [⟨s, A, c, gs⟩]) :
    ExI B w b bt bo nt f D0 RES (costs ((((⟨s, A, c, gs⟩ : WkE), t, remD D (bs s)) :: (e2, ns, D) :: r).map (·.2))) (((⟨s, A, c, gs⟩ : WkE), t, remD D (bs s)) :: (e2, ns, D) :: r) x (no + 1) (fun k => if k = s then some (.agg #[]) else g k) wv' nv rv wl' l w' ∧ costs ((((⟨s, A, c, gs⟩ : WkE), t, remD D (bs s)) :: (e2, ns, D) :: r).map (·.2)) < k := by
  obtain ⟨m, hm⟩ := h.hgt
  have hst := (h.stk.keep hb).turn hn hf
  refine ⟨⟨hE, ?_, h.gn, Stk.step (e := ⟨s, A, c, gs⟩) hst hfd hgs hsz hft, ?_, rfl, ⟨m, ?_⟩, fun _ => ?_, h.bel.trans hb, h.few, h.rts⟩, ?_⟩
  · rw [hw]
    simp
  · rw [← h.run, hs]
    exact (res_enter h6 (by rw [← hs]; exact hfd)).symm
  · rw [flat_cons, flat_cons, hts_append]
    have h1 := hts_more t 0 1 x.rt.length ht.hts
    rw [Nat.zero_add] at h1
    rw [h1, Option.bind_some]
    rw [flat_cons, List.cons_append, hts, shp_ref hsh h6, List.length_nil, if_pos (Nat.zero_le _)] at hm
    rw [Nat.add_comm]
    exact hm
  · have := h.cnt (by simp)
    simp only [List.length_cons] at this ⊢
    omega
  · have := h.meas
    have e1 : costs (((e, n :: ns, D) :: r).map (·.2)) = cost D (n :: ns) + 1 + costs (r.map (·.2)) := rfl
    have e3 : costs ((((⟨s, A, c, gs⟩ : WkE), t, remD D (bs s)) :: (e2, ns, D) :: r).map (·.2)) = cost (remD D (bs s)) t + 1 + (cost D ns + 1 + costs (r.map (·.2))) := rfl
    have := cost_in (r := ns) h6 (t := t) (by rw [← hs]; exact hfd)
    rw [← hs] at this
    have q0 := h.meas
    rw [e1] at q0
    rw [e3]
    omega
theorem gn_cons {g0 : Gd} {gs : List Gd} {ns : List Nd} (h : GN (g0 :: gs) ns) : ∃ n ns', ns = n :: ns' ∧ GN1 g0 n ∧ GN gs ns' := by
  cases ns with
  | nil => have := h.1; simp at this
  | cons n ns' =>
    refine ⟨n, ns', rfl, h.2 0 (by simp), ?_, fun i hi => ?_⟩
    · have := h.1; simpa using this
    · have := h.2 (i + 1) (by simp; omega)
      simpa using this
end
end Go.Proofs.Ytgppanbikfobbaa.Sy.Ap

/- The landed glush: what Of writes; what it returns. -/
import Derived.Test.YtahhiajliomcfaaPGE
namespace Go.Proofs.Ytahhiajliomcfaa.Sy.Gl
open Go.RowKit Go.Proofs.Ytahhiajliomcfaa.Sy.Ap Go.Proofs.Ytahhiajliomcfaa.Sy.Ap.Wk Go.Proofs.Ytahhiajliomcfaa.Sy.Lg Go.Proofs.Ytahhiajliomcfaa.Sy.Pl
set_option maxRecDepth 100000
set_option linter.unusedVariables false

theorem bits_info : (Try.prog.info? 84).map (fun i => (i.zero, i.size, i.bytes)) = some (some (.agg (Array.replicate 512 (.bool false))), 512, 512) := by kernel_rfl
theorem made_same (z : Value) (k n : Nat) (hk : 0 < k) : madeCells (Array.replicate k z) n = fnC n (fun _ => z) := by
  apply Array.ext_getElem?
  intro i
  by_cases hi : i < n
  · rw [fnC_at _ _ _ hi, Array.getElem?_eq_getElem (by rw [size_madeCells]; exact hi)]
    simp only [madeCells, Array.getElem_map, Array.getElem_range, Array.size_replicate]
    have hm : i % k < k := Nat.mod_lt _ hk
    rw [getElem!_pos (Array.replicate k z) (i % k) (by simpa using hm)]
    simp
  · rw [Array.getElem?_eq_none (by rw [size_madeCells]; omega), Array.getElem?_eq_none (by rw [fnC_size]; omega)]
theorem make_fol (n : Nat) (hn : n ≤ 1000000) (w : World) : (Instr.makeSlice 53 (.int .i64 (n : Int)) (.int .i64 (n : Int))).run Try.prog w =
    .ok (.slice (some ⟨w.heap.size, 0, none⟩) n n) (w.alloc (.cells (fnC (n * 512) (fun _ => .bool false)) 84)) := by
  obtain ⟨i0, hi0, hz0, hz1, hz2⟩ := info_parts bits_info
  have := run_make (P := Try.prog) w 53 84 i0 _ Try.underlying53 hi0 hz0 .i64 .i64 (n : Int) (n : Int) (by omega) (Int.le_refl _) (by rw [hz2]; omega) (by omega)
  rw [this, hz1, Int.toNat_natCast]
  have e : (Value.agg (Array.replicate 512 (.bool false))).cells = Array.replicate 512 (.bool false) := rfl
  rw [e, made_same _ _ _ (by omega)]
theorem results_cell_slot {fn : Func} {p t : Tmp} {ty : TypeId} (h : fn.results = #[.cell p ty, .tmp t]) (tmps : Array Value) (w : World) (g : Nat) (cs : Array Value)
    (hp : tmps.getD p undef = .pointer (some ⟨g, 0, none⟩)) (hl : (loadVar ty ⟨g, 0, none⟩).run Try.prog w = .ok (.agg cs) w) {v : Value} (hv : tmps.getD t undef = v) :
    (results fn tmps).run Try.prog w = .ok (.tuple #[.agg cs, v]) w := by
  have hp' : tmps[p]?.getD undef = .pointer (some ⟨g, 0, none⟩) := by simpa using hp
  have hv' : tmps[t]?.getD undef = v := by simpa using hv
  simp [results, h, hp', hv', asAddr, hl]
theorem gl_info (a b : Value) : (Try.prog.info? 26).map (·.size) = some (#[a, b] : Array Value).size := by
  show _ = some 2
  kernel_rfl
theorem ret_glush {fn : Func} {R : Ending → World → Prop} {a : Act} {w : World} {t s b : Nat} {x y v : Value} (hr : fn.results = #[.cell t 26, .tmp s]) (ht : a.tmps.getD t undef = .pointer (some ⟨b, 0, none⟩))
    (h : RowA w b 26 #[x, y]) (hv : a.tmps.getD s undef = v) (hd : a.defers = []) (hR : R (.returned (.tuple #[.agg #[x, y], v])) w) : bodyPost Try.prog fn R .ret a w :=
  bodyPost_ret (v := .tuple #[.agg #[x, y], v]) (results_cell_slot hr a.tmps w b #[x, y] ht (run_loadVar_row w b 26 26 #[x, y] (0, 0) _ h Try.underlying26 rfl (gl_info x y)) hv) hd hR
theorem gl_ones (A1 A2 : Option Addr) (n1 c1 n2 c2 : Nat) : (#[.slice A1 n1 c1, .slice A2 n2 c2] : Array Value).all (·.oneCell') = true := by simp [Value.oneCell']
section
variable {B : Nat} {w w' u : World} {bb fb many : Nat} {pv z : Value} {l : List Pv} {f : Fol}
/-- A place is a last one. -/
theorem BS.setLast {gp c : Nat} (h : BS B w bb fb many (.slice (some ⟨gp, 0, none⟩) l.length c) l f) {k : Nat} (hk : k < l.length) : ∃ l', BS B (w.setCell ⟨gp, k * 9 + 7, none⟩ (.bool true)) bb fb many (.slice (some ⟨gp, 0, none⟩) l.length c) l' f ∧ l'.length = l.length ∧ l'.map (·.1) = lastP (l.map (·.1)) k ∧ (∃ v, w.cell? ⟨gp, k * 9 + 7, none⟩ = some v) ∧ ∀ j, w.frozen? ⟨gp, j, none⟩ = false := by
  obtain ⟨x, hx⟩ : ∃ x, l[k]? = some x := ⟨_, List.getElem?_eq_getElem hk⟩
  have S4 := h.setp (j := 7) (x' := (⟨x.1.s, x.1.lo, x.1.hi, x.1.rule, true, x.1.next⟩, x.2)) hx (by decide) (v := .bool true) rfl (h.nexts x (List.mem_of_getElem? hx)) (h.nxt x (List.mem_of_getElem? hx))
  refine ⟨_, S4, List.length_set, ?_, ⟨_, h.pcell hx (j := 7) (by decide) rfl⟩, fun j => own_thaw h.places j⟩
  rw [List.map_set]
  unfold lastP
  rw [getD_fst hx]
/-- What follows a place. -/
theorem BS.setNext {gp c : Nat} (h : BS B w bb fb many (.slice (some ⟨gp, 0, none⟩) l.length c) l f) {k : Nat} (hk : k < l.length) {A : Option Addr} {cn : Nat} {xs : List Nat} (hx : IR w B A cn xs) (hnn : xs = [] → A = none) : ∃ l', BS B (w.setCell ⟨gp, k * 9 + 8, none⟩ (.slice A xs.length cn)) bb fb many (.slice (some ⟨gp, 0, none⟩) l.length c) l' f ∧ l'.length = l.length ∧ l'.map (·.1) = nextP (l.map (·.1)) k xs ∧ (∃ v, w.cell? ⟨gp, k * 9 + 8, none⟩ = some v) ∧ ∀ j, w.frozen? ⟨gp, j, none⟩ = false := by
  obtain ⟨x, hx2⟩ : ∃ x, l[k]? = some x := ⟨_, List.getElem?_eq_getElem hk⟩
  have S4 := h.setp (j := 8) (x' := (⟨x.1.s, x.1.lo, x.1.hi, x.1.rule, x.1.last, xs⟩, A, cn)) hx2 (by decide) (v := .slice A xs.length cn) rfl hx hnn
  refine ⟨_, S4, List.length_set, ?_, ⟨_, h.pcell hx2 (j := 8) (by decide) rfl⟩, fun j => own_thaw h.places j⟩
  rw [List.map_set]
  unfold nextP
  rw [getD_fst hx2]
end
/-! ### The plans, one by one -/
/-- Each is a plan, as memory has it. -/
structure PlN (pl : List (List Gd)) (nl : List (List Nd)) : Prop where
  len : pl.length = nl.length
  each : ∀ i, i < pl.length → GN (pl.getD i []) (nl.getD i []) ∧ TreeN (nl.getD i []) ∧ PlainN (nl.getD i []) ∧ Rp (nl.getD i [])
theorem many_gn {pl : List (List Gd)} {nl : List (List Nd)} (h : PlN pl nl) : manyG pl = manyN nl := by
  unfold manyG manyN
  congr 1
  apply List.ext_getElem
  · simp [h.len]
  · intro i h1 h2
    have hi : i < pl.length := by simpa using h1
    have hj : i < nl.length := by simpa using h2
    have e1 : pl.getD i [] = pl[i] := by rw [List.getD_eq_getElem?_getD, List.getElem?_eq_getElem hi]; rfl
    have e2 : nl.getD i [] = nl[i] := by rw [List.getD_eq_getElem?_getD, List.getElem?_eq_getElem hj]; rfl
    have := (h.each i hi).1
    rw [e1, e2] at this
    simp only [List.getElem_map]
    exact bytes_gn this
theorem root_len {rule : Nat} {ns : List Nd} {g : Gs} (ht : TreeN ns) : (rootG rule ns g).first.length ≤ bytesN ns ∧ (rootG rule ns g).last.length ≤ bytesN ns ∧ (∀ x ∈ (rootG rule ns g).last, x < g.ps.length + bytesN ns) := by
  have hpos := ht.pos
  obtain ⟨⟨r1, s1⟩, r2, s2⟩ := parts_rise (rule := rule) (g := g) ht.frs (Nat.le_refl _)
  have e : PT rule ns g (ns.length - 1) = rootG rule ns g := by
    unfold rootG
    have h := PT_at (rule := rule) (ns := ns) (g := g) (k := ns.length - 1) (i := ns.length) (by omega) (Nat.le_refl _)
    rw [List.take_length] at h
    exact h.symm
  have e1 : ([ns.length - 1].flatMap fun k => (PT rule ns g k).first) = (rootG rule ns g).first := by simp [e]
  have e2 : ([ns.length - 1].flatMap fun k => (PT rule ns g k).last) = (rootG rule ns g).last := by simp [e]
  rw [e1] at r1 s1
  rw [e2] at r2 s2
  have q0 : plQ ns g 0 = g.ps.length := by unfold plQ; simp [bytesN]
  have q1 : plQ ns g ns.length = g.ps.length + bytesN ns := by unfold plQ; rw [List.take_length]
  rw [q0, q1] at s1 s2
  have h1 := rise_len _ _ _ r1 s1
  have h2 := rise_len _ _ _ r2 s2
  exact ⟨by omega, by omega, fun x hx => (s2 x hx).2⟩
theorem many_drop {nl : List (List Nd)} {i : Nat} (h : i < nl.length) : manyN (nl.drop i) = bytesN (nl.getD i []) + manyN (nl.drop (i + 1)) := by
  have e : nl.getD i [] = nl[i] := by rw [List.getD_eq_getElem?_getD, List.getElem?_eq_getElem h]; rfl
  rw [e, List.drop_eq_getElem_cons h]
  unfold manyN
  rw [List.map_cons, List.sum_cons]
theorem markG_snoc (l : List Nat) (x : Nat) (ps : List Pn) : markG (l ++ [x]) ps = lastP (markG l ps) x := by
  unfold markG
  rw [List.foldl_append]
  rfl
theorem nextG_succ (f : Fol) (n k : Nat) (ps : List Pn) : nextG f n (k + 1) ps = nextP (nextG f n k ps) k (followL f n k) := by
  unfold nextG
  rw [List.range_succ, List.foldl_append]
  rfl
end Go.Proofs.Ytahhiajliomcfaa.Sy.Gl

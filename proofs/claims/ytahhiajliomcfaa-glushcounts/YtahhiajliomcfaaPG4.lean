/- The landed builder: a part that is repeated. -/
import Derived.Test.YtahhiajliomcfaaPG3
import Derived.Test.YtahhiajliomcfaaPRt
namespace Go.Proofs.Ytahhiajliomcfaa.Sy.Gl
open Go.RowKit Go.Proofs.Ytahhiajliomcfaa.Sy.Ap Go.Proofs.Ytahhiajliomcfaa.Sy.Ap.Wk Go.Proofs.Ytahhiajliomcfaa.Sy.Lg Go.Proofs.Ytahhiajliomcfaa.Sy.Pl
set_option maxRecDepth 100000
set_option linter.unusedVariables false

theorem posC_set : ∀ (l : List Pv) (i j : Nat) (x x' : Pv) (v : Value), l[i]? = some x → j < 9 → posL x'.1 x'.2.1 x'.2.2 = (posL x.1 x.2.1 x.2.2).set j v → (posC l).set (i * 9 + j) v = posC (l.set i x')
  | [], i, j, x, x', v, h, _, _ => by simp at h
  | y :: r, 0, j, x, x', v, h, hj, he => by
    have h : y = x := by simpa using h
    subst h
    have e : posC (y :: r) = posL y.1 y.2.1 y.2.2 ++ posC r := rfl
    have e' : posC ((y :: r).set 0 x') = posL x'.1 x'.2.1 x'.2.2 ++ posC r := rfl
    rw [e, e', he, Nat.zero_mul, Nat.zero_add, List.set_append_left _ _ (by rw [posL_len]; exact hj)]
  | y :: r, i + 1, j, x, x', v, h, hj, he => by
    have h : r[i]? = some x := by simpa using h
    have e : posC (y :: r) = posL y.1 y.2.1 y.2.2 ++ posC r := rfl
    have e' : posC ((y :: r).set (i + 1) x') = posL y.1 y.2.1 y.2.2 ++ posC (r.set i x') := rfl
    rw [e, e', List.set_append_right _ _ (by rw [posL_len]; omega), posL_len, show (i + 1) * 9 + j - 9 = i * 9 + j by omega, posC_set r i j x x' v h hj he]
theorem own_put {w : World} {base : Nat} {e : TypeId} {sz n gw cw j : Nat} {xs : List Value} (h : w.ownsRow base e sz (.slice (some ⟨gw, 0, none⟩) n cw) n xs) (hj : j < xs.length) (v : Value) : (w.setCell ⟨gw, j, none⟩ v).ownsRow base e sz (.slice (some ⟨gw, 0, none⟩) n cw) n (xs.set j v) := by
  obtain ⟨h1, h2⟩ := h
  refine ⟨by rw [List.length_set]; exact h1, ?_⟩
  rcases h2 with ⟨h2, _⟩ | ⟨g, cap, cur, hv, hg, hh, r1, r2, r3, r4⟩
  · cases h2
  · cases hv
    refine .inr ⟨gw, cw, cur.setIfInBounds j v, rfl, hg, ?_, r1, r2, by rw [Array.size_setIfInBounds]; exact r3, ?_⟩
    · simp [World.setCell, Array.getElem?_modify, hh]
    · rw [Array.toList_setIfInBounds, List.take_set, r4]
theorem own_thaw {w : World} {b n c g : Nat} {xs : List Value} {e : TypeId} {sz : Nat} (h : w.ownsRow b e sz (.slice (some ⟨g, 0, none⟩) n c) n xs) (k : Nat) : w.frozen? ⟨g, k, none⟩ = false := by
  rcases h.2 with ⟨h, _⟩ | ⟨g', cap, cur, hv, _, hh, _⟩
  · cases h
  · cases hv
    simp [World.frozen?, hh]
section
variable {B : Nat} {w w' u : World} {bb fb many : Nat} {pv z : Value} {l : List Pv} {f : Fol}
theorem BS.pos (h : BS B w bb fb many pv l f) (hl : 0 < l.length) : ∃ gp c, pv = .slice (some ⟨gp, 0, none⟩) l.length c ∧ B ≤ gp ∧ gp < w.heap.size := own_pos h.places hl
theorem BS.pcell {gp c : Nat} (h : BS B w bb fb many (.slice (some ⟨gp, 0, none⟩) l.length c) l f) {i j : Nat} {x : Pv} (hi : l[i]? = some x) (hj : j < 9) {v : Value} (hv : (posL x.1 x.2.1 x.2.2)[j]? = some v) : w.cell? ⟨gp, i * 9 + j, none⟩ = some v := by
  have := h.places.cells (g := gp) rfl (i * 9 + j) v (by rw [posC_at l i j x hi hj]; exact hv)
  rw [addr_add] at this
  exact this
/-- A cell of a place is written. -/
theorem BS.setp {gp c : Nat} (h : BS B w bb fb many (.slice (some ⟨gp, 0, none⟩) l.length c) l f) {i j : Nat} {x x' : Pv} (hi : l[i]? = some x) (hj : j < 9) {v : Value} (he : posL x'.1 x'.2.1 x'.2.2 = (posL x.1 x.2.1 x.2.2).set j v) (hn : IR w B x'.2.1 x'.2.2 x'.1.next) (hnn : x'.1.next = [] → x'.2.1 = none) : BS B (w.setCell ⟨gp, i * 9 + j, none⟩ v) bb fb many (.slice (some ⟨gp, 0, none⟩) l.length c) (l.set i x') f := by
  have hil : i < l.length := (List.getElem?_eq_some_iff.1 hi).1
  have hp := own_put (j := i * 9 + j) h.places (by rw [posC_len]; omega) v
  rw [posC_set l i j x x' v hi hj he] at hp
  have n1 : bb ≠ gp := fun q => own_neR h.places h.row (by decide) (by rw [q]; rfl)
  have n2 : fb ≠ gp := fun q => own_neF h.places h.fol (by decide) (by rw [q]; rfl)
  have hnx : ∀ y : Pv, IR w B y.2.1 y.2.2 y.1.next → IR (w.setCell ⟨gp, i * 9 + j, none⟩ v) B y.2.1 y.2.2 y.1.next := fun y hy => own_sb hy (fun e => own_apart hy h.places (by decide) gp e rfl) _
  refine ⟨h.row.far (a := ⟨gp, i * 9 + j, none⟩) n1 _, h.fol.far (a := ⟨gp, i * 9 + j, none⟩) n2 _, by rw [List.length_set]; exact hp, fun y hy => ?_, h.hb, h.hf, h.few, fun y hy hne => ?_⟩
  · rcases List.mem_or_eq_of_mem_set hy with q | q
    · exact hnx y (h.nexts y q)
    · subst q
      exact hnx y hn
  · rcases List.mem_or_eq_of_mem_set hy with q | q
    · exact h.nxt y q hne
    · subst q
      exact hnn hne
theorem BS.wlt (h : BS B w bb fb many pv l f) : ∀ k, Wb bb fb pv k → k < w.heap.size := by
  rintro k (rfl | rfl | q)
  · exact h.row.lt
  · exact h.fol.lt
  · exact (h.places.lt k q).2
theorem getD_fst {i : Nat} {x : Pv} (hi : l[i]? = some x) : (l.map (·.1)).getD i pn0 = x.1 := by
  rw [List.getD_eq_getElem?_getD, List.getElem?_map, hi]
  rfl
def loP (ps : List Pn) (i : Nat) (lo : Int) : List Pn := ps.set i ⟨(ps.getD i pn0).s, lo, (ps.getD i pn0).hi, (ps.getD i pn0).rule, (ps.getD i pn0).last, (ps.getD i pn0).next⟩
def hiP (ps : List Pn) (i : Nat) (hi : Int) : List Pn := ps.set i ⟨(ps.getD i pn0).s, (ps.getD i pn0).lo, hi, (ps.getD i pn0).rule, (ps.getD i pn0).last, (ps.getD i pn0).next⟩
theorem bnd_two {ps : List Pn} {k : Nat} (hk : k < ps.length) (lo hi : Int) : hiP (loP ps k lo) k hi = bndP ps k lo hi := by
  unfold hiP loP bndP
  have e : ∀ y : Pn, (ps.set k y).getD k pn0 = y := fun y => by rw [List.getD_eq_getElem?_getD, List.getElem?_set_self hk]; rfl
  rw [e, List.set_set]
/-- The lower bound of a place is written. -/
theorem BS.setLo {gp c : Nat} (h : BS B w bb fb many (.slice (some ⟨gp, 0, none⟩) l.length c) l f) {k : Nat} (hk : k < l.length) (lo : Int) : ∃ l', BS B (w.setCell ⟨gp, k * 9 + 4, none⟩ (.int .i64 lo)) bb fb many (.slice (some ⟨gp, 0, none⟩) l.length c) l' f ∧ l'.length = l.length ∧ l'.map (·.1) = loP (l.map (·.1)) k lo ∧ (∃ v, w.cell? ⟨gp, k * 9 + 4, none⟩ = some v) ∧ ∀ j, w.frozen? ⟨gp, j, none⟩ = false := by
  obtain ⟨x, hx⟩ : ∃ x, l[k]? = some x := ⟨_, List.getElem?_eq_getElem hk⟩
  have S4 := h.setp (j := 4) (x' := (⟨x.1.s, lo, x.1.hi, x.1.rule, x.1.last, x.1.next⟩, x.2)) hx (by decide) (v := .int .i64 lo) rfl (h.nexts x (List.mem_of_getElem? hx)) (h.nxt x (List.mem_of_getElem? hx))
  refine ⟨_, S4, List.length_set, ?_, ⟨_, h.pcell hx (j := 4) (by decide) rfl⟩, fun j => own_thaw h.places j⟩
  rw [List.map_set]
  unfold loP
  rw [getD_fst hx]
theorem BS.setHi {gp c : Nat} (h : BS B w bb fb many (.slice (some ⟨gp, 0, none⟩) l.length c) l f) {k : Nat} (hk : k < l.length) (hi : Int) : ∃ l', BS B (w.setCell ⟨gp, k * 9 + 5, none⟩ (.int .i64 hi)) bb fb many (.slice (some ⟨gp, 0, none⟩) l.length c) l' f ∧ l'.length = l.length ∧ l'.map (·.1) = hiP (l.map (·.1)) k hi ∧ (∃ v, w.cell? ⟨gp, k * 9 + 5, none⟩ = some v) ∧ ∀ j, w.frozen? ⟨gp, j, none⟩ = false := by
  obtain ⟨x, hx⟩ : ∃ x, l[k]? = some x := ⟨_, List.getElem?_eq_getElem hk⟩
  have S4 := h.setp (j := 5) (x' := (⟨x.1.s, x.1.lo, hi, x.1.rule, x.1.last, x.1.next⟩, x.2)) hx (by decide) (v := .int .i64 hi) rfl (h.nexts x (List.mem_of_getElem? hx)) (h.nxt x (List.mem_of_getElem? hx))
  refine ⟨_, S4, List.length_set, ?_, ⟨_, h.pcell hx (j := 5) (by decide) rfl⟩, fun j => own_thaw h.places j⟩
  rw [List.map_set]
  unfold hiP
  rw [getD_fst hx]
end
end Go.Proofs.Ytahhiajliomcfaa.Sy.Gl
namespace Go.Proofs.Ytahhiajliomcfaa.Sy.Gl.Rp
open Go.RowKit Go.Proofs.Ytahhiajliomcfaa.Sy.Ap Go.Proofs.Ytahhiajliomcfaa.Sy.Ap.Wk Go.Proofs.Ytahhiajliomcfaa.Sy.Lg Go.Proofs.Ytahhiajliomcfaa.Sy.Pl
set_option maxRecDepth 100000
set_option linter.unusedVariables false
/-- The box stays; one cell was written, or was not yet. -/
structure TwR (w : World) (p : Addr) (x : Value) (q : Nat) (cs : Array Value) (fl : Bool) (a : Act) (v : World) : Prop where
  f : fl = false → Below w.heap.size w v
  t : fl = true → ∃ v0, Below w.heap.size w v0 ∧ Below v0.heap.size (v0.setCell p x) v
  box : RowA v q 42 cs
theorem size_set (w : World) (p : Addr) (x : Value) : (w.setCell p x).heap.size = w.heap.size := by rw [World.setCell]; simp only [Array.size_modify]
theorem TwR.below {w : World} {p : Addr} {x : Value} {q : Nat} {cs : Array Value} {fl : Bool} {a : Act} {v v' : World} (h : TwR w p x q cs fl a v) (hb : Below v.heap.size v v') : TwR w p x q cs fl a v' :=
  ⟨fun e => (h.f e).trans (hb.mono (h.f e).size), fun e => by
    obtain ⟨v0, h1, h2⟩ := h.t e
    exact ⟨v0, h1, h2.trans (hb.mono (by have := h2.size; rw [size_set] at this; exact this))⟩, h.box.below hb h.box.lt⟩
theorem TwR.put {w : World} {p : Addr} {x : Value} {q : Nat} {cs : Array Value} {fl : Bool} {a : Act} {v : World} (h : TwR w p x q cs fl a v) {d : Option Nat} (_ : true = true) (u : Value) : TwR w p x q cs fl (a.put d u) v := ⟨h.f, h.t, h.box⟩
def EbR (_ : Option Nat) (_ _ : World) : Prop := True
theorem eby {d : Option Nat} {u u' : World} (_ : true = true) (_ : Below u.heap.size u u') : EbR d u u' := trivial
set_option linter.unusedVariables false in
def ReGV (q gp off : Nat) (lo hi : Int) (t : Nat) : Option Value :=
  match t with
  | 4 => some (.pointer (some ⟨q, 0, none⟩))
  | 7 => some (.pointer (some ⟨gp, off, none⟩))
  | 27 => some (.pointer (some ⟨gp, off, none⟩))
  | 28 => some (.pointer (some ⟨gp, off, none⟩))
  | 29 => some (.pointer (some ⟨q, 6, none⟩))
  | 30 => some (.int .i64 lo)
  | 31 => some (.pointer (some ⟨q, 7, none⟩))
  | 32 => some (.int .i64 hi)
  | 33 => some (.pointer (some ⟨gp, off, none⟩))
  | 34 => some (.pointer (some ⟨gp, off + 4, none⟩))
  | _ => none
set_option linter.unusedVariables false in
def ReGP (q gp off : Nat) (lo hi : Int) (t : Nat) : Option (Value → World → Prop) :=
  match t with
  | _ => none
def ReG (q gp off : Nat) (lo hi : Int) (t : Nat) (v : Value) (u : World) : Prop := (∀ z9, ReGV q gp off lo hi t = some z9 → v = z9) ∧ ∀ R, ReGP q gp off lo hi t = some R → R v u
abbrev ndR (g : Gd) (A : Option Addr) (n c : Nat) : Array Value := #[.int .u8 g.op, .int .u64 (W g.s 0), .int .u64 (W g.s 1), .int .u64 (W g.s 2), .int .u64 (W g.s 3), .slice A n c, .int .i64 g.lo, .int .i64 g.hi, .string g.nm]
set_option maxHeartbeats 1000000 in
theorem repeated_any {B : Nat} {u : World} {bb fb many : Nat} {pv : Value} {l : List Pv} {f : Fol} (hS : BS B u bb fb many pv l f) (g : Gd) (A : Option Addr) (n c : Nat) (p : Pt) (A1 A2 : Option Addr) (c1 c2 : Nat) {β : Nat} (hx : PtOk u β (p, (A1, c1), A2, c2)) (hb : PtB l.length p) (hm : l.length ≤ many) {ps' : List Pn} {f' : Fol}
    (hc : (g.hi = -1 ∧ ps' = l.map (·.1) ∧ f' = linkF f p.last p.first) ∨ (g.hi ≠ -1 ∧ (∃ k, p.first = [k] ∧ ps' = bndP (l.map (·.1)) k g.lo g.hi) ∧ f' = f)) :
    Calls Try.prog 62 #[.pointer (some ⟨bb, 0, none⟩), .agg (ndR g A n c), .agg (ptA A1 p.first.length c1 A2 p.last.length c2 p.nul)] u fun e u' => PtR B β u bb fb many pv ps' f' p e u' := by
  obtain ⟨n1, hn1⟩ : ∃ n1, p.first.length = n1 := ⟨_, rfl⟩
  obtain ⟨n2, hn2⟩ : ∃ n2, p.last.length = n2 := ⟨_, rfl⟩
  have HN := hidd (And.intro hn1 hn2)
  have R1 := RowA.new u 42 (ndR g A n c)
  have b1 : Below u.heap.size u (u.alloc (.cells (ndR g A n c) 42)) := (Below.refl _ _).alloc (Nat.le_refl _) _
  have hs1 : (u.alloc (.cells (ndR g A n c) 42)).heap.size = u.heap.size + 1 := World.size_alloc ..
  have R2 := RowA.new (u.alloc (.cells (ndR g A n c) 42)) 57 (ptA A1 n1 c1 A2 n2 c2 p.nul)
  have hs2 : ((u.alloc (.cells (ndR g A n c) 42)).alloc (.cells (ptA A1 n1 c1 A2 n2 c2 p.nul) 57)).heap.size = u.heap.size + 1 + 1 := by rw [World.size_alloc, hs1]
  have R3 := RowA.new ((u.alloc (.cells (ndR g A n c) 42)).alloc (.cells (ptA A1 n1 c1 A2 n2 c2 p.nul) 57)) 57 ptZ
  have b3 : Below u.heap.size u (((u.alloc (.cells (ndR g A n c) 42)).alloc (.cells (ptA A1 n1 c1 A2 n2 c2 p.nul) 57)).alloc (.cells ptZ 57)) := (b1.alloc (by rw [hs1]; omega) _).alloc (by rw [hs2]; omega) _
  have R1b := (R1.alloc (.cells (ptA A1 n1 c1 A2 n2 c2 p.nul) 57)).alloc (.cells ptZ 57)
  have R2b := R2.alloc (.cells ptZ 57)
  rw [hs1] at R2b
  rw [hs2] at R3
  have S3 := hS.below b3
  have ho := ptok_below hx b3
  have HQB := hidd hS.wlt
  rw [hn1, hn2]
  clear hn1 hn2 hS hx R1 R2 b1 hs1 hs2
  have HB3 := hidd b3
  clear b3
  go_enter Try.func62, Try.ntmps62
  go_upto_region 1 with fail
  generalize ((u.alloc (.cells (ndR g A n c) 42)).alloc (.cells (ptA A1 n1 c1 A2 n2 c2 p.nul) 57)).alloc (.cells ptZ 57) = w3 at *
  obtain ⟨q, hq⟩ : ∃ q, u.heap.size = q := ⟨_, rfl⟩
  have HQ := hidd hq
  rw [hq] at R1b R2b R3
  rw [hq]
  clear hq
  have HR1 := hidd R1b
  have HR2 := hidd R2b
  have HR3 := hidd R3
  have x7 : w3.cell? ⟨q, 7, none⟩ = some (.int .i64 g.hi) := R1b.at_ rfl
  have x6 : w3.cell? ⟨q, 6, none⟩ = some (.int .i64 g.lo) := R1b.at_ rfl
  have z0 : w3.cell? ⟨q + 1, 0, none⟩ = some (.slice A1 n1 c1) := R2b.at_ rfl
  have z1 : w3.cell? ⟨q + 1, 1, none⟩ = some (.slice A2 n2 c2) := R2b.at_ rfl
  have HS3 := hidd S3
  have HO := hidd ho
  have HKB : Hid (Keeps (Wb bb fb pv) u w3) := Keeps.of_below HB3.out
  clear R1b R2b R3 S3 ho
  rcases hc with ⟨hh, rfl, rfl⟩ | ⟨hh, ⟨k, hk, rfl⟩, rfl⟩
  · have hc := link_any HS3.out HO.out.2 HO.out.1 (fun x hx => Nat.lt_of_lt_of_le (hb.2 x hx) hm) (fun x hx => Nat.lt_of_lt_of_le (hb.1 x hx) hm)
    have hc : Calls Try.prog 72 #[.pointer (some ⟨bb, 0, none⟩), .slice A2 n2 c2, .slice A1 n1 c1] w3 fun e u' => e = .returned (.tuple #[]) ∧ BS B u' bb fb many pv l (linkF f p.last p.first) ∧ Keeps (Wb bb fb pv) w3 u' := by
      have h := hc
      rw [HN.out.1, HN.out.2] at h
      exact h
    rw [hh] at x7
    clear hh
    go_wp2_with fail
    refine hc.mono ?_
    rintro e w9 ⟨rfl, S9, K9⟩
    have hnq : ∀ j, q ≤ j → ¬ Wb bb fb pv j := fun j hj e => by
      have h1 := HQ.out
      have h2 := HQB.out j e
      omega
    have Z9 : RowA w9 (q + 1 + 1) 57 ptZ := row_keeps HR3.out K9 (hnq _ (by omega))
    have Y9 : RowA w9 (q + 1) 57 (ptA A1 n1 c1 A2 n2 c2 p.nul) := row_keeps HR2.out K9 (hnq _ (by omega))
    have ho := ptok_keeps HS3.out HO.out K9
    have R9 := Z9.row (ptA A1 n1 c1 A2 n2 c2 p.nul)
    have hk9 := keeps_setRow (keepsW_trans HKB.out K9) (q + 1 + 1) (ptA A1 n1 c1 A2 n2 c2 p.nul) (.inr (by have := HQ.out; omega))
    have hs9 := BS.setRow S9 Z9 (by decide) (ptA A1 n1 c1 A2 n2 c2 p.nul)
    have ho9 : PtOk (w9.setRow (q + 1 + 1) (ptA A1 n1 c1 A2 n2 c2 p.nul)) β (p, (A1, c1), A2, c2) := ⟨own_setRow ho.1 (own_neR ho.1 Z9 (by decide)) _, own_setRow ho.2 (own_neR ho.2 Z9 (by decide)) _⟩
    have HF : Hid (PtR B β u bb fb many pv (l.map (·.1)) (linkF f p.last p.first) p (.returned (.agg (ptA A1 n1 c1 A2 n2 c2 p.nul))) (w9.setRow (q + 1 + 1) (ptA A1 n1 c1 A2 n2 c2 p.nul))) := ⟨pv, l, A1, c1, A2, c2, by rw [HN.out.1, HN.out.2], hs9, rfl, hk9, lies_refl _ _, ho9⟩
    have HR9 := hidd R9
    clear hc R9 hk9 hs9 ho9 ho S9 K9 hnq x6 x7 z0 z1
    go_wp2_with (first
      | refine wpList_load_row rfl 57 (.tmp 5) rfl (q + 1) rfl 57 (ptA A1 n1 c1 A2 n2 c2 p.nul) (0, 0) _ Y9 Try.underlying57 rfl (pt_info _ _ _) ?_
      | refine wpList_store_row rfl 57 (.tmp 6) (.tmp 17) rfl (q + 1 + 1) (ptA A1 n1 c1 A2 n2 c2 p.nul) rfl rfl 57 ptZ Z9 (pt_info _ _ _) rfl (pt_ones _ _ _ _ _ _ _) ?_)
    exact ret_part Try.results62 rfl HR9.out rfl HF.out
  · have hne : (g.hi == -1) = false := beq_eq_false_iff_ne.2 hh
    have hkb : k < l.length := hb.1 k (by rw [hk]; exact List.mem_singleton.2 rfl)
    have h1 : n1 = 1 := by rw [← HN.out.1, hk]; rfl
    obtain ⟨gp, cp, rfl, hgp, hgp2⟩ := HS3.out.pos (by omega)
    obtain ⟨g1, rfl, -, -, xk0⟩ := HO.out.1.at_ (i := 0) (by show 0 < p.first.length; rw [hk]; exact Nat.zero_lt_one)
    have xk : w3.cell? ⟨g1, 0, none⟩ = some (.int .i64 (k : Int)) := by
      have e : ∀ h, p.first[0]'h = k := fun h => by simp [hk]
      rw [xk0, e]
    clear xk0
    have d0 := HS3.out.cells.1
    have hki : (k : Int) < (l.length : Int) := by omega
    have HK := hidd hkb
    obtain ⟨L, hL⟩ : ∃ L, l.length = L := ⟨_, rfl⟩
    rw [hL] at d0 hki
    have HL := hidd hL
    have h1i : (0 : Int) < (n1 : Int) := by omega
    clear hh hk hkb hb hm hL h1
    go_wp2
    go_quiet (fail)
    have HS4 := hidd (HS3.out.below (bel_drewN (Below.refl _ _) nq))
    have HO4 := hidd (ptok_below HO.out (bel_drewN (Below.refl _ _) nq))
    have HK4 := hidd (keepsW_trans HKB.out (Keeps.of_below (P := Wb bb fb (.slice (some ⟨gp, 0, none⟩) l.length cp)) (bel_drewN (Below.refl w3.heap.size w3) nq)))
    have HR1b := hidd (HR1.out.drewN nq)
    have HR2b := hidd (HR2.out.drewN nq)
    have HR3b := hidd (HR3.out.drewN nq)
    clear HS3 HO HKB HR1 HR2 HR3 x6 x7 z0 z1 xk d0
    generalize w3.drewN nq = w4 at *
    have HR1 := HR1b
    have hqs : q < w4.heap.size := HR1.out.lt
    go_upto_region 5 with fail
    refine wp_region_slotsB 9 (by decide) (by kernel_rfl) (by kernel_rfl) (fun _ _ => true) 8 (by decide) (TwR w4 ⟨gp, k * 9 + 4, none⟩ (.int .i64 g.lo) q (ndR g A n c)) (ReG q gp (k * 9) g.lo g.hi) EbR (by kernel_rfl) (by kernel_rfl) (by kernel_rfl) (by kernel_rfl) ?_ ⟨fun _ => bel_drew (Below.refl _ _), (fun e => by cases e), HR1.out⟩ [4, 7] (by kernel_rfl) ?_ ?_ ?_
    · intro t dd v u u' _ h hE
      refine ⟨h.1, fun R hR => ?_⟩
      unfold ReGP at hR
      cases hR
    · intro _ _ u _
      refine ⟨⟨_, rfl, ?_⟩, ⟨_, rfl, ?_⟩, trivial⟩ <;> exact ⟨fun _ h => Option.some.inj h, fun _ h => no_some h⟩
    · refine ⟨?_, ?_, ?_, ?_, ?_, ?_, ?_, ?_, ?_, trivial⟩
      · intro fl hfl a u hS hr K hK
        obtain ⟨⟨vl0, e0, g0⟩, -⟩ := hr
        obtain rfl := g0.1 _ rfl
        clear g0
        rw [if_pos (want_none rfl)]
        unfold Oper.wp
        go_simp
        exact hK _ _ ⟨fun _ h => Option.some.inj h, fun _ h => no_some h⟩ (hS.put rfl _) (eby rfl (Below.refl _ _))
      · intro fl hfl a u hS hr K hK
        obtain ⟨⟨vl0, e0, g0⟩, -⟩ := hr
        obtain rfl := g0.1 _ rfl
        clear g0
        rw [if_pos (want_none rfl)]
        unfold Oper.wp
        go_simp
        exact hK _ _ ⟨fun _ h => Option.some.inj h, fun _ h => no_some h⟩ (hS.put rfl _) (eby rfl (Below.refl _ _))
      · intro fl hfl a u hS hr K hK
        obtain ⟨⟨vl0, e0, g0⟩, -⟩ := hr
        obtain rfl := g0.1 _ rfl
        clear g0
        rw [if_pos (want_none rfl)]
        unfold Oper.wp
        go_simp
        exact hK _ _ ⟨fun _ h => Option.some.inj h, fun _ h => no_some h⟩ (hS.put rfl _) (eby rfl (Below.refl _ _))
      · intro fl hfl a u hS hr K hK
        obtain ⟨⟨vl0, e0, g0⟩, -⟩ := hr
        obtain rfl := g0.1 _ rfl
        clear g0
        rw [if_pos (want_none rfl)]
        have x6 := hS.box.at_ (k := 6) rfl
        unfold Oper.wp
        go_simp
        exact hK _ _ ⟨fun _ h => Option.some.inj h, fun _ h => no_some h⟩ (hS.put rfl _) (eby rfl (Below.refl _ _))
      · intro fl hfl a u hS hr K hK
        obtain ⟨⟨vl0, e0, g0⟩, -⟩ := hr
        obtain rfl := g0.1 _ rfl
        clear g0
        rw [if_pos (want_none rfl)]
        unfold Oper.wp
        go_simp
        exact hK _ _ ⟨fun _ h => Option.some.inj h, fun _ h => no_some h⟩ (hS.put rfl _) (eby rfl (Below.refl _ _))
      · intro fl hfl a u hS hr K hK
        obtain ⟨⟨vl0, e0, g0⟩, -⟩ := hr
        obtain rfl := g0.1 _ rfl
        clear g0
        rw [if_pos (want_none rfl)]
        have x7 := hS.box.at_ (k := 7) rfl
        unfold Oper.wp
        go_simp
        exact hK _ _ ⟨fun _ h => Option.some.inj h, fun _ h => no_some h⟩ (hS.put rfl _) (eby rfl (Below.refl _ _))
      · intro fl hfl a u hS hr K hK
        obtain ⟨⟨vl0, e0, g0⟩, -⟩ := hr
        obtain rfl := g0.1 _ rfl
        clear g0
        rw [if_pos (want_none rfl)]
        unfold Oper.wp
        go_simp
        exact hK _ _ ⟨fun _ h => Option.some.inj h, fun _ h => no_some h⟩ (hS.put rfl _) (eby rfl (Below.refl _ _))
      · intro fl hfl a u hS hr K hK
        obtain ⟨⟨vl0, e0, g0⟩, -⟩ := hr
        obtain rfl := g0.1 _ rfl
        clear g0
        rw [if_pos (want_none rfl)]
        unfold Oper.wp
        go_simp
        exact hK _ _ ⟨fun _ h => Option.some.inj h, fun _ h => no_some h⟩ (hS.put rfl _) (eby rfl (Below.refl _ _))
      · intro fl hfl a u hS hr K hK
        obtain ⟨⟨vl0, e0, g0⟩, ⟨vl1, e1, g1⟩, -⟩ := hr
        replace g0 := g0.1 _ rfl
        replace g1 := g1.1 _ rfl
        subst g0 g1
        obtain rfl := hfl (by kernel_rfl)
        rw [if_pos (want_none rfl)]
        have S5 := HS4.out.below (hS.f rfl)
        obtain ⟨l1, S6, hl1, hm1, ⟨v4, x4⟩, t4⟩ := S5.setLo HK.out g.lo
        have t4b := t4 (k * 9 + 4)
        have e0' : a.eval (.tmp 34) = .pointer (some ⟨gp, k * 9 + 4, none⟩) := eval_at e0
        have e1' : a.eval (.tmp 30) = .int .i64 g.lo := eval_at e1
        have hbox : RowA (u.setCell ⟨gp, k * 9 + 4, none⟩ (.int .i64 g.lo)) q 42 (ndR g A n c) := hS.box.far (a := ⟨gp, k * 9 + 4, none⟩) (fun e => by
          have h1 := HQB.out gp (.inr (.inr rfl))
          have h2 := HQ.out
          have e2 : q = gp := e
          omega) _
        have hT : TwR w4 ⟨gp, k * 9 + 4, none⟩ (.int .i64 g.lo) q (ndR g A n c) true a (u.setCell ⟨gp, k * 9 + 4, none⟩ (.int .i64 g.lo)) := ⟨(fun e => by cases e), fun _ => ⟨u, hS.f rfl, by have h := Below.refl (u.setCell ⟨gp, k * 9 + 4, none⟩ (.int .i64 g.lo)).heap.size (u.setCell ⟨gp, k * 9 + 4, none⟩ (.int .i64 g.lo)); rw [size_set] at h; exact h⟩, hbox⟩
        have HT := hidd hT
        clear S5 S6 hT hbox hS
        unfold Oper.wp
        go_simp
        exact hK undef _ trivial (HT.out.put rfl undef) trivial
    intro a u5 hS hts hd hkn hf
    obtain ⟨v27, e27, g27⟩ := hf 0 _ 27 (by decide) rfl rfl (fun _ => rfl)
    obtain ⟨v28, e28, g28⟩ := hf 1 _ 28 (by decide) rfl rfl (fun _ => rfl)
    obtain ⟨v29, e29, g29⟩ := hf 2 _ 29 (by decide) rfl rfl (fun _ => rfl)
    obtain ⟨v30, e30, g30⟩ := hf 3 _ 30 (by decide) rfl rfl (fun _ => rfl)
    obtain ⟨v31, e31, g31⟩ := hf 4 _ 31 (by decide) rfl rfl (fun _ => rfl)
    obtain ⟨v32, e32, g32⟩ := hf 5 _ 32 (by decide) rfl rfl (fun _ => rfl)
    obtain ⟨v33, e33, g33⟩ := hf 6 _ 33 (by decide) rfl rfl (fun _ => rfl)
    obtain ⟨v34, e34, g34⟩ := hf 7 _ 34 (by decide) rfl rfl (fun _ => rfl)
    obtain ⟨v35, e35⟩ : ∃ z, a.tmps[35]? = some z := ⟨_, Array.getElem?_eq_getElem (by rw [hts]; simp)⟩
    obtain ⟨v36, e36⟩ : ∃ z, a.tmps[36]? = some z := ⟨_, Array.getElem?_eq_getElem (by rw [hts]; simp)⟩
    have hA := act_puts [(27, v27), (28, v28), (29, v29), (30, v30), (31, v31), (32, v32), (33, v33), (34, v34), (35, v35), (36, v36)] hts hd hkn (by kernel_rfl) (by simp [e27, e28, e29, e30, e31, e32, e33, e34, e35, e36])
    obtain ⟨v0, hv1, hv2⟩ := hS.t rfl
    clear hS
    clear hf hts hd hkn e27 e28 e29 e30 e31 e32 e33 e34 e35 e36
    obtain rfl := g27.1 _ rfl
    clear g27
    obtain rfl := g28.1 _ rfl
    clear g28
    obtain rfl := g29.1 _ rfl
    clear g29
    obtain rfl := g30.1 _ rfl
    clear g30
    obtain rfl := g31.1 _ rfl
    clear g31
    obtain rfl := g32.1 _ rfl
    clear g32
    obtain rfl := g33.1 _ rfl
    clear g33
    obtain rfl := g34.1 _ rfl
    clear g34
    subst hA
    simp only [List.foldl, List.setIfInBounds_toArray, List.set_cons_zero, List.set_cons_succ]
    simp only [List.drop_succ_cons, List.drop_zero]
    have S5 := HS4.out.below hv1
    obtain ⟨l1, S6, hl1, hm1, -, t4⟩ := S5.setLo HK.out g.lo
    have hv3 : Below (v0.setCell ⟨gp, k * 9 + 4, none⟩ (.int .i64 g.lo)).heap.size (v0.setCell ⟨gp, k * 9 + 4, none⟩ (.int .i64 g.lo)) u5 := by rw [size_set]; exact hv2
    have S7 := S6.below hv3
    rw [← hl1] at S7
    obtain ⟨l', S9, hl2, hm2, ⟨v5, x5⟩, t5⟩ := S7.setHi (k := k) (by rw [hl1]; exact HK.out) g.hi
    rw [hl1] at S9
    have hl9 : l'.map (·.1) = bndP (l.map (·.1)) k g.lo g.hi := by
      rw [hm2, hm1]
      exact bnd_two (by rw [List.length_map]; exact HK.out) _ _
    have k5 := keepsW_trans (keeps_set (keepsW_trans HK4.out (Keeps.of_below (P := Wb bb fb (.slice (some ⟨gp, 0, none⟩) l.length cp)) hv1)) ⟨gp, k * 9 + 4, none⟩ (.int .i64 g.lo) (.inl (.inr (.inr rfl)))) (Keeps.of_below hv3)
    have k9 := keeps_set k5 ⟨gp, k * 9 + 5, none⟩ (.int .i64 g.hi) (.inl (.inr (.inr rfl)))
    have hgq : gp < q := by
      have h1 := HQB.out gp (.inr (.inr rfl))
      have h2 := HQ.out
      omega
    have far2 : ∀ {t : TypeId} {cs : Array Value} (b : Nat), RowA w4 b t cs → b ≠ gp → RowA (u5.setCell ⟨gp, k * 9 + 5, none⟩ (.int .i64 g.hi)) b t cs := fun b r hb => ((((r.below hv1 r.lt).far (a := ⟨gp, k * 9 + 4, none⟩) hb _).below hv3 (by have := r.lt; have := hv1.size; rw [size_set]; omega))).far (a := ⟨gp, k * 9 + 5, none⟩) hb _
    have Z9 := far2 (q + 1 + 1) HR3b.out (by omega)
    have Y9 := far2 (q + 1) HR2b.out (by omega)
    have ho : PtOk (u5.setCell ⟨gp, k * 9 + 5, none⟩ (.int .i64 g.hi)) β (p, (some ⟨g1, 0, none⟩, c1), A2, c2) := by
      have h1 : ∀ (A : Option Addr) (c : Nat) (xs : List Nat), IR w4 β A c xs → IR (u5.setCell ⟨gp, k * 9 + 5, none⟩ (.int .i64 g.hi)) β A c xs := fun A c xs h => by
        have hne : (Value.slice A xs.length c).ownBlock ≠ some gp := fun e => own_apart h HS4.out.places (by decide) gp e rfl
        have h5 := own_below h hv1 (Nat.le_refl _)
        have h6 := own_sb (k := k * 9 + 4) h5 hne (.int .i64 g.lo)
        exact own_sb (own_below h6 hv3 (Nat.le_refl _)) hne _
      exact ⟨h1 _ _ _ HO4.out.1, h1 _ _ _ HO4.out.2⟩
    have HS9 := hidd S9
    have HK9 := hidd k9
    have HZ9 := hidd Z9
    have HY9 := hidd Y9
    have HO9 := hidd ho
    have ht5 := t5 (k * 9 + 5)
    clear S9 k9 Z9 Y9 ho k5 t4 t5 S5 S6 S7 hv1 hv2 hv3 far2 hm1 hm2 hl2 hl1
    go_upto_region 6 with fail
    generalize u5.setCell ⟨gp, k * 9 + 5, none⟩ (.int .i64 g.hi) = w9 at *
    have Z9 := HZ9.out
    have Y9 := HY9.out
    have ho := HO9.out
    have R9 := Z9.row (ptA (some ⟨g1, 0, none⟩) n1 c1 A2 n2 c2 p.nul)
    have hk9 := keeps_setRow HK9.out (q + 1 + 1) (ptA (some ⟨g1, 0, none⟩) n1 c1 A2 n2 c2 p.nul) (.inr (by have := HQ.out; omega))
    have hs9 := BS.setRow HS9.out Z9 (by decide) (ptA (some ⟨g1, 0, none⟩) n1 c1 A2 n2 c2 p.nul)
    have ho9 : PtOk (w9.setRow (q + 1 + 1) (ptA (some ⟨g1, 0, none⟩) n1 c1 A2 n2 c2 p.nul)) β (p, ((some ⟨g1, 0, none⟩), c1), A2, c2) := ⟨own_setRow ho.1 (own_neR ho.1 Z9 (by decide)) _, own_setRow ho.2 (own_neR ho.2 Z9 (by decide)) _⟩
    have HF : Hid (PtR B β u bb fb many (.slice (some ⟨gp, 0, none⟩) l.length cp) (bndP (l.map (·.1)) k g.lo g.hi) _ p (.returned (.agg (ptA (some ⟨g1, 0, none⟩) n1 c1 A2 n2 c2 p.nul))) (w9.setRow (q + 1 + 1) (ptA (some ⟨g1, 0, none⟩) n1 c1 A2 n2 c2 p.nul))) := ⟨_, l', some ⟨g1, 0, none⟩, c1, A2, c2, by rw [HN.out.1, HN.out.2], hs9, hl9, hk9, lies_refl _ _, ho9⟩
    have HR9 := hidd R9
    clear R9 hk9 hs9 ho9 ho x5 ht5
    go_wp2_with (first
      | refine wpList_load_row rfl 57 (.tmp 5) rfl (q + 1) rfl 57 (ptA (some ⟨g1, 0, none⟩) n1 c1 A2 n2 c2 p.nul) (0, 0) _ Y9 Try.underlying57 rfl (pt_info _ _ _) ?_
      | refine wpList_store_row rfl 57 (.tmp 6) (.tmp 37) rfl (q + 1 + 1) (ptA (some ⟨g1, 0, none⟩) n1 c1 A2 n2 c2 p.nul) rfl rfl 57 ptZ Z9 (pt_info _ _ _) rfl (pt_ones _ _ _ _ _ _ _) ?_)
    exact ret_part Try.results62 rfl HR9.out rfl HF.out
end Go.Proofs.Ytahhiajliomcfaa.Sy.Gl.Rp

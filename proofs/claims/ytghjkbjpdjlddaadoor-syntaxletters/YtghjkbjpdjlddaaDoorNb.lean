/- What Parse owes (ParseC); the document's examples by it. -/
import Derived.Test.YtghjkbjpdjlddaaDoorNa
namespace Go.Proofs.YtghjkbjpdjlddaaDoor.Sy
open Go.RowKit

theorem bs_inj {a b : ByteArray} (h : bs a = bs b) : a = b := by
  unfold bs at h
  have h2 : a.data.toList = b.data.toList := by
    have : ∀ (l m : List UInt8), l.map (·.toNat) = m.map (·.toNat) → l = m := by
      intro l
      induction l with
      | nil => intro m hm; cases m with | nil => rfl | cons _ _ => simp at hm
      | cons x r ih =>
        intro m hm
        cases m with
        | nil => simp at hm
        | cons y t =>
          simp only [List.map_cons, List.cons.injEq] at hm
          rw [UInt8.toNat_inj.1 hm.1, ih t hm.2]
    exact this _ _ h
  cases a; cases b
  congr
  exact Array.toList_inj.1 h2

/-- The node n as memory has it. -/
structure GN1 (g : Gd) (n : Nd) : Prop where
  op : g.op = n.op
  s : ∀ b, b < 256 → g.s b = n.s b
  l : g.l = n.l.map fun k : Nat => (k : Int)
  lo : g.lo = n.lo
  hi : g.hi = n.hi
  nm : bs g.nm = n.name
def nd0 : Nd := ⟨0, noS, [], 0, 0, []⟩
def GN (gs : List Gd) (ns : List Nd) : Prop := gs.length = ns.length ∧ ∀ i, i < gs.length → GN1 (gs.getD i gd0) (ns.getD i nd0)
theorem GN.leq {gs gs' : List Gd} {ns : List Nd} (h : GN gs ns) (h' : GN gs' ns) : LEq gs gs' := by
  refine ⟨h.1.trans h'.1.symm, fun i hi => ?_⟩
  have a := h.2 i hi
  have b := h'.2 i (by rw [h'.1, ← h.1]; exact hi)
  exact ⟨a.op.trans b.op.symm, fun x hx => (a.s x hx).trans (b.s x hx).symm, a.l.trans b.l.symm, a.lo.trans b.lo.symm, a.hi.trans b.hi.symm, bs_inj (a.nm.trans b.nm.symm)⟩

/-- The library's variable that a number too great is told by holds an error. -/
def EV (w : World) : Prop := ∃ ev, w.cell? ⟨5, 0, none⟩ = some ev ∧ (ev = .nilIface ∨ ∃ te pe, ev = .iface te pe)
theorem EV.lt {w : World} (h : EV w) : 5 < w.heap.size := by
  obtain ⟨ev, h, _⟩ := h
  rcases Nat.lt_or_ge 5 w.heap.size with hl | hl
  · exact hl
  · simp [World.cell?, Array.getElem?_eq_none hl] at h
theorem EV.below {w w' : World} (h : EV w) (hb : Below w.heap.size w w') : EV w' := by
  have hl := h.lt
  obtain ⟨ev, h1, h2⟩ := h
  exact ⟨ev, (hb.cell hl).trans h1, h2⟩

/-- What Parse returns. -/
def ParseR (s : List Nat) (e : Ending) (w' : World) : Prop :=
  match parse s with
  | .ok ns => ∃ A c gs, e = .returned (.tuple #[.slice A gs.length c, .int .i64 0, .int .i64 0]) ∧ Nds w' w'.heap.size A gs ∧ GN gs ns
  | .error (er, p) => ∃ A c, e = .returned (.tuple #[.slice A 0 c, .int .i64 (p : Int), .int .i64 (er : Int)])
def ParseC : Prop := ∀ (s : ByteArray) (w : World), EV w → s.size ≤ 100000 → Calls Tryd.prog 8 #[.string s] w fun e w' => ParseR (bs s) e w' ∧ Below w.heap.size w w'
theorem ParseC.ok (h : ParseC) {s : ByteArray} {ns : List Nd} (hs : s.size ≤ 100000) (hp : parse (bs s) = .ok ns) (w : World) (hE : EV w) :
    Calls Tryd.prog 8 #[.string s] w fun e w' => ∃ A c gs, e = .returned (.tuple #[.slice A gs.length c, .int .i64 0, .int .i64 0]) ∧ Nds w' w'.heap.size A gs ∧ GN gs ns ∧ Below w.heap.size w w' := by
  refine (h s w hE hs).mono ?_
  rintro e w' ⟨h1, h2⟩
  unfold ParseR at h1
  rw [hp] at h1
  obtain ⟨A, c, gs, h3, h4, h5⟩ := h1
  exact ⟨A, c, gs, h3, h4, h5, h2⟩
theorem ParseC.bad (h : ParseC) {s : ByteArray} {er p : Nat} (hs : s.size ≤ 100000) (hp : parse (bs s) = .error (er, p)) (w : World) (hE : EV w) :
    Calls Tryd.prog 8 #[.string s] w fun e w' => ∃ A c, e = .returned (.tuple #[.slice A 0 c, .int .i64 (p : Int), .int .i64 (er : Int)]) ∧ Below w.heap.size w w' := by
  refine (h s w hE hs).mono ?_
  rintro e w' ⟨h1, h2⟩
  unfold ParseR at h1
  rw [hp] at h1
  obtain ⟨A, c, h3⟩ := h1
  exact ⟨A, c, h3, h2⟩

/-- Nodes in a new row. -/
def nodesC (l : List (Gd × Option Addr × Nat)) : List Value := l.flatMap fun x => gdL x.1 x.2.1 x.2.2
theorem gdL_len (g : Gd) (A : Option Addr) (c : Nat) : (gdL g A c).length = 9 := rfl
theorem nodesC_at : ∀ (l : List (Gd × Option Addr × Nat)) (i j : Nat) (x : Gd × Option Addr × Nat), l[i]? = some x → j < 9 → (nodesC l)[i * 9 + j]? = (gdL x.1 x.2.1 x.2.2)[j]?
  | [], _, _, _, h, _ => by simp at h
  | y :: r, 0, j, x, h, hj => by
    simp at h
    subst h
    unfold nodesC
    rw [List.flatMap_cons, Nat.zero_mul, Nat.zero_add, List.getElem?_append_left (by rw [gdL_len]; exact hj)]
  | y :: r, i + 1, j, x, h, hj => by
    have := nodesC_at r i j x (by simpa using h) hj
    unfold nodesC at this ⊢
    rw [List.flatMap_cons, List.getElem?_append_right (by rw [gdL_len]; omega), gdL_len, show (i + 1) * 9 + j - 9 = i * 9 + j from by omega]
    exact this
theorem nds_new (w : World) (l : List (Gd × Option Addr × Nat)) (hI : ∀ x ∈ l, Its w w.heap.size x.2.1 x.1.l) :
    Nds (w.alloc (.cells (nodesC l).toArray 30)) (w.alloc (.cells (nodesC l).toArray 30)).heap.size (some ⟨w.heap.size, 0, none⟩) (l.map (·.1)) := by
  refine fun _ => ⟨_, 0, rfl, by simp, fun i hi => ?_⟩
  rw [List.length_map] at hi
  have hx : l[i]? = some l[i] := List.getElem?_eq_getElem hi
  have e : (l.map (·.1)).getD i gd0 = l[i].1 := by rw [List.getD_eq_getElem?_getD, List.getElem?_map, hx]; rfl
  rw [e]
  have hb : Below w.heap.size w (w.alloc (.cells (nodesC l).toArray 30)) := (Below.refl _ _).alloc (Nat.le_refl _) _
  refine ⟨l[i].2.1, l[i].2.2, ((hI _ (List.getElem_mem hi)).keep fun p hp => hb.cell hp).more hb.size, fun j v hv => ?_⟩
  have hj : j < 9 := by
    rcases Nat.lt_or_ge j 9 with h | h
    · exact h
    · rw [List.getElem?_eq_none (by rw [gdL_len]; exact h)] at hv; cases hv
  rw [World.cell?_alloc_new, Nat.zero_add, List.getElem?_toArray, nodesC_at l i j _ hx hj]
  exact hv
theorem its_nil (w : World) (B : Nat) (A : Option Addr) : Its w B A [] := fun h => absurd rfl h
theorem its_new (w : World) (xs : List Int) (t : TypeId) : Its (w.alloc (.cells (xs.map (Value.int .i64)).toArray t)) (w.alloc (.cells (xs.map (Value.int .i64)).toArray t)).heap.size (some ⟨w.heap.size, 0, none⟩) xs := by
  refine fun _ => ⟨_, 0, rfl, by simp, fun i hi => ?_⟩
  rw [World.cell?_alloc_new, Nat.zero_add, List.getElem?_toArray, List.getElem?_map, List.getElem?_eq_getElem hi, List.getD_eq_getElem?_getD, List.getElem?_eq_getElem hi]
  rfl
theorem Its.below {w w' : World} {B : Nat} {A : Option Addr} {xs : List Int} (h : Its w B A xs) (hb : Below B w w') : Its w' B A xs := h.keep fun _ hp => hb.cell hp

theorem ret_node {fn : Func} {R : Ending → World → Prop} {a : Act} {w : World} {t b : Nat} {g : Gd} {A : Option Addr} {c : Nat} (hr : fn.results = #[.cell t 30]) (ht : a.tmps.getD t undef = .pointer (some ⟨b, 0, none⟩))
    (h : RowA w b 30 (gdL g A c).toArray) (hd : a.defers = []) (hR : R (.returned (.agg (gdL g A c).toArray)) w) : bodyPost Tryd.prog fn R .ret a w :=
  bodyPost_ret (v := .agg (gdL g A c).toArray) (results_cell_row hr a.tmps w b 30 (gdL g A c).toArray (0, 0) _ ht h Tryd.underlying30 rfl (gdL_infoA g A c)) hd hR
def oneG (c : Nat) : Gd := ⟨2, oneS c, [], 0, 0, ⟨#[]⟩⟩
theorem one_words (c : Int) (i : Nat) : W (inB [c]) i = W (oneS c.toNat) i := by
  congr 1
  funext x
  simp [inB, oneS]
theorem bts_one (w : World) (c : Int) (h0 : 0 ≤ c) (h1 : c ≤ 255) : Bts (w.alloc (.cells #[.int .u8 c] 5)) (w.alloc (.cells #[.int .u8 c] 5)).heap.size (some ⟨w.heap.size, 0, none⟩) [c] := by
  refine ⟨by simp; omega, fun _ => ⟨_, 0, rfl, by simp, fun i hi => ?_⟩⟩
  have : i = 0 := by simp at hi; omega
  subst this
  rw [World.cell?_alloc_new]
  rfl

set_option maxHeartbeats 1000000 in
theorem one_any (c : Int) (w : World) (h0 : 0 ≤ c) (h1 : c ≤ 255) :
    Calls Tryd.prog 7 #[.int .u8 c] w fun e w' => e = .returned (.agg (gdL (oneG c.toNat) none 0).toArray) ∧ Below w.heap.size w w' := by
  go_enter Tryd.func7, Tryd.ntmps7
  go_wp2_with fail
  have hB := bts_one (w.alloc (.cells zeroC 30)) c h0 h1
  have hsz : (w.alloc (.cells zeroC 30)).heap.size = w.heap.size + 1 := World.size_alloc ..
  rw [hsz] at hB
  refine (rof_any (some ⟨w.heap.size + 1, 0, none⟩) 1 [c] _ hB (by simp)).mono ?_
  rintro e w1 ⟨rfl, hb⟩
  rw [one_words, one_words, one_words, one_words]
  have Z0 := ((RowA.new w 30 zeroC).alloc (.cells #[.int .u8 c] 5)).below hb (by simp; omega)
  have D1 := bel1 (bel1 hb)
  clear hB hb
  have R1 := Z0.row (gdL (oneG c.toNat) none 0).toArray
  have D2 := bel_setRow D1 w.heap.size (gdL (oneG c.toNat) none 0).toArray (Nat.le_refl _)
  go_wp2_with (refine wpList_store_row rfl 30 (.tmp 2) (.tmp 6) rfl w.heap.size (gdL (oneG c.toNat) none 0).toArray rfl rfl 30 zeroC Z0 (gdL_infoA _ _ _) rfl (gdL_one _ _ _) ?_)
  exact ret_node Tryd.results7 rfl R1 rfl ⟨rfl, D2⟩


theorem one_lit (c : Nat) (w : World) (h1 : c ≤ 255) :
    Calls Tryd.prog 7 #[.int .u8 (c : Int)] w fun e w' => e = .returned (.agg #[.int .u8 2, .int .u64 (W (oneS c) 0), .int .u64 (W (oneS c) 1), .int .u64 (W (oneS c) 2), .int .u64 (W (oneS c) 3), .slice none 0 0, .int .i64 0, .int .i64 0, .string { data := #[] }]) ∧ Below w.heap.size w w' :=
  one_any (c : Int) w (by omega) (by omega)
theorem gn_of {gs : List Gd} {ns : List Nd} (h : gs.length = ns.length) (hh : ∀ i, i < gs.length → GN1 (gs.getD i gd0) (ns.getD i nd0)) : GN gs ns := ⟨h, hh⟩
def catG (op : Int) (l : List Int) : Gd := ⟨op, noB, l, 0, 0, ⟨#[]⟩⟩
def repG (k : Int) (lo hi : Int) : Gd := ⟨5, noB, [k], lo, hi, ⟨#[]⟩⟩
theorem gn_one (c : Nat) : GN1 (oneG c) (ndBytes (oneS c)) := ⟨rfl, fun _ _ => rfl, rfl, rfl, rfl, rfl⟩
theorem gn_cat (l : List Nat) : GN1 (catG 3 (l.map fun k : Nat => (k : Int))) (ndCat l) := ⟨rfl, fun _ _ => rfl, rfl, rfl, rfl, rfl⟩
theorem gn_alt (l : List Nat) : GN1 (catG 4 (l.map fun k : Nat => (k : Int))) (ndAlt l) := ⟨rfl, fun _ _ => rfl, rfl, rfl, rfl, rfl⟩
theorem gn_rep (k : Nat) (lo hi : Int) : GN1 (repG k lo hi) (ndRep k lo hi) := ⟨rfl, fun _ _ => rfl, rfl, rfl, rfl, rfl⟩

/-- The document's examples, as strings. -/
theorem str_ex1 : parse (bs ⟨#[97, 98, 124, 99, 42]⟩) = .ok [ndBytes (oneS 97), ndBytes (oneS 98), ndCat [0, 1], ndBytes (oneS 99), ndRep 3 0 (-1), ndAlt [2, 4]] := by
  have e : bs ⟨#[97, 98, 124, 99, 42]⟩ = [97, 98, 124, 99, 42] := by decide
  rw [e]; exact parse_ex1
theorem str_ex2 : parse (bs ⟨#[97, 123, 50, 44, 49, 125]⟩) = .error (45, 1) := by
  have e : bs ⟨#[97, 123, 50, 44, 49, 125]⟩ = [97, 123, 50, 44, 49, 125] := by decide
  rw [e]; exact parse_ex2
theorem str_ex3 : parse (bs ⟨#[97, 47, 98]⟩) = .error (42, 1) := by
  have e : bs ⟨#[97, 47, 98]⟩ = [97, 47, 98] := by decide
  rw [e]; exact parse_ex3

end Go.Proofs.YtghjkbjpdjlddaaDoor.Sy

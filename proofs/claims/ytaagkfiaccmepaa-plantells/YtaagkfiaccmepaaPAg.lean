/- How an argument is opened: a slice of bytes. -/
import Derived.Test.YtaagkfiaccmepaaPM1
import Derived.ProofKit
import Derived.OpenShut
import Derived.ChangeOld
import Derived.Below
import Derived.Deep.Slices
import Derived.Test.YtaagkfiaccmepaaPSe
import Derived.Test.YtaagkfiaccmepaaPSf
namespace Go.Proofs.Ytaagkfiaccmepaa
open Go.ChangeShapes Go.WideShapes Go.ChangeAt Go.RowKit
set_option maxRecDepth 100000

theorem own : ownKnob Try.prog.godebug = none := by kernel_rfl
theorem laidOut : laidOutB Try.prog = true := by kernel_rfl

section
variable {H : Type} {enc : TypeId × Value → H} {W0 : World} {base : Nat} {spare : Nat → Bool} {held : Bool}

theorem plain_add (g off : Nat) (j : Nat) : (⟨g, off, none⟩ : Addr).add j = ⟨g, off + j, none⟩ := by
  unfold Addr.add
  split
  · subst_vars; rfl
  · rfl

end

end Go.Proofs.Ytaagkfiaccmepaa

namespace Go.Proofs.Ytaagkfiaccmepaa.Sy
open Go.RowKit
set_option maxRecDepth 100000
set_option linter.unusedVariables false

def ints (l : List Int) : List Value := l.map (Value.int .i64)
theorem ints_len (l : List Int) : (ints l).length = l.length := List.length_map ..
theorem ints_ones (l : List Int) : ∀ u ∈ ints l, u.oneCell' = true := fun u hu => by
  obtain ⟨x, _, rfl⟩ := List.mem_map.1 hu
  rfl
section
variable {w w' : World} {base : Nat} {e : TypeId} {sz n : Nat} {v : Value} {xs : List Value}
theorem own_blk (h : w.ownsRow base e sz v n xs) {k : Nat} (hk : v.ownBlock = some k) : ∃ cur, w.heap[k]? = some (.cells cur e (0, 0)) := by
  rcases h.2 with ⟨hv, _⟩ | ⟨g, cap, cur, hv, hg, hh, _⟩
  · rw [hv] at hk; cases hk
  · rw [hv] at hk
    have : g = k := Option.some.inj hk
    subst this
    exact ⟨cur, hh⟩
/-- A block of another type is another block. -/
theorem own_ne {e' : TypeId} {cs : Array Value} {b : Nat} {p : Nat × Nat} (h : w.ownsRow base e sz v n xs) (hb : w.heap[b]? = some (.cells cs e' p)) (hne : e ≠ e') : v.ownBlock ≠ some b := fun q => by
  obtain ⟨cur, hc⟩ := own_blk h q
  rw [hb] at hc
  cases hc
  exact hne rfl
theorem own_nem {es : Array MapEntry} {cl b : Nat} (h : w.ownsRow base e sz v n xs) (hb : w.heap[b]? = some (.map es cl)) : v.ownBlock ≠ some b := fun q => by
  obtain ⟨cur, hc⟩ := own_blk h q
  rw [hb] at hc
  cases hc
theorem own_apart {base' sz' n' : Nat} {e' : TypeId} {v' : Value} {xs' : List Value} (h : w.ownsRow base e sz v n xs) (h' : w.ownsRow base' e' sz' v' n' xs') (hne : e ≠ e') : ∀ k, v.ownBlock = some k → v'.ownBlock ≠ some k := fun k hk q => by
  obtain ⟨cur, hc⟩ := own_blk h hk
  exact own_ne h' hc (fun q => hne q.symm) q
/-- Kept where another block is written. -/
theorem own_kept {row : Option Nat} (h : w.ownsRow base e sz v n xs) (g : w.grownBy w' row) (hr : ∀ k, row = some k → v.ownBlock ≠ some k) : w'.ownsRow base e sz v n xs := by
  refine h.kept g ?_
  cases hv : v.ownBlock with
  | none => exact .inl rfl
  | some k => exact .inr (fun q => hr k q.symm hv)
theorem own_cap {A : Option Addr} {c : Nat} (h : w.ownsRow base e sz (.slice A n c) n xs) : n ≤ c := by
  rcases h.2 with ⟨hv, hn⟩ | ⟨g, cap, cur, hv, hg, hh, h3, _⟩
  · omega
  · cases hv
    exact h3
theorem own_cut' {A : Option Addr} {c r : Nat} {st : List Nat} (h : w.ownsRow base 3 1 (.slice A n c) n (i64s st)) (hr : r ≤ n) (hn : n = st.length) : w.ownsRow base 3 1 (.slice A r c) r (i64s (st.take r)) := by
  cases A with
  | none =>
    obtain ⟨h1, h2⟩ := h
    rcases h2 with ⟨h2, h3⟩ | ⟨g', cap', cur, hv, _⟩
    · cases h2
      have : r = 0 := by omega
      subst this
      exact ⟨by rw [List.take_zero]; rfl, .inl ⟨rfl, rfl⟩⟩
    · cases hv
  | some a =>
    obtain ⟨g, off, sp⟩ := a
    have : off = 0 ∧ sp = none := by
      rcases h.2 with ⟨hv, _⟩ | ⟨g', cap', cur, hv, _⟩
      · cases hv
      · cases hv; exact ⟨rfl, rfl⟩
    obtain ⟨rfl, rfl⟩ := this
    exact own_cut h hr hn
end
/-- Numbers appended to a row that has none yet. -/
theorem wp_app_its {w : World} {o : Oper} {a : Act} {K : Act → World → Prop} {Q : Exit → Act → World → Prop} (s x : Operand)
    (ho : o.op = .call { callee := .builtin .append, args := #[s, x], argTypes := #[37, 37] }) (base : Nat) (v : Value) (hs : a.eval s = v) (hown : w.ownsRow base 3 1 v 0 []) (A : Option Addr) (c : Nat) (xs : List Int) (n : Nat) (hn : xs.length = n)
    (hx : a.eval x = .slice A n c) (hI : Its w w.heap.size A xs) (hl : xs.length ≤ 1000000) (hbase : base ≤ w.heap.size)
    (h : ∀ A' c' w', w'.ownsRow base 3 1 (.slice A' n c') n (ints xs) → w.grownBy w' v.ownBlock → ((Value.slice A' n c').ownBlock = v.ownBlock ∨ (Value.slice A' n c').ownBlock = some w.heap.size) → K (a.put o.dst (.slice A' n c')) w') : o.wp Try.prog a w K Q := by
  subst hn
  obtain ⟨i0, hi0, hz0, hz1, hz2⟩ := info_parts int_info
  by_cases he : xs = []
  · subst he
    obtain ⟨B, k, rfl, hB⟩ : ∃ B k, v = .slice B 0 k ∧ (B = none → 0 = 0 ∧ k = 0) := by
      rcases hown.2 with ⟨hv, hn⟩ | ⟨g, cap, cur, hv, hg, hh, h1, h2, h3, h4⟩
      · exact ⟨none, 0, hv, fun _ => ⟨rfl, rfl⟩⟩
      · exact ⟨_, cap, hv, nofun⟩
    have hr : (Builtin.append_ #[37, 37] o.type #[.slice B 0 k, .slice A 0 c]).run Try.prog w = .ok (.slice B 0 k) w := by
      have ht := Try.underlying37
      cases B with
      | none =>
        obtain ⟨-, rfl⟩ := hB rfl
        cases A <;> simp [Builtin.append_, run_underlying ht, sizeOf, typeInfo, hi0, Builtin.lenOf, Builtin.firstCells, loadCells, loadCellsFrom]
      | some b =>
        cases A <;> simp [Builtin.append_, run_underlying ht, sizeOf, typeInfo, hi0, Builtin.lenOf, Builtin.firstCells, loadCells, loadCellsFrom, storeCells]
    have hx' : a.eval x = .slice A 0 c := hx
    unfold Oper.wp execOp
    simp only [ho, resolve, invoke, builtin, Sem.run_bind, Sem.run_pure, Result.andThen_ok, List.map_toArray, List.map_cons, List.map_nil, hs, hx', hr]
    exact h B k w hown ⟨rfl, rfl, rfl, Nat.le_refl _, fun _ _ _ => rfl⟩ (.inl rfl)
  · obtain ⟨g, off, rfl, hg, hc⟩ := hI he
    refine wp_append_both w s x 37 ho base 3 i0 _ 1 8 Try.underlying37 hi0 hz0 hz1 hz2 rfl (by omega) v 0 [] hs hown ⟨g, off, none⟩ xs.length c (ints xs) hx (by rw [ints_len]; omega) (fun j u hu => ?_) (ints_ones xs) (by simp only [maxLen]; omega) (by omega) hbase ?_
    · unfold ints at hu
      rw [List.getElem?_map] at hu
      cases hj : xs[j]? with
      | none => rw [hj] at hu; cases hu
      | some y =>
        rw [hj] at hu
        have := hc j (List.getElem?_eq_some_iff.1 hj).1
        rw [List.getD_eq_getElem?_getD, hj] at this
        cases hu
        rw [plain_add]
        exact this
    · intro v' w' h1 _ h3 h4
      rw [List.nil_append, Nat.zero_add] at h1
      obtain ⟨A', c', rfl⟩ := own_form h1
      exact h A' c' w' h1 h3 h4

/-! ### The expander -/
/-- What is yet to come of a walk. -/
structure WkE where
  nm : ByteArray
  A : Option Addr
  c : Nat
  rest : List Gd
/-- The kids of a node that was put: a row of their own, apart from the row of those that have no parent. -/
def KidR (w : World) (B : Nat) (rv : Value) (x : NR) : Prop := w.ownsRow B 3 1 (.slice x.2.1 x.1.l.length x.2.2) x.1.l.length (ints x.1.l) ∧ ∀ k, (Value.slice x.2.1 x.1.l.length x.2.2).ownBlock = some k → rv.ownBlock ≠ some k
section
variable {B : Nat} {w w' : World} {b bt bo nt no : Nat} {f g : ByteArray → Option Value} {wv nv rv : Value} {wl : List WkE} {l : List NR} {rt : List Nat}
end
theorem _root_.Go.Proofs.Ytaagkfiaccmepaa.RowA.set {w : World} {g : Nat} {t : TypeId} {cs : Array Value} (r : RowA w g t cs) (k : Nat) (v : Value) : RowA (w.setCell ⟨g, k, none⟩ v) g t (cs.setIfInBounds k v) := by
  unfold RowA at r ⊢
  simp [World.setCell, Array.getElem?_modify, r]
theorem _root_.Go.Proofs.Ytaagkfiaccmepaa.RowA.far {w : World} {g : Nat} {t : TypeId} {cs : Array Value} (r : RowA w g t cs) {a : Addr} (ha : g ≠ a.block) (v : Value) : RowA (w.setCell a v) g t cs := (Below.heap_setCell w a v g ha).trans r
theorem bel_set {B : Nat} {a w : World} (h : Below B a w) (p : Addr) (v : Value) (hp : B ≤ p.block) : Below B a (w.setCell p v) :=
  ⟨h.os, h.tape, h.output, by simpa [World.setCell] using h.size, fun k hk => (Below.heap_setCell w p v k (by omega)).trans (h.block k hk)⟩
theorem bel_none {w u : World} (h : w.grownBy u none) : Below w.heap.size w u := ⟨h.os, h.tape, h.output, h.size, fun k hk => h.block k hk nofun⟩
theorem bel_row {B : Nat} {a w u : World} {row : Option Nat} (h : Below B a w) (hB : B ≤ w.heap.size) (hg : w.grownBy u row) (hr : ∀ k, row = some k → B ≤ k) : Below B a u :=
  ⟨hg.os.trans h.os, hg.tape.trans h.tape, hg.output.trans h.output, Nat.le_trans h.size hg.size, fun k hk => (hg.block k (by omega) (fun q => by have := hr k q.symm; omega)).trans (h.block k hk)⟩
theorem own_set {u : World} {base : Nat} {e : TypeId} {sz n : Nat} {z : Value} {xs : List Value} (h : u.ownsRow base e sz z n xs) {a : Addr} (hb : z.ownBlock ≠ some a.block) (y : Value) : (u.setCell a y).ownsRow base e sz z n xs := by
  obtain ⟨h1, h2⟩ := h
  refine ⟨h1, ?_⟩
  rcases h2 with h2 | ⟨g, cap, cur, hv, hg, hh, r⟩
  · exact .inl h2
  · exact .inr ⟨g, cap, cur, hv, hg, (Below.heap_setCell _ _ _ _ (fun q => hb (by rw [hv, ← q]; rfl))).trans hh, r⟩
theorem MapV.set {w : World} {b n : Nat} {f : ByteArray → Option Value} (h : MapV w b n f) {a : Addr} (hb : b ≠ a.block) (y : Value) : MapV (w.setCell a y) b n f := h.keep (Below.heap_setCell _ _ _ _ hb)
theorem MapV.far {w : World} {b n : Nat} {f : ByteArray → Option Value} (h : MapV w b n f) {base : Nat} {e : TypeId} {sz m : Nat} {z : Value} {xs : List Value} (ho : w.ownsRow base e sz z m xs) : z.ownBlock ≠ some b := by
  obtain ⟨es, cl, hb⟩ := h.blk
  exact own_nem ho hb
theorem MapV.ne {w : World} {b n g : Nat} {f : ByteArray → Option Value} {t : TypeId} {cs : Array Value} (h : MapV w b n f) (r : RowA w g t cs) : b ≠ g := fun q => by
  obtain ⟨es, cl, hb⟩ := h.blk
  unfold RowA at r
  rw [← q, hb] at r
  cases r
theorem own_neR {w : World} {base : Nat} {e e' : TypeId} {sz n b : Nat} {v : Value} {xs : List Value} {cs : Array Value} (h : w.ownsRow base e sz v n xs) (hb : RowA w b e' cs) (hne : e ≠ e') : v.ownBlock ≠ some b := own_ne h hb hne
theorem own_sb {u : World} {base : Nat} {e : TypeId} {sz n b k : Nat} {z : Value} {xs : List Value} (h : u.ownsRow base e sz z n xs) (hb : z.ownBlock ≠ some b) (y : Value) : (u.setCell ⟨b, k, none⟩ y).ownsRow base e sz z n xs := own_set h hb y
theorem MapV.sb {w : World} {b n c k : Nat} {f : ByteArray → Option Value} (h : MapV w b n f) (hb : b ≠ c) (y : Value) : MapV (w.setCell ⟨c, k, none⟩ y) b n f := h.set hb y
/-- Where a row may lie now. -/
def Lies (w : World) (v z : Value) : Prop := z.ownBlock = v.ownBlock ∨ ∃ k, z.ownBlock = some k ∧ w.heap.size ≤ k
theorem Lies.ne {w : World} {v z : Value} {base : Nat} {e : TypeId} {sz n : Nat} {y : Value} {xs : List Value} (h : Lies w v z) (ho : w.ownsRow base e sz y n xs) (hn : ∀ k, y.ownBlock = some k → v.ownBlock ≠ some k) : ∀ k, y.ownBlock = some k → z.ownBlock ≠ some k := fun k hk q => by
  rcases h with h | ⟨j, h1, h2⟩
  · exact hn k hk (h ▸ q)
  · rw [h1] at q
    cases q
    have := (ho.lt k hk).2
    omega
section
variable {B : Nat} {w u : World} {b bt bo nt no : Nat} {f g : ByteArray → Option Value} {wv nv rv z : Value} {wl wl' : List WkE} {l : List NR} {rt rt' : List Nat} {n : Nat}
end
end Go.Proofs.Ytaagkfiaccmepaa.Sy

namespace Go.Proofs.Ytaagkfiaccmepaa.Sy.Ap
open Go.RowKit
set_option maxRecDepth 100000
set_option linter.unusedVariables false

def withG (x : Gd) (ks : List Int) : Gd := ⟨x.op, x.s, ks, x.lo, x.hi, x.nm⟩
/-! ### A region that appends one element to a row of a struct, in whatever order -/
def AppP (w : World) (B : Nat) (e : TypeId) (sz : Nat) (v : Value) (n : Nat) (xs : List Value) (z : Value) (u : World) : Prop := u.ownsRow B e sz z (n + 1) xs ∧ (z.ownBlock = v.ownBlock ∨ ∃ k, z.ownBlock = some k ∧ w.heap.size ≤ k)
structure AppS (w : World) (B b q : Nat) (tr : TypeId) (cr bx : Array Value) (e : TypeId) (sz : Nat) (v : Value) (n : Nat) (xs ys : List Value) (sl : Nat) (a : Act) (u : World) : Prop where
  box : RowA u q 39 bx
  row : RowA u b tr cr
  grow : w.grownBy u v.ownBlock
  own : u.ownsRow B e sz v n xs
  app : ∀ z, a.tmps[sl]? = some z → z = undef ∨ AppP w B e sz v n (xs ++ ys) z u
def nS (sl : Nat) (d : Option Nat) : Bool := !(d == some sl)
def EbS (sl : Nat) (v : Value) (d : Option Nat) (u u' : World) : Prop := if nS sl d = true then Below u.heap.size u u' else u.grownBy u' v.ownBlock
theorem eby {sl : Nat} {v : Value} {d : Option Nat} {u u' : World} (hd : nS sl d = true) (h : Below u.heap.size u u') : EbS sl v d u u' := by
  unfold EbS; rw [if_pos hd]; exact h
theorem ebw {sl : Nat} {v : Value} {d : Option Nat} {u u' : World} (hd : nS sl d = false) (h : u.grownBy u' v.ownBlock) : EbS sl v d u u' := by
  unfold EbS; rw [if_neg (by rw [hd]; exact Bool.false_ne_true)]; exact h
theorem grown_below {w u u' : World} {row : Option Nat} (h : w.grownBy u row) (hb : Below u.heap.size u u') : w.grownBy u' row :=
  ⟨hb.os.trans h.os, hb.tape.trans h.tape, hb.output.trans h.output, Nat.le_trans h.size hb.size, fun k hk hr => (hb.block k (Nat.lt_of_lt_of_le hk h.size)).trans (h.block k hk hr)⟩
theorem grown_trans {w u u' : World} {row : Option Nat} (h : w.grownBy u row) (hb : u.grownBy u' row) : w.grownBy u' row :=
  ⟨hb.os.trans h.os, hb.tape.trans h.tape, hb.output.trans h.output, Nat.le_trans h.size hb.size, fun k hk hr => (hb.block k (Nat.lt_of_lt_of_le hk h.size) hr).trans (h.block k hk hr)⟩
section
variable {w u u' u1 : World} {B b q : Nat} {tr : TypeId} {cr bx : Array Value} {e : TypeId} {sz : Nat} {v v' : Value} {n : Nat} {xs ys : List Value} {sl : Nat} {a : Act}
theorem AppS.below (h : AppS w B b q tr cr bx e sz v n xs ys sl a u) (hb : Below u.heap.size u u') : AppS w B b q tr cr bx e sz v n xs ys sl a u' :=
  ⟨h.box.below hb h.box.lt, h.row.below hb h.row.lt, grown_below h.grow hb, own_below h.own hb (Nat.le_refl _), fun z hz => by
    rcases h.app z hz with h1 | ⟨h1, h2⟩
    · exact .inl h1
    · exact .inr ⟨own_below h1 hb (Nat.le_refl _), h2⟩⟩
theorem AppS.put (h : AppS w B b q tr cr bx e sz v n xs ys sl a u) {d : Option Nat} (he : nS sl d = true) (z : Value) : AppS w B b q tr cr bx e sz v n xs ys sl (a.put d z) u := by
  have e8 : (a.put d z).tmps[sl]? = a.tmps[sl]? := by
    cases d with
    | none => rfl
    | some d => rw [put_tmps, Array.getElem?_setIfInBounds_ne (fun q => by subst q; simp [nS] at he)]
  exact ⟨h.box, h.row, h.grow, h.own, fun y hy => h.app y (e8 ▸ hy)⟩
theorem own_not (h : u.ownsRow B e sz v n xs) : v ≠ undef := fun q => by
  obtain ⟨A1, c1, h2⟩ := own_form h
  rw [h2] at q
  cases q
theorem AppS.app_ (hvb : v.ownBlock ≠ some b) (hvq : v.ownBlock ≠ some q) (hS : AppS w B b q tr cr bx e sz v n xs ys sl a u)
    (h1 : u1.ownsRow B e sz v' (n + 1) (xs ++ ys)) (h2 : u1.ownsRow B e sz v n xs) (h3 : u.grownBy u1 v.ownBlock) (h4 : v'.ownBlock = v.ownBlock ∨ v'.ownBlock = some u.heap.size) : AppS w B b q tr cr bx e sz v n xs ys sl (a.put (some sl) v') u1 := by
  refine ⟨(h3.block _ hS.box.lt (fun e => hvq e.symm)).trans hS.box, (h3.block _ hS.row.lt (fun e => hvb e.symm)).trans hS.row, grown_trans hS.grow h3, h2, fun z hz => .inr ?_⟩
  rw [put_tmps, Array.getElem?_setIfInBounds] at hz
  simp only [if_true] at hz
  split at hz
  · cases hz
    refine ⟨h1, ?_⟩
    rcases h4 with h4 | h4
    · exact .inl h4
    · exact .inr ⟨_, h4, hS.grow.size⟩
  · cases hz
/-- A new row of one element. -/
def NewR (w : World) (v : Value) (e : TypeId) (cs : Array Value) (z : Value) (u : World) : Prop := ∃ g, z = .slice (some ⟨g, 0, none⟩) 1 1 ∧ v.ownBlock ≠ some g ∧ w.heap.size ≤ g ∧ RowA u g e cs
theorem NewR.stab {cs : Array Value} {z : Value} {d : Option Nat} (h : NewR w v e cs z u) (hE : EbS sl v d u u') : NewR w v e cs z u' := by
  obtain ⟨g, e, hgv, hg, r⟩ := h
  refine ⟨g, e, hgv, hg, ?_⟩
  unfold EbS at hE
  split at hE
  · exact r.below hE r.lt
  · exact (hE.block g r.lt (fun q => hgv q.symm)).trans r
end
/- The row of those that have no parent is cut, and gets one more; the row of nodes gets one more. -/
theorem ob_eq (A : Option Addr) (n c n' c' : Nat) : (Value.slice A n c).ownBlock = (Value.slice A n' c').ownBlock := by cases A <;> rfl
end Go.Proofs.Ytaagkfiaccmepaa.Sy.Ap

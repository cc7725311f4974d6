/- Rows that a call holds: blocks told apart by their types; numbers appended; the landed expander in memory. -/
import Derived.Test.YtgppanbikfobbaaAe
import Derived.Test.YtgppanbikfobbaaOg
namespace Go.Proofs.Ytgppanbikfobbaa.Sy
open Go.RowKit
set_option maxRecDepth 100000
set_option linter.unusedVariables false

def ints (l : List Int) : List Value := l.map (Value.int .i64)
theorem ints_len (l : List Int) : (ints l).length = l.length := List.length_map ..
theorem ints_ones (l : List Int) : ∀ u ∈ ints l, u.oneCell' = true := fun u hu => by
  obtain ⟨x, _, rfl⟩ := List.mem_map.1 hu
  rfl
theorem i64s_ints (l : List Nat) : i64s l = ints (l.map fun k : Nat => (k : Int)) := by
  unfold i64s ints
  rw [List.map_map]
  rfl
section
variable {w w' : World} {base : Nat} {e : TypeId} {sz n : Nat} {v : Value} {xs : List Value}
theorem own_blk (h : w.ownsRow base e sz v n xs) {k : Nat} (hk : v.ownBlock = some k) : ∃ cur, w.heap[k]? = some (.cells cur e (0, 0)) := by
  rcases h.2 with ⟨hv, _⟩ | ⟨g, cap, cur, hv, hg, hh, _⟩
  · rw [hv] at hk; cases hk
  · rw [hv] at hk
    have : g = k := Option.some.inj hk
    subst this
    exact ⟨cur, hh⟩
/-- A block of another type is another block. -/
theorem own_ne {e' : TypeId} {cs : Array Value} {b : Nat} {p : Nat × Nat} (h : w.ownsRow base e sz v n xs) (hb : w.heap[b]? = some (.cells cs e' p)) (hne : e ≠ e') : v.ownBlock ≠ some b := fun q => by
  obtain ⟨cur, hc⟩ := own_blk h q
  rw [hb] at hc
  cases hc
  exact hne rfl
theorem own_nem {es : Array MapEntry} {cl b : Nat} (h : w.ownsRow base e sz v n xs) (hb : w.heap[b]? = some (.map es cl)) : v.ownBlock ≠ some b := fun q => by
  obtain ⟨cur, hc⟩ := own_blk h q
  rw [hb] at hc
  cases hc
theorem own_apart {base' sz' n' : Nat} {e' : TypeId} {v' : Value} {xs' : List Value} (h : w.ownsRow base e sz v n xs) (h' : w.ownsRow base' e' sz' v' n' xs') (hne : e ≠ e') : ∀ k, v.ownBlock = some k → v'.ownBlock ≠ some k := fun k hk q => by
  obtain ⟨cur, hc⟩ := own_blk h hk
  exact own_ne h' hc (fun q => hne q.symm) q
/-- Kept where another block is written. -/
theorem own_kept {row : Option Nat} (h : w.ownsRow base e sz v n xs) (g : w.grownBy w' row) (hr : ∀ k, row = some k → v.ownBlock ≠ some k) : w'.ownsRow base e sz v n xs := by
  refine h.kept g ?_
  cases hv : v.ownBlock with
  | none => exact .inl rfl
  | some k => exact .inr (fun q => hr k q.symm hv)
theorem own_cap {A : Option Addr} {c : Nat} (h : w.ownsRow base e sz (.slice A n c) n xs) : n ≤ c := by
  rcases h.2 with ⟨hv, hn⟩ | ⟨g, cap, cur, hv, hg, hh, h3, _⟩
  · omega
  · cases hv
    exact h3
theorem own_cut' {A : Option Addr} {c r : Nat} {st : List Nat} (h : w.ownsRow base 3 1 (.slice A n c) n (i64s st)) (hr : r ≤ n) (hn : n = st.length) : w.ownsRow base 3 1 (.slice A r c) r (i64s (st.take r)) := by
  cases A with
  | none =>
    obtain ⟨h1, h2⟩ := h
    rcases h2 with ⟨h2, h3⟩ | ⟨g', cap', cur, hv, _⟩
    · cases h2
      have : r = 0 := by omega
      subst this
      exact ⟨by rw [List.take_zero]; rfl, .inl ⟨rfl, rfl⟩⟩
    · cases hv
  | some a =>
    obtain ⟨g, off, sp⟩ := a
    have : off = 0 ∧ sp = none := by
      rcases h.2 with ⟨hv, _⟩ | ⟨g', cap', cur, hv, _⟩
      · cases hv
      · cases hv; exact ⟨rfl, rfl⟩
    obtain ⟨rfl, rfl⟩ := this
    exact own_cut h hr hn
end
/-- Numbers appended to a row that has none yet. -/
theorem wp_app_its {w : World} {o : Oper} {a : Act} {K : Act → World → Prop} {Q : Exit → Act → World → Prop} (s x : Operand)
    (ho : o.op = .call { callee := .builtin .append, args := #[s, x], argTypes := #[39, 39] }) (base : Nat) (v : Value) (hs : a.eval s = v) (hown : w.ownsRow base 3 1 v 0 []) (A : Option Addr) (c : Nat) (xs : List Int) (n : Nat) (hn : xs.length = n)
    (hx : a.eval x = .slice A n c) (hI : Its w w.heap.size A xs) (hl : xs.length ≤ 1000000) (hbase : base ≤ w.heap.size)
    (h : ∀ A' c' w', w'.ownsRow base 3 1 (.slice A' n c') n (ints xs) → w.grownBy w' v.ownBlock → ((Value.slice A' n c').ownBlock = v.ownBlock ∨ (Value.slice A' n c').ownBlock = some w.heap.size) → K (a.put o.dst (.slice A' n c')) w') : o.wp Try.prog a w K Q := by
  subst hn
  obtain ⟨i0, hi0, hz0, hz1, hz2⟩ := info_parts int_info
  by_cases he : xs = []
  · subst he
    obtain ⟨B, k, rfl, hB⟩ : ∃ B k, v = .slice B 0 k ∧ (B = none → 0 = 0 ∧ k = 0) := by
      rcases hown.2 with ⟨hv, hn⟩ | ⟨g, cap, cur, hv, hg, hh, h1, h2, h3, h4⟩
      · exact ⟨none, 0, hv, fun _ => ⟨rfl, rfl⟩⟩
      · exact ⟨_, cap, hv, nofun⟩
    have hr : (Builtin.append_ #[39, 39] o.type #[.slice B 0 k, .slice A 0 c]).run Try.prog w = .ok (.slice B 0 k) w := by
      have ht := Try.underlying39
      cases B with
      | none =>
        obtain ⟨-, rfl⟩ := hB rfl
        cases A <;> simp [Builtin.append_, run_underlying ht, sizeOf, typeInfo, hi0, Builtin.lenOf, Builtin.firstCells, loadCells, loadCellsFrom]
      | some b =>
        cases A <;> simp [Builtin.append_, run_underlying ht, sizeOf, typeInfo, hi0, Builtin.lenOf, Builtin.firstCells, loadCells, loadCellsFrom, storeCells]
    have hx' : a.eval x = .slice A 0 c := hx
    unfold Oper.wp execOp
    simp only [ho, resolve, invoke, builtin, Sem.run_bind, Sem.run_pure, Result.andThen_ok, List.map_toArray, List.map_cons, List.map_nil, hs, hx', hr]
    exact h B k w hown ⟨rfl, rfl, rfl, Nat.le_refl _, fun _ _ _ => rfl⟩ (.inl rfl)
  · obtain ⟨g, off, rfl, hg, hc⟩ := hI he
    refine wp_append_both w s x 39 ho base 3 i0 _ 1 8 Try.underlying39 hi0 hz0 hz1 hz2 rfl (by omega) v 0 [] hs hown ⟨g, off, none⟩ xs.length c (ints xs) hx (by rw [ints_len]; omega) (fun j u hu => ?_) (ints_ones xs) (by simp only [maxLen]; omega) (by omega) hbase ?_
    · unfold ints at hu
      rw [List.getElem?_map] at hu
      cases hj : xs[j]? with
      | none => rw [hj] at hu; cases hu
      | some y =>
        rw [hj] at hu
        have := hc j (List.getElem?_eq_some_iff.1 hj).1
        rw [List.getD_eq_getElem?_getD, hj] at this
        cases hu
        rw [plain_add]
        exact this
    · intro v' w' h1 _ h3 h4
      rw [List.nil_append, Nat.zero_add] at h1
      obtain ⟨A', c', rfl⟩ := own_form h1
      exact h A' c' w' h1 h3 h4

/-! ### The expander -/
/-- What is yet to come of a walk. -/
structure WkE where
  nm : ByteArray
  A : Option Addr
  c : Nat
  rest : List Gd
def wkL (e : WkE) : List Value := [.string e.nm, .slice e.A e.rest.length e.c]
def wksC (l : List WkE) : List Value := l.flatMap wkL
abbrev exC (bt bo : Nat) (wv nv rv : Value) : Array Value := #[.map (some bt), .map (some bo), wv, nv, rv]
/-- The kids of a node that was put: a row of their own, apart from the row of those that have no parent. -/
def KidR (w : World) (B : Nat) (rv : Value) (x : NR) : Prop := w.ownsRow B 3 1 (.slice x.2.1 x.1.l.length x.2.2) x.1.l.length (ints x.1.l) ∧ ∀ k, (Value.slice x.2.1 x.1.l.length x.2.2).ownBlock = some k → rv.ownBlock ≠ some k
structure ES (B : Nat) (w : World) (b bt bo nt no : Nat) (f g : ByteArray → Option Value) (wv nv rv : Value) (wl : List WkE) (l : List NR) (rt : List Nat) : Prop where
  row : RowA w b 48 (exC bt bo wv nv rv)
  trees : MapV w bt nt f
  opn : MapV w bo no g
  apart : bt ≠ bo
  walks : w.ownsRow B 69 2 wv wl.length (wksC wl)
  nodes : w.ownsRow B 41 9 nv l.length (nodesC l)
  roots : w.ownsRow B 3 1 rv rt.length (i64s rt)
  kids : ∀ x ∈ l, KidR w B rv x
  hb : B ≤ b
  ho : B ≤ bo
section
variable {B : Nat} {w w' : World} {b bt bo nt no : Nat} {f g : ByteArray → Option Value} {wv nv rv : Value} {wl : List WkE} {l : List NR} {rt : List Nat}
theorem ES.cells (h : ES B w b bt bo nt no f g wv nv rv wl l rt) : w.cell? ⟨b, 0, none⟩ = some (.map (some bt)) ∧ w.cell? ⟨b, 1, none⟩ = some (.map (some bo)) ∧ w.cell? ⟨b, 2, none⟩ = some wv ∧ w.cell? ⟨b, 3, none⟩ = some nv ∧ w.cell? ⟨b, 4, none⟩ = some rv :=
  ⟨h.row.at_ rfl, h.row.at_ rfl, h.row.at_ rfl, h.row.at_ rfl, h.row.at_ rfl⟩
theorem ES.size (h : ES B w b bt bo nt no f g wv nv rv wl l rt) : B ≤ w.heap.size := Nat.le_trans h.hb (Nat.le_of_lt h.row.lt)
/-- Blocks below the heap's size stay: so does all. -/
theorem ES.below (h : ES B w b bt bo nt no f g wv nv rv wl l rt) (hb : Below w.heap.size w w') : ES B w' b bt bo nt no f g wv nv rv wl l rt :=
  ⟨h.row.below hb h.row.lt, h.trees.below hb h.trees.lt, h.opn.below hb h.opn.lt, h.apart, own_below h.walks hb (Nat.le_refl _), own_below h.nodes hb (Nat.le_refl _), own_below h.roots hb (Nat.le_refl _), fun x hx => ⟨own_below (h.kids x hx).1 hb (Nat.le_refl _), (h.kids x hx).2⟩, h.hb, h.ho⟩
theorem ES.drewN (h : ES B w b bt bo nt no f g wv nv rv wl l rt) (m : Nat) : ES B (w.drewN m) b bt bo nt no f g wv nv rv wl l rt := h.below (bel_drewN (Below.refl _ _) m)
end
theorem _root_.Go.Proofs.Ytgppanbikfobbaa.RowA.set {w : World} {g : Nat} {t : TypeId} {cs : Array Value} (r : RowA w g t cs) (k : Nat) (v : Value) : RowA (w.setCell ⟨g, k, none⟩ v) g t (cs.setIfInBounds k v) := by
  unfold RowA at r ⊢
  simp [World.setCell, Array.getElem?_modify, r]
theorem _root_.Go.Proofs.Ytgppanbikfobbaa.RowA.far {w : World} {g : Nat} {t : TypeId} {cs : Array Value} (r : RowA w g t cs) {a : Addr} (ha : g ≠ a.block) (v : Value) : RowA (w.setCell a v) g t cs := (Below.heap_setCell w a v g ha).trans r
theorem bel_set {B : Nat} {a w : World} (h : Below B a w) (p : Addr) (v : Value) (hp : B ≤ p.block) : Below B a (w.setCell p v) :=
  ⟨h.os, h.tape, h.output, by simpa [World.setCell] using h.size, fun k hk => (Below.heap_setCell w p v k (by omega)).trans (h.block k hk)⟩
theorem bel_none {w u : World} (h : w.grownBy u none) : Below w.heap.size w u := ⟨h.os, h.tape, h.output, h.size, fun k hk => h.block k hk nofun⟩
theorem bel_row {B : Nat} {a w u : World} {row : Option Nat} (h : Below B a w) (hB : B ≤ w.heap.size) (hg : w.grownBy u row) (hr : ∀ k, row = some k → B ≤ k) : Below B a u :=
  ⟨hg.os.trans h.os, hg.tape.trans h.tape, hg.output.trans h.output, Nat.le_trans h.size hg.size, fun k hk => (hg.block k (by omega) (fun q => by have := hr k q.symm; omega)).trans (h.block k hk)⟩
theorem own_set {u : World} {base : Nat} {e : TypeId} {sz n : Nat} {z : Value} {xs : List Value} (h : u.ownsRow base e sz z n xs) {a : Addr} (hb : z.ownBlock ≠ some a.block) (y : Value) : (u.setCell a y).ownsRow base e sz z n xs := by
  obtain ⟨h1, h2⟩ := h
  refine ⟨h1, ?_⟩
  rcases h2 with h2 | ⟨g, cap, cur, hv, hg, hh, r⟩
  · exact .inl h2
  · exact .inr ⟨g, cap, cur, hv, hg, (Below.heap_setCell _ _ _ _ (fun q => hb (by rw [hv, ← q]; rfl))).trans hh, r⟩
theorem MapV.set {w : World} {b n : Nat} {f : ByteArray → Option Value} (h : MapV w b n f) {a : Addr} (hb : b ≠ a.block) (y : Value) : MapV (w.setCell a y) b n f := h.keep (Below.heap_setCell _ _ _ _ hb)
theorem MapV.far {w : World} {b n : Nat} {f : ByteArray → Option Value} (h : MapV w b n f) {base : Nat} {e : TypeId} {sz m : Nat} {z : Value} {xs : List Value} (ho : w.ownsRow base e sz z m xs) : z.ownBlock ≠ some b := by
  obtain ⟨es, cl, hb⟩ := h.blk
  exact own_nem ho hb
theorem MapV.ne {w : World} {b n g : Nat} {f : ByteArray → Option Value} {t : TypeId} {cs : Array Value} (h : MapV w b n f) (r : RowA w g t cs) : b ≠ g := fun q => by
  obtain ⟨es, cl, hb⟩ := h.blk
  unfold RowA at r
  rw [← q, hb] at r
  cases r
theorem own_neR {w : World} {base : Nat} {e e' : TypeId} {sz n b : Nat} {v : Value} {xs : List Value} {cs : Array Value} (h : w.ownsRow base e sz v n xs) (hb : RowA w b e' cs) (hne : e ≠ e') : v.ownBlock ≠ some b := own_ne h hb hne
theorem own_sb {u : World} {base : Nat} {e : TypeId} {sz n b k : Nat} {z : Value} {xs : List Value} (h : u.ownsRow base e sz z n xs) (hb : z.ownBlock ≠ some b) (y : Value) : (u.setCell ⟨b, k, none⟩ y).ownsRow base e sz z n xs := own_set h hb y
theorem MapV.sb {w : World} {b n c k : Nat} {f : ByteArray → Option Value} (h : MapV w b n f) (hb : b ≠ c) (y : Value) : MapV (w.setCell ⟨c, k, none⟩ y) b n f := h.set hb y
/-- Where a row may lie now. -/
def Lies (w : World) (v z : Value) : Prop := z.ownBlock = v.ownBlock ∨ ∃ k, z.ownBlock = some k ∧ w.heap.size ≤ k
theorem Lies.ne {w : World} {v z : Value} {base : Nat} {e : TypeId} {sz n : Nat} {y : Value} {xs : List Value} (h : Lies w v z) (ho : w.ownsRow base e sz y n xs) (hn : ∀ k, y.ownBlock = some k → v.ownBlock ≠ some k) : ∀ k, y.ownBlock = some k → z.ownBlock ≠ some k := fun k hk q => by
  rcases h with h | ⟨j, h1, h2⟩
  · exact hn k hk (h ▸ q)
  · rw [h1] at q
    cases q
    have := (ho.lt k hk).2
    omega
section
variable {B : Nat} {w u : World} {b bt bo nt no : Nat} {f g : ByteArray → Option Value} {wv nv rv z : Value} {wl wl' : List WkE} {l : List NR} {rt rt' : List Nat} {n : Nat}
/-- Another row of those that have no parent. -/
theorem ES.setRoots (h : ES B w b bt bo nt no f g wv nv rv wl l rt) (hg : w.grownBy u rv.ownBlock) (hn : u.ownsRow B 3 1 z rt'.length (i64s rt')) (hz : Lies w rv z) : ES B (u.setCell ⟨b, 4, none⟩ z) b bt bo nt no f g wv nv z wl l rt' := by
  have nb := own_neR h.roots h.row (by decide)
  have R : RowA u b 48 (exC bt bo wv nv rv) := (hg.block b h.row.lt (fun q => nb q.symm)).trans h.row
  have m1 := h.trees.grown hg (fun q => h.trees.far h.roots q.symm)
  have m2 := h.opn.grown hg (fun q => h.opn.far h.roots q.symm)
  have o1 := own_kept h.walks hg (fun k q => fun r => own_apart h.roots h.walks (by decide) k q r)
  have o2 := own_kept h.nodes hg (fun k q => fun r => own_apart h.roots h.nodes (by decide) k q r)
  exact ⟨R.set 4 z, m1.sb (m1.ne R) z, m2.sb (m2.ne R) z, h.apart, own_sb o1 (own_neR o1 R (by decide)) z, own_sb o2 (own_neR o2 R (by decide)) z, own_sb hn (own_neR hn R (by decide)) z, fun x hx => by
    obtain ⟨k1, k2⟩ := h.kids x hx
    have k3 := own_kept k1 hg (fun k q r => k2 k r q)
    exact ⟨own_sb k3 (own_neR k3 R (by decide)) z, hz.ne k1 k2⟩, h.hb, h.ho⟩
/-- One more node. -/
theorem ES.addNode (h : ES B w b bt bo nt no f g wv nv rv wl l rt) (hg : w.grownBy u nv.ownBlock) {x : NR} (hn : u.ownsRow B 41 9 z (l ++ [x]).length (nodesC (l ++ [x]))) (hx : KidR w B rv x) : ES B (u.setCell ⟨b, 3, none⟩ z) b bt bo nt no f g wv z rv wl (l ++ [x]) rt := by
  have nb := own_neR h.nodes h.row (by decide)
  have R : RowA u b 48 (exC bt bo wv nv rv) := (hg.block b h.row.lt (fun q => nb q.symm)).trans h.row
  have m1 := h.trees.grown hg (fun q => h.trees.far h.nodes q.symm)
  have m2 := h.opn.grown hg (fun q => h.opn.far h.nodes q.symm)
  have o1 := own_kept h.walks hg (fun k q => fun r => own_apart h.nodes h.walks (by decide) k q r)
  have o2 := own_kept h.roots hg (fun k q => fun r => own_apart h.nodes h.roots (by decide) k q r)
  exact ⟨R.set 3 z, m1.sb (m1.ne R) z, m2.sb (m2.ne R) z, h.apart, own_sb o1 (own_neR o1 R (by decide)) z, own_sb hn (own_neR hn R (by decide)) z, own_sb o2 (own_neR o2 R (by decide)) z, fun y hy => by
    have hy2 : KidR w B rv y := by
      rcases List.mem_append.1 hy with q | q
      · exact h.kids y q
      · rw [List.mem_singleton] at q
        exact q ▸ hx
    obtain ⟨k1, k2⟩ := hy2
    have k3 := own_kept k1 hg (fun k q => fun r => own_apart h.nodes k1 (by decide) k q r)
    exact ⟨own_sb k3 (own_neR k3 R (by decide)) z, k2⟩, h.hb, h.ho⟩
/-- Another row of walks. -/
theorem ES.setWalks (h : ES B w b bt bo nt no f g wv nv rv wl l rt) (hg : w.grownBy u wv.ownBlock) (hn : u.ownsRow B 69 2 z wl'.length (wksC wl')) : ES B (u.setCell ⟨b, 2, none⟩ z) b bt bo nt no f g z nv rv wl' l rt := by
  have nb := own_neR h.walks h.row (by decide)
  have R : RowA u b 48 (exC bt bo wv nv rv) := (hg.block b h.row.lt (fun q => nb q.symm)).trans h.row
  have m1 := h.trees.grown hg (fun q => h.trees.far h.walks q.symm)
  have m2 := h.opn.grown hg (fun q => h.opn.far h.walks q.symm)
  have o1 := own_kept h.nodes hg (fun k q => fun r => own_apart h.walks h.nodes (by decide) k q r)
  have o2 := own_kept h.roots hg (fun k q => fun r => own_apart h.walks h.roots (by decide) k q r)
  exact ⟨R.set 2 z, m1.sb (m1.ne R) z, m2.sb (m2.ne R) z, h.apart, own_sb hn (own_neR hn R (by decide)) z, own_sb o1 (own_neR o1 R (by decide)) z, own_sb o2 (own_neR o2 R (by decide)) z, fun y hy => by
    obtain ⟨k1, k2⟩ := h.kids y hy
    have k3 := own_kept k1 hg (fun k q => fun r => own_apart h.walks k1 (by decide) k q r)
    exact ⟨own_sb k3 (own_neR k3 R (by decide)) z, k2⟩, h.hb, h.ho⟩
/-- The names that are being walked turn. -/
theorem ES.setOpen {g' : ByteArray → Option Value} {no' : Nat} (h : ES B w b bt bo nt no f g wv nv rv wl l rt) (hg : w.mapTurned u bo) (hm : MapV u bo no' g') : ES B u b bt bo nt no' f g' wv nv rv wl l rt := by
  have G := hg.grown
  have kp : ∀ {base : Nat} {e : TypeId} {sz n : Nat} {y : Value} {xs : List Value}, w.ownsRow base e sz y n xs → u.ownsRow base e sz y n xs := fun o => own_kept o G (fun k q => by cases q; exact h.opn.far o)
  exact ⟨(G.block b h.row.lt (fun q => (h.opn.ne h.row) (Option.some.inj q).symm)).trans h.row, h.trees.grown G (fun q => h.apart (Option.some.inj q)), hm, h.apart, kp h.walks, kp h.nodes, kp h.roots, fun y hy => ⟨kp (h.kids y hy).1, (h.kids y hy).2⟩, h.hb, h.ho⟩
end
end Go.Proofs.Ytgppanbikfobbaa.Sy

/- The landed parser's local rows of kids; a row's or an alternative's node; a node of a set. -/
import Derived.Test.YtghjkbjpdjlddaaDoorTk
namespace Go.Proofs.YtghjkbjpdjlddaaDoor.Sy
open Go.RowKit
set_option maxRecDepth 100000

/-- A row of kids that a call of the parser makes, apart from all else. -/
structure Loc (w0 w : World) (b : Nat) (v : Value) (l : List NR) (rv : Value) (xs : List Nat) : Prop where
  own : w.ownsRow 0 3 1 rv xs.length (i64s xs)
  nb : rv.ownBlock ≠ some b
  nv : ∀ k, rv.ownBlock = some k → v.ownBlock ≠ some k
  nk : ∀ x ∈ l, ∀ a, x.2.1 = some a → x.1.l ≠ [] → rv.ownBlock ≠ some a.block
  ne : rv.ownBlock ≠ some 5
  new : ∀ k, rv.ownBlock = some k → w0.heap.size ≤ k
/-- What a call has turned, and which nodes came. -/
structure Goes (b : Nat) (v0 : Value) (l0 : List NR) (v : Value) (l : List NR) (w0 w : World) : Prop where
  fr : Fr b v0 v w0 w
  new : ∃ m, l = l0 ++ m ∧ ∀ x ∈ m, ∀ a, x.2.1 = some a → x.1.l ≠ [] → w0.heap.size ≤ a.block
section
variable {w0 w w' : World} {b : Nat} {v0 v v' rv : Value} {s : ByteArray} {i er pl d : Int} {l0 l l' : List NR} {xs : List Nat}
theorem loc_nil (w0 w : World) (b : Nat) (v : Value) (l : List NR) : Loc w0 w b v l (.slice none 0 0) [] :=
  ⟨⟨rfl, .inl ⟨rfl, rfl⟩⟩, nofun, nofun, fun _ _ _ _ _ => nofun, nofun, nofun⟩
theorem Goes.refl (b : Nat) (v : Value) (l : List NR) (w : World) : Goes b v l v l w w := ⟨Fr.refl _ _ _, [], by simp, by simp⟩
theorem Goes.trans (a : Goes b v0 l0 v l w0 w) (c : Goes b v l v' l' w w') : Goes b v0 l0 v' l' w0 w' := by
  obtain ⟨m, h1, h2⟩ := a.new
  obtain ⟨m', h3, h4⟩ := c.new
  refine ⟨a.fr.trans c.fr, m ++ m', by rw [h3, h1, List.append_assoc], fun x hx y hy hl => ?_⟩
  rcases List.mem_append.1 hx with h | h
  · exact h2 x h y hy hl
  · exact Nat.le_trans a.fr.size (h4 x h y hy hl)
theorem Goes.read (a : Goes b v0 l0 v l w0 w) (T : Touch b b w w') : Goes b v0 l0 v l w0 w' := ⟨a.fr.trans (Fr.of T v), a.new⟩
theorem Goes.add (a : Goes b v0 l0 v l w0 w) {x : NR} (f : Fr b v v' w w') (h : ∀ y, x.2.1 = some y → x.1.l ≠ [] → w0.heap.size ≤ y.block) : Goes b v0 l0 v' (l ++ [x]) w0 w' := by
  obtain ⟨m, h1, h2⟩ := a.new
  refine ⟨a.fr.trans f, m ++ [x], by rw [h1, List.append_assoc], fun y hy z hz hl => ?_⟩
  rcases List.mem_append.1 hy with h3 | h3
  · exact h2 y h3 z hz hl
  · rw [List.mem_singleton] at h3
    subst h3
    exact h z hz hl
theorem own_fr {base : Nat} {e : TypeId} {sz n : Nat} {ys : List Value} (h : w.ownsRow base e sz rv n ys) (f : Fr b v v' w w') (h1 : rv.ownBlock ≠ some b) (h2 : ∀ k, rv.ownBlock = some k → v.ownBlock ≠ some k) : w'.ownsRow base e sz rv n ys := by
  have hlt := h.lt
  obtain ⟨h3, h4⟩ := h
  refine ⟨h3, ?_⟩
  rcases h4 with h4 | ⟨g, cap, cur, hv, hg, hh, r⟩
  · exact .inl h4
  · have e : rv.ownBlock = some g := by rw [hv]; rfl
    exact .inr ⟨g, cap, cur, hv, hg, (f.block g (hlt g e).2 (fun q => h1 (q ▸ e)) (h2 g e)).trans hh, r⟩
/-- A local row is kept by a call that makes nodes. -/
theorem Loc.goes (L : Loc w0 w b v l rv xs) (g : Goes b v l v' l' w w') : Loc w0 w' b v' l' rv xs := by
  have hlt := L.own.lt
  obtain ⟨m, h1, h2⟩ := g.new
  refine ⟨own_fr L.own g.fr L.nb L.nv, L.nb, fun k hk e => ?_, fun x hx a ha hl e => ?_, L.ne, L.new⟩
  · rcases g.fr.own k e with h | h
    · exact L.nv k hk h
    · have := (hlt k hk).2; omega
  · rw [h1] at hx
    rcases List.mem_append.1 hx with h | h
    · exact L.nk x h a ha hl e
    · have := h2 x h a ha hl
      have := (hlt _ e).2
      omega
theorem Loc.read (L : Loc w0 w b v l rv xs) (T : Touch b b w w') : Loc w0 w' b v l rv xs := L.goes ((Goes.refl b v l w).read T)
/-- The parser is kept by an append to a local row. -/
theorem PS.grown (p : PS w b s i er pl d v l) (L : Loc w0 w b v l rv xs) (g : w.grownBy w' rv.ownBlock) : PS w' b s i er pl d v l := by
  have hlt := p.own.lt
  refine ⟨(g.block b p.pr.lt (fun e => L.nb e.symm)).trans p.pr, p.own.kept g ?_, p.far, fun x hx hl => ?_, ?_, p.eb, p.en⟩
  · cases hv : v.ownBlock with
    | none => exact .inl rfl
    | some k => exact .inr (fun e => L.nv k e.symm hv)
  · obtain ⟨q, off, h1, h2, h3, h4, h5⟩ := p.kids x hx hl
    exact ⟨q, off, h1, Nat.lt_of_lt_of_le h2 g.size, h3, h4, fun i hi => (World.cell?_of_block (g.block q h2 (fun e => L.nk x hx _ h1 hl e.symm))).trans (h5 i hi)⟩
  · have hl := p.ev.lt
    obtain ⟨ev, h1, h2⟩ := p.ev
    exact ⟨ev, (World.cell?_of_block (g.block _ hl (fun e => L.ne e.symm))).trans h1, h2⟩
theorem Goes.grown (a : Goes b v0 l0 v l w0 w) (L : Loc w0 w b v l rv xs) (g : w.grownBy w' rv.ownBlock) : Goes b v0 l0 v l w0 w' := by
  refine ⟨⟨g.os.trans a.fr.os, g.tape.trans a.fr.tape, g.output.trans a.fr.output, Nat.le_trans a.fr.size g.size, fun k hk h1 h2 => (g.block k (Nat.lt_of_lt_of_le hk a.fr.size) (fun e => ?_)).trans (a.fr.block k hk h1 h2), a.fr.own⟩, a.new⟩
  have := L.new k e.symm
  omega
theorem PS.alloc (p : PS w b s i er pl d v l) (o : Obj) : PS (w.alloc o) b s i er pl d v l := p.read ((Touch.refl b b w).alloc o) (p.pr.alloc o)
/-- One more kid. -/
theorem Loc.push {H g cap k : Nat} (p : PS w b s i er pl d v l) (L : Loc w0 w b v l rv xs) (hH : w.heap.size = H) (h0 : w0.heap.size ≤ H) (hown : w'.ownsRow 0 3 1 (.slice (some ⟨g, 0, none⟩) (xs.length + 1) cap) (xs.length + 1) (i64s xs ++ [.int .i64 (k : Int)])) (hat : rv.ownBlock = some g ∨ g = H) :
    Loc w0 w' b v l (.slice (some ⟨g, 0, none⟩) (xs.length + 1) cap) (xs ++ [k]) := by
  have hlt := p.own.lt
  have hb := p.pr.lt
  have hev := p.ev.lt
  rw [i64s_snoc] at hown
  refine ⟨by rw [List.length_append]; exact hown, fun e => ?_, fun q hq e => ?_, fun x hx a ha hl e => ?_, fun e => ?_, fun q hq => ?_⟩
  · have e1 : g = b := Option.some.inj e
    rcases hat with h | h
    · exact L.nb (e1 ▸ h)
    · omega
  · have e1 : g = q := Option.some.inj hq
    subst e1
    rcases hat with h | h
    · exact L.nv g h e
    · have := (hlt g e).2; omega
  · have e1 : g = a.block := Option.some.inj e
    rcases hat with h | h
    · exact L.nk x hx a ha hl (e1 ▸ h)
    · obtain ⟨q, off, h1, h2, -⟩ := p.kids x hx hl
      rw [ha] at h1
      have h3 := Option.some.inj h1
      rw [h3] at e1
      simp only at e1
      omega
  · have e1 : g = 5 := Option.some.inj e
    rcases hat with h | h
    · exact L.ne (e1 ▸ h)
    · omega
  · have e1 : g = q := Option.some.inj hq
    subst e1
    rcases hat with h | h
    · exact L.new g h
    · omega

theorem cat_lit (op : Int) (ys : List Int) (A : Option Addr) (c : Nat) : (gdL (catG op ys) A c).toArray = #[.int .u8 op, .int .u64 0, .int .u64 0, .int .u64 0, .int .u64 0, .slice A ys.length c, .int .i64 0, .int .i64 0, .string { data := #[] }] := by
  simp only [gdL, catG, W_zero]
theorem i64s_kid {n cap : Nat} (xs : List Nat) (g : Nat) (h : w.ownsRow 0 3 1 (.slice (some ⟨g, 0, none⟩) n cap) n (i64s xs)) (hn : n = xs.length) : ∀ j, j < (xs.map fun k : Nat => (k : Int)).length → w.cell? ⟨g, 0 + j, none⟩ = some (.int .i64 ((xs.map fun k : Nat => (k : Int)).getD j 0)) := by
  intro j hj
  rw [List.length_map] at hj
  have := h.cellAt j (by omega)
  rw [i64s_at xs j hj] at this
  rw [Nat.zero_add, List.getD_eq_getElem?_getD, List.getElem?_map, List.getElem?_eq_getElem hj]
  rw [List.getD_eq_getElem?_getD, List.getElem?_eq_getElem hj] at this
  exact this
/-- A row's kids as a node's kids. -/
theorem Loc.kid (L : Loc w0 w b v l rv xs) (op : Int) (hx : 1 ≤ xs.length) : ∃ g c, rv = .slice (some ⟨g, 0, none⟩) xs.length c ∧ w0.heap.size ≤ g ∧ Kid w b v (catG op (xs.map fun k : Nat => (k : Int)), some ⟨g, 0, none⟩, c) := by
  obtain ⟨g, c, h1, _, h2⟩ := own_pos L.own (by omega)
  have e : rv.ownBlock = some g := by rw [h1]; rfl
  have hown := L.own
  refine ⟨g, c, h1, L.new g e, fun _ => ⟨g, 0, rfl, h2, fun q => L.nb (q ▸ e), L.nv g e, ?_⟩⟩
  rw [h1] at hown
  exact i64s_kid xs g hown rfl
set_option maxHeartbeats 400000 in
theorem join_one (L : Loc w0 w b v l rv xs) (op : Int) (k : Nat) (hx : xs = [k]) :
    Calls Tryd.prog 57 #[.pointer (some ⟨b, 0, none⟩), .int .u8 op, rv] w fun e w' => e = .returned (.int .i64 (k : Int)) ∧ w' = w := by
  subst hx
  obtain ⟨g, c, h1, -, hk⟩ := L.kid op (by simp)
  obtain ⟨q, off, h2, -, -, -, h3⟩ := hk (by simp [catG])
  cases h2
  have hc := h3 0 (by simp [catG])
  have hc' : w.cell? ⟨g, 0, none⟩ = some (.int .i64 (k : Int)) := hc
  subst h1
  clear h3 hk hc L
  go_enter Tryd.func57, Tryd.ntmps57
  go_wp2
  go_ret
  exact ⟨rfl, rfl⟩
set_option maxHeartbeats 400000 in
theorem join_more (p : PS w b s i er pl d v l) (L : Loc w0 w b v l rv xs) (hl : l.length ≤ 100000) (op : Int) (hx : 2 ≤ xs.length) (hx2 : xs.length ≤ 100000) :
    Calls Tryd.prog 57 #[.pointer (some ⟨b, 0, none⟩), .int .u8 op, rv] w fun e w' => e = .returned (.int .i64 (l.length : Int)) ∧ ∃ v' x, PS w' b s i er pl d v' (l ++ [x]) ∧ x.1 = catG op (xs.map fun k : Nat => (k : Int)) ∧ (∀ y, x.2.1 = some y → x.1.l ≠ [] → w0.heap.size ≤ y.block) ∧ Fr b v v' w w' := by
  obtain ⟨g, c, h1, hg, hk⟩ := L.kid op (by omega)
  have ha := Ad.add_any p _ _ c hk hl
  rw [cat_lit] at ha
  subst h1
  rw [List.length_map] at ha
  generalize xs.length = n at *
  have hn1 : ((n : Int) == 1) = false := by simp; omega
  clear L hk
  go_enter Tryd.func57, Tryd.ntmps57
  go_wp2_with fail
  refine ha.mono ?_
  rintro e w1 ⟨rfl, v', p1, f1⟩
  have HP := hidd p1
  clear ha p1
  go_wp2
  go_ret
  exact ⟨rfl, v', _, HP.out, rfl, fun y hy _ => by cases hy; exact hg, f1⟩

/-- A node of a set. -/
def setG (q : Nat → Bool) : Gd := ⟨2, q, [], 0, 0, ⟨#[]⟩⟩
set_option maxHeartbeats 400000 in
theorem oneof_any (p : PS w b s i er pl d v l) (hl : l.length ≤ 100000) (q : Nat → Bool) :
    Calls Tryd.prog 88 #[.pointer (some ⟨b, 0, none⟩), .agg #[.int .u64 (W (q) 0), .int .u64 (W (q) 1), .int .u64 (W (q) 2), .int .u64 (W (q) 3)], .bool true] w fun e w' => e = .returned (.tuple #[.int .i64 (l.length : Int), .bool true]) ∧ ∃ v', PS w' b s i er pl d v' (l ++ [(setG q, none, 0)]) ∧ Fr b v v' w w' := by
  have p1 := p.alloc (.cells (#[.int .u64 (W (q) 0), .int .u64 (W (q) 1), .int .u64 (W (q) 2), .int .u64 (W (q) 3)]) 28)
  have f1 := Fr.of ((Touch.refl b b w).alloc (.cells (#[.int .u64 (W (q) 0), .int .u64 (W (q) 1), .int .u64 (W (q) 2), .int .u64 (W (q) 3)]) 28)) v
  go_enter Tryd.func88, Tryd.ntmps88
  go_wp2_with fail
  generalize w.alloc (.cells (#[.int .u64 (W (q) 0), .int .u64 (W (q) 1), .int .u64 (W (q) 2), .int .u64 (W (q) 3)]) 28) = w1 at *
  refine (Ad.add_any p1 (setG q) none 0 (fun h => absurd rfl h) hl).mono ?_
  rintro e w2 ⟨rfl, v', p2, f2⟩
  have f := f1.trans f2
  clear f1 f2 p1
  go_wp2
  go_ret2
  exact ⟨rfl, v', p2, f⟩
set_option maxHeartbeats 400000 in
theorem oneof_no (w : World) (b : Nat) (q : Nat → Bool) :
    Calls Tryd.prog 88 #[.pointer (some ⟨b, 0, none⟩), .agg #[.int .u64 (W (q) 0), .int .u64 (W (q) 1), .int .u64 (W (q) 2), .int .u64 (W (q) 3)], .bool false] w fun e w' => e = .returned (.tuple #[.int .i64 0, .bool false]) ∧ Below w.heap.size w w' := by
  go_enter Tryd.func88, Tryd.ntmps88
  go_wp2
  go_ret2
  exact ⟨rfl, (Below.refl _ _).alloc (Nat.le_refl _) _⟩
end

end Go.Proofs.YtghjkbjpdjlddaaDoor.Sy

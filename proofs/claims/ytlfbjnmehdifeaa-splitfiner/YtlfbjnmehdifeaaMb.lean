/- An append to a slice that the call made, and the slice itself reads as it did; slots that hold bytes and sets, kept over such an append. -/
import Derived.Test.YtlfbjnmehdifeaaRi
import Derived.Test.YtlfbjnmehdifeaaSl
namespace Go.Proofs.Ytlfbjnmehdifeaa
open Go.RowKit

section
variable {P : Program} (w : World)
theorem append_old (base : Nat) (t ty e : TypeId) (i : TypeInfo) (z : Value) (size bytes : Nat) (ht : P.underlying t = some (.slice e)) (hi : P.info? e = some i) (hz : i.zero = some z)
    (hsize : i.size = size) (hby : i.bytes = bytes) (hzs : z.cells.size = size) (hsz : 0 < size)
    (v : Value) (n : Nat) (xs : List Value) (hown : w.ownsRow base e size v n xs)
    (a : Addr) (m c : Nat) (news : List Value) (hl : news.length = m * size) (hnews : ∀ j u, news[j]? = some u → w.cell? (a.add j) = some u) (h1 : ∀ u ∈ news, u.oneCell' = true)
    (h63 : n + m ≤ maxLen) (hbytes : (n + m) * bytes ≤ 140737488355328) (hbase : base ≤ w.heap.size) :
    ∃ v' w', (Builtin.append_ #[t, t] ty #[v, .slice (some a) m c]).run P w = .ok v' w' ∧ w'.ownsRow base e size v' (n + m) (xs ++ news) ∧ w'.ownsRow base e size v n xs ∧ w.grownBy w' v.ownBlock := by
  obtain ⟨v', w', hr, h2, h3, _⟩ := run_append_own (P := P) w base t ty e i z size bytes ht hi hz hsize hby hzs hsz v n xs hown a m c news hl hnews h1 h63 hbytes hbase
  refine ⟨v', w', hr, h2, ?_, h3⟩
  subst hsize
  subst hby
  rcases hown.2 with ⟨rfl, rfl⟩ | ⟨g, cap, cur, rfl, hbg, hg, hnc, hcm, hcs, htake⟩
  · exact ⟨hown.1, .inl ⟨rfl, rfl⟩⟩
  · by_cases hroom : n + m ≤ cap
    · have hfit : n * i.size + news.length ≤ cur.size := by rw [hl, hcs, ← Nat.add_mul]; exact Nat.mul_le_mul_right _ hroom
      have hr2 := run_append_room (P := P) w t ty e i ht hi g n cap cur hg a m c news hl hnews h1 hroom hfit
      rw [hr] at hr2
      injection hr2 with _ e2
      subst e2
      refine ⟨hown.1, .inr ⟨g, cap, _, rfl, hbg, setRow_heap w g cur _ e _ hg, hnc, hcm, ?_, ?_⟩⟩
      · simp only [List.size_toArray, List.length_append, List.length_take, List.length_drop, Array.length_toList]
        omega
      · rw [htake]
        simp only [List.append_assoc]
        rw [← hown.1]
        exact List.take_left
    · have holds : ∀ j u, xs[j]? = some u → w.cell? ((⟨g, 0, none⟩ : Addr).add j) = some u := hown.cells (g := g) rfl
      have hr2 := run_append_grow (P := P) w t ty e i z ht hi hz ⟨g, 0, none⟩ n cap xs hown.1 holds a m c news hl hnews (by omega) (by simp only [maxLen] at h63; omega) (growslice_fits (by omega) hbytes)
      rw [hr] at hr2
      injection hr2 with _ e2
      subst e2
      exact World.ownsRow.alloc (w := w.drew) hown _

theorem wp_append_old {o : Oper} {a : Act} {K : Act → World → Prop} {Q : Exit → Act → World → Prop} (s x : Operand) (t : TypeId)
    (ho : o.op = .call { callee := .builtin .append, args := #[s, x], argTypes := #[t, t] })
    (base : Nat) (e : TypeId) (i : TypeInfo) (z : Value) (size bytes : Nat) (ht : P.underlying t = some (.slice e)) (hi : P.info? e = some i) (hz : i.zero = some z)
    (hsize : i.size = size) (hby : i.bytes = bytes) (hzs : z.cells.size = size) (hsz : 0 < size)
    (v : Value) (n : Nat) (xs : List Value) (hs : a.eval s = v) (hown : w.ownsRow base e size v n xs)
    (ad : Addr) (m c : Nat) (news : List Value) (hx : a.eval x = .slice (some ad) m c) (hl : news.length = m * size) (hnews : ∀ j u, news[j]? = some u → w.cell? (ad.add j) = some u) (h1 : ∀ u ∈ news, u.oneCell' = true)
    (h63 : n + m ≤ maxLen) (hbytes : (n + m) * bytes ≤ 140737488355328) (hbase : base ≤ w.heap.size)
    (h : ∀ v' w', w'.ownsRow base e size v' (n + m) (xs ++ news) → w'.ownsRow base e size v n xs → w.grownBy w' v.ownBlock → K (a.put o.dst v') w') : o.wp P a w K Q := by
  obtain ⟨v', w', hr, h2, h3, h4⟩ := append_old (P := P) w base t o.type e i z size bytes ht hi hz hsize hby hzs hsz v n xs hown ad m c news hl hnews h1 h63 hbytes hbase
  unfold Oper.wp execOp
  simp only [ho, resolve, invoke, builtin, Sem.run_bind, Sem.run_pure, Result.andThen_ok, List.map_toArray, List.map_cons, List.map_nil, hs, hx, hr]
  exact h v' w' h2 h3 h4

/-- Nothing appended to nil. -/
theorem wp_append_none {o : Oper} {a : Act} {K : Act → World → Prop} {Q : Exit → Act → World → Prop} (s x : Operand) (t : TypeId)
    (ho : o.op = .call { callee := .builtin .append, args := #[s, x], argTypes := #[t, t] })
    (e : TypeId) (i : TypeInfo) (ht : P.underlying t = some (.slice e)) (hi : P.info? e = some i)
    (hs : a.eval s = .slice none 0 0) (A : Option Addr) (c : Nat) (hx : a.eval x = .slice A 0 c)
    (h : K (a.put o.dst (.slice none 0 0)) w) : o.wp P a w K Q := by
  have hr : (Builtin.append_ #[t, t] o.type #[.slice none 0 0, .slice A 0 c]).run P w = .ok (.slice none 0 0) w := by
    cases A <;> simp [Builtin.append_, run_underlying ht, sizeOf, typeInfo, hi, Builtin.lenOf, Builtin.firstCells, loadCells, loadCellsFrom]
  unfold Oper.wp execOp
  simp only [ho, resolve, invoke, builtin, Sem.run_bind, Sem.run_pure, Result.andThen_ok, List.map_toArray, List.map_cons, List.map_nil, hs, hx, hr]
  exact h
end

def Byt (xs : List Int) (v : Value) (u : World) : Prop := ∃ A c, v = .slice A xs.length c ∧ Bts u u.heap.size A xs
theorem Byt.below {xs : List Int} {v : Value} {u u' : World} (h : Byt xs v u) (hb : Below u.heap.size u u') : Byt xs v u' := by
  obtain ⟨A, c, rfl, hs⟩ := h
  exact ⟨A, c, rfl, (hs.below hb).more hb.size⟩
def One (row : Option Nat) (b : Int) (v : Value) (u : World) : Prop := ∃ g, v = .slice (some ⟨g, 0, none⟩) 1 1 ∧ some g ≠ row ∧ g < u.heap.size ∧ u.cell? ⟨g, 0, none⟩ = some (.int .u8 b)
theorem One.grown {row r : Option Nat} {b : Int} {v : Value} {u u' : World} (h : One row b v u) (hg : u.grownBy u' r) (hr : r = none ∨ r = row) : One row b v u' := by
  obtain ⟨g, rfl, hne, hlt, hc⟩ := h
  have hn : some g ≠ r := by rcases hr with rfl | rfl; exact (nofun); exact hne
  exact ⟨g, rfl, hne, Nat.lt_of_lt_of_le hlt hg.size, hg.cell hc hn⟩
theorem One.new (row : Option Nat) (b : Int) (u : World) (hr : ∀ k, row = some k → k < u.heap.size) : One row b (.slice (some ⟨u.heap.size, 0, none⟩) 1 1) (u.alloc (.cells #[.int .u8 b] 5)) :=
  ⟨u.heap.size, rfl, fun e => by have := hr _ e.symm; omega, by simp, by rw [World.cell?_alloc_new]; rfl⟩
theorem One.byt {row : Option Nat} {b : Int} {v : Value} {u : World} (h : One row b v u) (b0 : 0 ≤ b) (b1 : b ≤ 255) : Byt [b] v u := by
  obtain ⟨g, rfl, hne, hlt, hc⟩ := h
  exact ⟨_, 1, rfl, by simp; omega, fun _ => ⟨g, 0, rfl, hlt, fun i hi => by
    have : i = 0 := by simp at hi; omega
    subst this; exact hc⟩⟩
def Two (row : Option Nat) (p q : Nat → Bool) (v : Value) (u : World) : Prop := ∃ g, v = .slice (some ⟨g, 0, none⟩) 2 2 ∧ some g ≠ row ∧ g < u.heap.size ∧ Sts u u.heap.size (some ⟨g, 0, none⟩) [p, q]
theorem Two.grown {row r : Option Nat} {p q : Nat → Bool} {v : Value} {u u' : World} (h : Two row p q v u) (hg : u.grownBy u' r) (hr : r = none ∨ r = row) : Two row p q v u' := by
  obtain ⟨g, rfl, hne, hlt, hc⟩ := h
  have hn : some g ≠ r := by rcases hr with rfl | rfl; exact (nofun); exact hne
  refine ⟨g, rfl, hne, Nat.lt_of_lt_of_le hlt hg.size, fun hx => ?_⟩
  obtain ⟨g', off, e, _, hh⟩ := hc hx
  cases e
  exact ⟨g, 0, rfl, Nat.lt_of_lt_of_le hlt hg.size, fun i hi k hk => hg.cell (hh i hi k hk) hn⟩
theorem Two.new (row : Option Nat) (p q : Nat → Bool) (u : World) (hr : ∀ k, row = some k → k < u.heap.size) : Two row p q (.slice (some ⟨u.heap.size, 0, none⟩) 2 2) (u.alloc (.cells #[.int .u64 (W p 0), .int .u64 (W p 1), .int .u64 (W p 2), .int .u64 (W p 3), .int .u64 (W q 0), .int .u64 (W q 1), .int .u64 (W q 2), .int .u64 (W q 3)] 33)) :=
  ⟨u.heap.size, rfl, fun e => by have := hr _ e.symm; omega, by simp, sts2 p q u⟩
theorem Two.sl {row : Option Nat} {p q : Nat → Bool} {v : Value} {u : World} (h : Two row p q v u) : Sl [p, q] v u := by
  obtain ⟨g, rfl, hne, hlt, hc⟩ := h
  exact ⟨_, 2, rfl, hc⟩
theorem of_byt {xs : List Int} {v : Value} {w : World} (h : Byt xs v w) (hl : xs.length ≤ 1000000) :
    Calls Try.prog 29 #[v] w fun e w' => e = .returned (.agg #[.int .u64 (W (inB xs) 0), .int .u64 (W (inB xs) 1), .int .u64 (W (inB xs) 2), .int .u64 (W (inB xs) 3)]) ∧ Below w.heap.size w w' := by
  obtain ⟨A, c, rfl, hs⟩ := h
  exact of_any A c xs w hs hl

/-- Steps 56 and 71 write into the row, the others make memory only. -/
def wr2 (d : Option Nat) : Bool := d == some 56 || d == some 71
def Eby (row : Option Nat) (d : Option Nat) (u u' : World) : Prop := if wr2 d = true then u.grownBy u' row else Below u.heap.size u u'
def oky (t : Nat) (d : Option Nat) : Bool := !((t == 56 || t == 71) && wr2 d)
theorem bel_grown {u u' : World} (h : Below u.heap.size u u') : u.grownBy u' none := ⟨h.os, h.tape, h.output, h.size, fun k hk _ => h.block k hk⟩
theorem Eby.grown {row d : Option Nat} {u u' : World} (h : Eby row d u u') : ∃ r, u.grownBy u' r ∧ (r = none ∨ r = row) := by
  unfold Eby at h
  split at h
  · exact ⟨row, h, .inr rfl⟩
  · exact ⟨none, bel_grown h, .inl rfl⟩
theorem Eby.below {row d : Option Nat} {u u' : World} (h : Eby row d u u') (hd : wr2 d = false) : Below u.heap.size u u' := by
  unfold Eby at h
  rw [if_neg (by rw [hd]; exact Bool.false_ne_true)] at h
  exact h

/-- Memory while the last region runs. -/
structure BySt (w : World) (base gs : Nat) (bk : Value) (A : Option Addr) (x : List Int) (v : World) : Prop where
  own : v.ownsRow base 5 1 bk x.length (u8s x.reverse)
  lst : Bts v w.heap.size A x
  box : Box1 v gs (inB x)
  far : some gs ≠ bk.ownBlock
  bel : Below w.heap.size w v
  base1 : w.heap.size ≤ base
  base2 : base ≤ v.heap.size
  nil : x = [] → bk = .slice none 0 0
section
variable {w : World} {base gs : Nat} {bk : Value} {A : Option Addr} {x : List Int} {v v' : World}
theorem BySt.below (h : BySt w base gs bk A x v) (hb : Below v.heap.size v v') : BySt w base gs bk A x v' :=
  ⟨own_below h.own hb (Nat.le_refl _), h.lst.below (hb.mono h.bel.size), h.box.below hb, h.far, h.bel.trans (hb.mono h.bel.size), h.base1, Nat.le_trans h.base2 hb.size, h.nil⟩
theorem BySt.grown (h : BySt w base gs bk A x v) (hg : v.grownBy v' bk.ownBlock) (ho : v'.ownsRow base 5 1 bk x.length (u8s x.reverse)) : BySt w base gs bk A x v' := by
  have hlt := h.own.lt
  have hsz := h.bel.size
  have hb : Below w.heap.size w v' := h.bel.grown hg hsz fun k e => Nat.le_trans h.base1 (hlt k e).1
  refine ⟨ho, h.lst.keep fun p hp => ?_, ⟨?_⟩, h.far, hb, h.base1, Nat.le_trans h.base2 hg.size, h.nil⟩
  · exact World.cell?_of_block (hg.block p.block (by omega) fun e => by have := (hlt _ e.symm).1; have := h.base1; omega)
  · exact h.box.r0.grown hg h.far
theorem BySt.drew (h : BySt w base gs bk A x v) : BySt w base gs bk A x v.drew := ⟨h.own, h.lst.keep fun _ _ => rfl, h.box.drew, h.far, h.bel.drew, h.base1, h.base2, h.nil⟩
theorem BySt.row (h : BySt w base gs bk A x v) : ∀ k, bk.ownBlock = some k → k < v.heap.size := fun k e => (h.own.lt k e).2

theorem byt_own {u : World} {base : Nat} {v : Value} {xs : List Int} {n : Nat} (h : u.ownsRow base 5 1 v n (u8s xs)) (hn : n = xs.length) (hx : ∀ y ∈ xs, 0 ≤ y ∧ y ≤ 255) : Byt xs v u := by
  subst hn
  obtain ⟨A, c, hv, hb⟩ := Bts.of_own h hx
  exact ⟨A, c, hv, hb⟩
theorem add_off (g off j : Nat) : (⟨g, off, none⟩ : Addr).add j = ⟨g, off + j, none⟩ := by
  unfold Addr.add
  split
  · subst_vars; rfl
  · rfl
theorem eby {row d : Option Nat} {u u' : World} (hd : wr2 d = false) (h : Below u.heap.size u u') : Eby row d u u' := by
  unfold Eby
  rw [if_neg (by rw [hd]; exact Bool.false_ne_true)]
  exact h
theorem ebw {row d : Option Nat} {u u' : World} (hd : wr2 d = true) (h : u.grownBy u' row) : Eby row d u u' := by
  unfold Eby
  rw [if_pos hd]
  exact h

theorem wp_app_row {o : Oper} {a : Act} {K : Act → World → Prop} {Q : Exit → Act → World → Prop} (s t n c : Nat)
    (ho : o.op = .call { callee := .builtin .append, args := #[.tmp s, .tmp t], argTypes := #[35, 35] })
    (hS : BySt w base gs bk A x v) (e0 : a.tmps[s]? = some bk) (e1 : a.tmps[t]? = some (.slice A n c)) (EB : Hid (x.length = n)) (hn : n ≤ 300)
    (h : ∀ v' u', Byt (x.reverse ++ x) v' u' → BySt w base gs bk A x u' → v.grownBy u' bk.ownBlock → K (a.put o.dst v') u') : o.wp Try.prog a v K Q := by
  obtain ⟨i0, hi0, hz0, hz1, hz2⟩ := info_parts byte_info
  have EB := EB.out
  subst EB
  by_cases hx : x = []
  · have hnil := hS.nil hx
    have e1' : a.tmps[t]? = some (.slice A 0 c) := by rw [e1, hx]; rfl
    refine wp_append_none v (.tmp s) (.tmp t) 35 ho 5 i0 Try.underlying35 hi0 ((eval_at e0).trans hnil) A c (eval_at e1') (h _ _ ?_ hS ⟨rfl, rfl, rfl, Nat.le_refl _, fun _ _ _ => rfl⟩)
    rw [hx]
    exact ⟨none, 0, rfl, by simp, by simp⟩
  · obtain ⟨g, off, rfl, hg, hc⟩ := hS.lst.2 hx
    have hby := hS.lst.1
    refine wp_append_old v (.tmp s) (.tmp t) 35 ho base 5 i0 (.int .u8 0) 1 1 Try.underlying35 hi0 hz0 hz1 hz2 rfl (by omega) bk x.length (u8s x.reverse) (eval_at e0) hS.own ⟨g, off, none⟩ x.length c (u8s x) (eval_at e1) (by simp [u8s]) ?_ ?_ (by simp only [maxLen]; omega) (by omega) hS.base2 ?_
    · intro j u hj
      rw [add_off]
      unfold u8s at hj
      rw [List.getElem?_map] at hj
      have hjl : j < x.length := by
        rcases Nat.lt_or_ge j x.length with hl | hl
        · exact hl
        · rw [List.getElem?_eq_none hl] at hj; cases hj
      rw [hc j hjl, List.getD_eq_getElem?_getD]
      rw [List.getElem?_eq_getElem hjl] at hj ⊢
      exact hj
    · intro u hu
      unfold u8s at hu
      obtain ⟨y, _, rfl⟩ := List.mem_map.1 hu
      simp [Value.oneCell']
    · intro v' u' h1 h2 h3
      refine h v' u' (byt_own (base := base) (n := x.length + x.length) ?_ (by simp) ?_) (hS.grown h3 h2) h3
      · rw [show u8s (x.reverse ++ x) = u8s x.reverse ++ u8s x from by simp [u8s]]; exact h1
      · intro y hy
        rw [List.mem_append, List.mem_reverse, or_self] at hy
        exact hby y hy

theorem wp_app_one {o : Oper} {a : Act} {K : Act → World → Prop} {Q : Exit → Act → World → Prop} (s t : Nat) {b : Int} {z : Value}
    (ho : o.op = .call { callee := .builtin .append, args := #[.tmp s, .tmp t], argTypes := #[35, 35] })
    (hS : BySt w base gs bk A x v) (e0 : a.tmps[s]? = some bk) (e1 : a.tmps[t]? = some z) (hz : One bk.ownBlock b z v) (b0 : 0 ≤ b) (b1 : b ≤ 255) (hn : Hid (x.length ≤ 300))
    (h : ∀ v' u', Byt (x.reverse ++ [b]) v' u' → BySt w base gs bk A x u' → v.grownBy u' bk.ownBlock → K (a.put o.dst v') u') : o.wp Try.prog a v K Q := by
  obtain ⟨i0, hi0, hz0, hz1, hz2⟩ := info_parts byte_info
  obtain ⟨g, rfl, hne, hlt, hc⟩ := hz
  have hby := hS.lst.1
  have hn := hn.out
  refine wp_append_old v (.tmp s) (.tmp t) 35 ho base 5 i0 (.int .u8 0) 1 1 Try.underlying35 hi0 hz0 hz1 hz2 rfl (by omega) bk x.length (u8s x.reverse) (eval_at e0) hS.own ⟨g, 0, none⟩ 1 1 (u8s [b]) (eval_at e1) (by simp [u8s]) ?_ ?_ (by simp only [maxLen]; omega) (by omega) hS.base2 ?_
  · intro j u hj
    rw [add_at]
    cases j with
    | zero => cases hj; exact hc
    | succ j => cases hj
  · intro u hu
    unfold u8s at hu
    obtain ⟨y, _, rfl⟩ := List.mem_map.1 hu
    simp [Value.oneCell']
  · intro v' u' h1 h2 h3
    refine h v' u' (byt_own (base := base) (n := x.length + 1) ?_ (by simp) ?_) (hS.grown h3 h2) h3
    · rw [show u8s (x.reverse ++ [b]) = u8s x.reverse ++ u8s [b] from by simp [u8s]]; exact h1
    · intro y hy
      rw [List.mem_append, List.mem_reverse] at hy
      rcases hy with hy | hy
      · exact hby y hy
      · simp at hy; subst hy; exact ⟨b0, b1⟩
end

end Go.Proofs.Ytlfbjnmehdifeaa

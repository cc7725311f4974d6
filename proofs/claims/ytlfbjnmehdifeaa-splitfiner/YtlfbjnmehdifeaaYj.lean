/- The law SplitFiner, by what the calls of split tell. -/
import Derived.Test.YtlfbjnmehdifeaaYi
import Derived.BigQuiet
import Derived.Deep.DeepCutAuto
import Derived.Deep.QuietTactic
namespace Go.Proofs.Ytlfbjnmehdifeaa.Fi
open Go.RowKit
set_option linter.unusedVariables false
abbrev PL := List (Nat → Bool)

theorem FiS.app {w : World} {base gb : Nat} {x : Nat → Bool} {ps : List (Nat → Bool)} {A : Option Addr} {o : Oper} {a : Act} {v : World} {K : Act → World → Prop} {Q : Exit → Act → World → Prop} (s t : Nat)
    (ho : o.op = .call { callee := .builtin .append, args := #[.tmp s, .tmp t], argTypes := #[22, 22] }) (hS : FiS w base gb x ps A a v) {bk z : Value} (e0 : a.tmps[s]? = some bk) (hb : Own base ps bk v) (e1 : a.tmps[t]? = some z) (hz : Sl [x] z v) (hl : ps.length ≤ 20)
    (h : ∀ v' u', Sl (ps ++ [x]) v' u' → FiS w base gb x ps A a u' → Ew base v u' → K (a.put o.dst v') u') : o.wp Try.prog a v K Q := by
  obtain ⟨A', c', rfl, hs⟩ := hz
  have hlt := hb.lt
  refine wp_app_sets s t ho base bk ps [x] A' c' hb (eval_at e0) (eval_at e1) hs (by simp; omega) hS.b2 fun v' u' h1 h2 => ?_
  have hf : ∀ k, k < base → u'.heap[k]? = v.heap[k]? := fun k hk => h2.block k (Nat.lt_of_lt_of_le hk hS.b2) fun e => by have := (hlt _ e.symm).1; omega
  refine h v' u' ?_ ⟨(hf gb hS.gbl).trans hS.box, hS.gbl, hS.lst.keep fun p hp => World.cell?_of_block (hf _ (Nat.lt_of_lt_of_le hp hS.b1)), hS.bel.grown h2 (Nat.le_trans hS.b1 hS.b2) fun k e => Nat.le_trans hS.b1 (hlt k e).1, hS.b1, Nat.le_trans hS.b2 h2.size, fun g e => Nat.lt_of_lt_of_le (hS.p8 g e) h2.size, fun g e => Nat.lt_of_lt_of_le (hS.p9 g e) h2.size, hS.far⟩ ⟨_, h2, fun k e => ⟨(hlt k e).1, ?_⟩⟩
  · obtain ⟨A4, c4, hu, hY⟩ := Sts.of_own h1
    exact ⟨A4, c4, hu, hY⟩
  · rcases hb.2 with ⟨rfl, _⟩ | ⟨g, cap, cur, rfl, hg, hh, r⟩
    · cases e
    · cases e
      exact ⟨_, _, hh⟩

theorem own_empty (w : World) (base : Nat) (hb : base ≤ w.heap.size) : Emp base (.slice (some ⟨w.heap.size, 0, none⟩) 0 0) (w.alloc (.cells #[] 33)) :=
  ⟨_, rfl, rfl, .inr ⟨w.heap.size, 0, #[], rfl, hb, heap_new w _, Nat.le_refl _, by simp [maxLen], rfl, rfl⟩⟩
theorem sl_one (p : Nat → Bool) (w : World) : Sl [p] (.slice (some ⟨w.heap.size, 0, none⟩) 1 1) (w.alloc (.cells (#[.int .u64 (W (p) 0), .int .u64 (W (p) 1), .int .u64 (W (p) 2), .int .u64 (W (p) 3)]) 33)) := by
  refine ⟨_, 1, rfl, fun _ => ⟨_, 0, rfl, by simp, fun i hi k hk => ?_⟩⟩
  have hi' : i = 0 := by simp at hi; omega
  have hk' : k = 0 ∨ k = 1 ∨ k = 2 ∨ k = 3 := by omega
  subst hi'
  rcases hk' with rfl | rfl | rfl | rfl <;> exact new_at _ _ _ _ _ rfl

def FiGV (base : Nat) (A : Option Addr) (n m c : Nat) (x : Nat → Bool) (ps : PL) (gb : Nat) (F FF : Nat → Int) (N NN : Int) (t : Nat) : Option Value :=
  match t with
  | 0 => some (.slice A n c)
  | 4 => some (.pointer (some ⟨gb, 0, none⟩))
  | 16 => some (.slice A n c)
  | 17 => some (.slice A m c)
  | 18 => some (.agg (spC F N))
  | 20 => some (.slice A n c)
  | 21 => some (.slice A m c)
  | 23 => some (.agg #[.int .u64 (W (x) 0), .int .u64 (W (x) 1), .int .u64 (W (x) 2), .int .u64 (W (x) 3)])
  | 26 => some (.agg (spC FF NN))
  | _ => none
set_option linter.unusedVariables false in
def FiGP (base : Nat) (A : Option Addr) (n m c : Nat) (x : Nat → Bool) (ps : PL) (gb : Nat) (F FF : Nat → Int) (N NN : Int) (t : Nat) : Option (Value → World → Prop) :=
  match t with
  | 8 => some (Pt base)
  | 9 => some (Pt base)
  | 19 => some (Emp base)
  | 22 => some (Own base ps)
  | 24 => some (Sl [x])
  | 25 => some (Sl (ps ++ [x]))
  | _ => none
def FiG (base : Nat) (A : Option Addr) (n m c : Nat) (x : Nat → Bool) (ps : PL) (gb : Nat) (F FF : Nat → Int) (N NN : Int) (t : Nat) (v : Value) (u : World) : Prop := (∀ z9, FiGV base A n m c x ps gb F FF N NN t = some z9 → v = z9) ∧ ∀ R, FiGP base A n m c x ps gb F FF N NN t = some R → R v u

theorem set_eql_zero (p : Nat → Bool) (w : World) : (binOp .eql 33 (.agg #[.int .u64 (W (p) 0), .int .u64 (W (p) 1), .int .u64 (W (p) 2), .int .u64 (W (p) 3)]) (.agg #[.int .u64 0, .int .u64 0, .int .u64 0, .int .u64 0])).run Try.prog w = .ok (.bool (eqB p noB)) w := by
  have h := set_eql p noB w
  rw [W_zero, W_zero, W_zero, W_zero] at h
  exact h
theorem int_info : (Try.prog.info? 3).map (fun i => (i.zero, i.size, i.bytes)) = some (some (.int .i64 0), 1, 8) := by kernel_rfl
theorem make_ints (w : World) : (Instr.makeSlice 45 (.int .i64 256) (.int .i64 256)).run Try.prog w =
    .ok (.slice (some ⟨w.heap.size, 0, none⟩) 256 256) (w.alloc (.cells (fnC 256 (fun _ => .int .i64 0)) 3)) := by
  obtain ⟨i0, hi0, hz0, hz1, hz2⟩ := info_parts int_info
  have := run_make (P := Try.prog) w 45 3 i0 _ Try.underlying45 hi0 hz0 .i64 .i64 256 256 (by omega) (Int.le_refl _) (by rw [hz2]; omega) (by omega)
  rw [this, hz1]
  have e : madeCells (Value.int .i64 0).cells (Int.toNat 256 * 1) = fnC 256 (fun _ => .int .i64 0) := by
    apply Array.ext_getElem?
    intro i
    show (madeCells (Value.int .i64 0).cells 256)[i]? = _
    by_cases hi : i < 256
    · rw [fnC_at _ _ _ hi]
      simp [madeCells, Value.cells, hi, Nat.mod_one]
    · rw [Array.getElem?_eq_none (by rw [size_madeCells]; omega), Array.getElem?_eq_none (by rw [fnC_size]; omega)]
  rw [e]
  rfl

/-- All bytes. -/
def allR : Nat → Bool := rngB 0 256
theorem range_all (w : World) : Calls Try.prog 24 #[.int .u8 0, .int .u8 255] w fun e w' => e = .returned (.agg #[.int .u64 (W (allR) 0), .int .u64 (W (allR) 1), .int .u64 (W (allR) 2), .int .u64 (W (allR) 3)]) ∧ Below w.heap.size w w' :=
  rrange_any 0 255 w (by omega) (by omega) (by omega) (by omega)
theorem of_one (x : Nat → Bool) : ∃ (G : Nat → Int) (M : Nat), (∀ u v, Sl [x] v u → Calls Try.prog 11 #[v] u fun e w' => e = .returned (.agg (spC G M)) ∧ Below u.heap.size u w') ∧ M ≤ 2 ∧ decide ((M : Int) = 1) = (eqB x allR || eqB x noB) :=
  ⟨_, _, fun u v h => of_sl [x] v u h (by simp), one_two x, one_all x⟩
theorem of_byte (y : Nat) (hy : y < 256) : ∃ (G : Nat → Int), ∀ u v, Sl [inB [(y : Int)]] v u → Calls Try.prog 11 #[v] u fun e w' => e = .returned (.agg (spC G 2)) ∧ Below u.heap.size u w' := by
  refine ⟨fun b => (clsOf (likeB [inB [(y : Int)]]) b : Int), fun u v h => ?_⟩
  have h1 := of_sl [inB [(y : Int)]] v u h (by simp)
  rw [one_byte y hy] at h1
  exact h1

theorem split_pair2 : ∃ f0 f1, Try.prog.underlying 26 = some (.struct #[f0, f1]) ∧ f1.type = 3 ∧ f1.offset = 256 := by
  obtain ⟨f0, f1, hl, _, _, _, _, t1, o1⟩ := split_fields'
  refine ⟨f0, f1, ?_, t1, o1⟩
  have h := split_under
  rw [h]
  congr 2
  apply Array.ext'
  exact hl
theorem field_many (f : Nat → Int) (m : Int) (w : World) : (Instr.field 26 (.agg (spC f m)) 1).run Try.prog w = .ok (.int .i64 m) w := by
  obtain ⟨f0, f1, hu, t1, o1⟩ := split_pair2
  have hp := run_part_plain (P := Try.prog) w int_plain (spC_many f m)
  simp [Instr.field, run_underlying hu, asAgg, t1, o1, hp]

structure ReS (w : World) (gb p13 : Nat) (x : Nat → Bool) (G : Nat → Int) (M : Int) (v : World) : Prop where
  box : Row4 v gb x
  row : RowS v p13 G M
  bel : Below w.heap.size w v
theorem ReS.below {w : World} {gb p13 : Nat} {x : Nat → Bool} {G : Nat → Int} {M : Int} {v v' : World} (h : ReS w gb p13 x G M v) (hb : Below v.heap.size v v') : ReS w gb p13 x G M v' :=
  ⟨h.box.below hb h.box.lt, h.row.below hb h.row.lt, h.bel.trans (hb.mono h.bel.size)⟩
def ReGV (gb : Nat) (x rr : Nat → Bool) (b1 b2 : Bool) (t : Nat) : Option Value :=
  match t with
  | 4 => some (.pointer (some ⟨gb, 0, none⟩))
  | 14 => some (.bool (b1 || b2))
  | 81 => some (.agg #[.int .u64 (W (x) 0), .int .u64 (W (x) 1), .int .u64 (W (x) 2), .int .u64 (W (x) 3)])
  | 82 => some (.agg #[.int .u64 (W (rr) 0), .int .u64 (W (rr) 1), .int .u64 (W (rr) 2), .int .u64 (W (rr) 3)])
  | 83 => some (.bool b1)
  | 84 => some (.bool b1)
  | 88 => some (.bool (b1 || b2))
  | _ => none
set_option linter.unusedVariables false in
def ReGP (gb : Nat) (x rr : Nat → Bool) (b1 b2 : Bool) (t : Nat) : Option (Value → World → Prop) :=
  match t with
  | 85 => some (fun v _ => b1 = false → v = .agg #[.int .u64 (W (x) 0), .int .u64 (W (x) 1), .int .u64 (W (x) 2), .int .u64 (W (x) 3)])
  | 86 => some (fun v _ => b1 = false → v = .agg #[.int .u64 0, .int .u64 0, .int .u64 0, .int .u64 0])
  | 87 => some (fun v _ => b1 = false → v = .bool b2)
  | _ => none
def ReG (gb : Nat) (x rr : Nat → Bool) (b1 b2 : Bool) (t : Nat) (v : Value) (u : World) : Prop := (∀ z9, ReGV gb x rr b1 b2 t = some z9 → v = z9) ∧ ∀ R, ReGP gb x rr b1 b2 t = some R → R v u


set_option maxRecDepth 100000 in
set_option maxHeartbeats 8000000 in
theorem finer_core (A : Option Addr) (c n m : Nat) (ps : List (Nat → Bool)) (x : Nat → Bool) (y : Nat) (w : World) (hT : Sts w w.heap.size A ps) (lc : n ≤ c) (mc : n ≤ maxLen) (hm : m ≤ 20) (el : Hid (m = min n 20)) (elm : Hid (ps.length = m)) (hy : y < 256) :
    Calls Try.prog 8 #[.slice A n c, .agg #[.int .u64 (W (x) 0), .int .u64 (W (x) 1), .int .u64 (W (x) 2), .int .u64 (W (x) 3)], .int .u8 (y : Int)] w fun e w' => e = .returned (.bool true) ∧ Below w.heap.size w w' := by
  have hfew : ∀ u, Calls Try.prog 12 #[.slice A n c] u fun e w' => e = .returned (.slice A m c) ∧ Below u.heap.size u w' := fun u => by
    have h := few_bel A n c ps u mc lc (by rw [elm.out, el.out])
    rw [elm.out] at h
    exact h
  have hO1 : ∀ u, Sts u u.heap.size A ps → Calls Try.prog 11 #[.slice A m c] u fun e w' => e = .returned (.agg (spC (fun b => (clsOf (likeB ps) b : Int)) ((frsts (likeB ps) 256).length : Int))) ∧ Below u.heap.size u w' := fun u h => by
    have h := of2_any A c ps u h (by have := elm.out; omega)
    rw [elm.out] at h
    exact h
  have hO2 := fun u v h => of_sl (ps ++ [x]) v u h (by have := elm.out; simp; omega)
  have q1 := finer_many ps x
  have q2 := finer_in ps x
  have f7 : ∀ k, k < 256 → 0 ≤ (fun b => (clsOf (likeB ps) b : Int)) k ∧ (fun b => (clsOf (likeB ps) b : Int)) k ≤ 255 := cls_byte (likeB ps)
  have f8 : ∀ k, k < 256 → 0 ≤ (fun b => (clsOf (likeB (ps ++ [x])) b : Int)) k ∧ (fun b => (clsOf (likeB (ps ++ [x])) b : Int)) k ≤ 255 := cls_byte (likeB (ps ++ [x]))
  have f9 := frsts_len (likeB (ps ++ [x])) 256
  have q3 : ∀ a b, (fun b => (clsOf (likeB (ps ++ [x])) b : Int)) a = (fun b => (clsOf (likeB (ps ++ [x])) b : Int)) b → (fun b => (clsOf (likeB ps) b : Int)) a = (fun b => (clsOf (likeB ps) b : Int)) b := fun a b h => congrArg (fun z : Nat => (z : Int)) (q2 a b (Int.ofNat_inj.1 h))
  clear q2
  generalize (fun b => (clsOf (likeB ps) b : Int)) = F at *
  generalize (fun b => (clsOf (likeB (ps ++ [x])) b : Int)) = FF at *
  generalize (frsts (likeB ps) 256).length = N at *
  generalize (frsts (likeB (ps ++ [x])) 256).length = NN at *
  have q3' := hidd q3
  have f7h := hidd f7
  have f7g := hidd f8
  clear q3 f7 f8
  go_enter Try.func8, Try.ntmps8
  go_wp2_with fail
  refine (shown2_any of2_any _).mono ?_
  rintro e w1 ⟨rfl, hb1⟩
  have D1 := bel1 hb1
  have B1 : Row4 w1 w.heap.size x := (Row4.new w x).below hb1 (by simp)
  have hsz : w.heap.size < w1.heap.size := by have := hb1.size; simp at this; omega
  clear hb1
  go_wp2
  refine wp_region_slotsA 13 (by decide) (by kernel_rfl) (by kernel_rfl) okF (FiS w w1.heap.size w.heap.size x ps A) (FiG w1.heap.size A n m c x ps w.heap.size F FF N NN) (Eby w1.heap.size) (by kernel_rfl) (by kernel_rfl) (by kernel_rfl) (by kernel_rfl) ?_ ?_ [0, 4] (by kernel_rfl) ?_ ?_ ?_
  · intro t d v u u' hok h hE
    refine ⟨h.1, fun R hR => ?_⟩
    have hh := h.2 R hR
    unfold FiGP at hR
    split at hR
    · cases hR; exact ptr_keep hh hE
    · cases hR; exact ptr_keep hh hE
    · cases hR
      obtain ⟨B, e, ho⟩ := hh
      exact ⟨B, e, own_below ho (eby_below (by simpa [okF, n25] using hok) hE) (Nat.le_refl _)⟩
    · cases hR; exact own_below hh (eby_below (by simpa [okF, n25] using hok) hE) (Nat.le_refl _)
    · cases hR; exact hh.below (eby_below (by simpa [okF, n25] using hok) hE)
    · cases hR; exact hh.below (eby_below (by simpa [okF, n25] using hok) hE)
    · cases hR
  · exact ⟨B1, hsz, hT.below (bel_drew D1), D1.drew, by omega, Nat.le_refl _, fun g e => (by cases e), fun g e => (by cases e), fun g h e _ => (by cases e)⟩
  · intro _ u _
    refine ⟨⟨_, rfl, ?_⟩, ⟨_, rfl, ?_⟩, trivial⟩ <;> exact ⟨fun _ h => Option.some.inj h, fun _ h => no_some h⟩
  · refine ⟨?_, ?_, ?_, ?_, ?_, ?_, ?_, ?_, ?_, ?_, ?_, ?_, ?_, trivial⟩
    · intro a u hS hr K hK
      obtain ⟨⟨vl0, e0, g0⟩, -⟩ := hr
      obtain rfl := g0.1 _ rfl
      clear g0
      rw [if_pos (want_none rfl)]
      unfold Oper.wp
      go_simp
      exact hK _ _ ⟨fun _ h => Option.some.inj h, fun _ h => no_some h⟩ (hS.put rfl _) (eby rfl (Below.refl _ _))
    · intro a u hS hr K hK
      obtain ⟨⟨vl0, e0, g0⟩, -⟩ := hr
      obtain rfl := g0.1 _ rfl
      clear g0
      rw [if_pos (want_none rfl)]
      unfold Oper.wp
      go_simp
      refine (hfew _).mono ?_
      rintro e u1 ⟨rfl, hb⟩
      exact hK _ _ ⟨fun _ h => Option.some.inj h, fun _ h => no_some h⟩ ((hS.below hb).put rfl _) (eby rfl hb)
    · intro a u hS hr K hK
      obtain ⟨⟨vl0, e0, g0⟩, -⟩ := hr
      obtain rfl := g0.1 _ rfl
      clear g0
      rw [if_pos (want_none rfl)]
      unfold Oper.wp
      go_simp
      refine (hO1 _ (hS.lst.more (Nat.le_trans hS.b1 hS.b2))).mono ?_
      rintro e u1 ⟨rfl, hb⟩
      exact hK _ _ ⟨fun _ h => Option.some.inj h, fun _ h => no_some h⟩ ((hS.below hb).put rfl _) (eby rfl hb)
    · intro a u hS hr K hK
      rw [if_pos (want_none rfl)]
      unfold Oper.wp
      go_simp
      exact hK _ _ ⟨fun _ h => no_some h, fun _ h => spec_ok h (own_empty _ _ hS.b2)⟩ ((hS.below ((Below.refl _ _).alloc (Nat.le_refl _) _)).put rfl _) (eby rfl ((Below.refl _ _).alloc (Nat.le_refl _) _))
    · intro a u hS hr K hK
      obtain ⟨⟨vl0, e0, g0⟩, -⟩ := hr
      obtain rfl := g0.1 _ rfl
      clear g0
      rw [if_pos (want_none rfl)]
      unfold Oper.wp
      go_simp
      exact hK _ _ ⟨fun _ h => Option.some.inj h, fun _ h => no_some h⟩ (hS.put rfl _) (eby rfl (Below.refl _ _))
    · intro a u hS hr K hK
      obtain ⟨⟨vl0, e0, g0⟩, -⟩ := hr
      obtain rfl := g0.1 _ rfl
      clear g0
      rw [if_pos (want_none rfl)]
      unfold Oper.wp
      go_simp
      refine (hfew _).mono ?_
      rintro e u1 ⟨rfl, hb⟩
      exact hK _ _ ⟨fun _ h => Option.some.inj h, fun _ h => no_some h⟩ ((hS.below hb).put rfl _) (eby rfl hb)
    · intro a u hS hr K hK
      obtain ⟨⟨vl0, e0, g0⟩, ⟨vl1, e1, g1⟩, -⟩ := hr
      replace g0 := g0.2 _ rfl
      obtain rfl := g1.1 _ rfl
      clear g1
      rw [if_pos (want_none rfl)]
      exact wp_app_fresh 19 21 rfl _ _ ps A c g0 e0 (by rw [elm.out]; exact e1) (hS.lst.more (Nat.le_trans hS.b1 hS.b2)) (by have := elm.out; omega) hS.b2 fun v1 u1 h1 h2 => hK _ _ ⟨fun _ h => no_some h, fun _ h => spec_ok h h1⟩ ((hS.below h2).put rfl _) (eby rfl h2)
    · intro a u hS hr K hK
      obtain ⟨⟨vl0, e0, g0⟩, -⟩ := hr
      obtain rfl := g0.1 _ rfl
      clear g0
      rw [if_pos (want_none rfl)]
      obtain ⟨c0, c1, c2, c3⟩ := hS.box.cells
      unfold Oper.wp
      go_simp
      exact hK _ _ ⟨fun _ h => Option.some.inj h, fun _ h => no_some h⟩ (hS.put rfl _) (eby rfl (Below.refl _ _))
    · intro a u hS hr K hK
      obtain ⟨⟨vl0, e0, g0⟩, -⟩ := hr
      obtain rfl := g0.1 _ rfl
      clear g0
      rw [if_pos (want_none rfl)]
      unfold Oper.wp
      go_simp
      exact hK _ _ ⟨fun _ h => no_some h, fun _ h => spec_ok h (sl_one _ _)⟩ ((hS.below ((Below.refl _ _).alloc (Nat.le_refl _) _)).put rfl _) (eby rfl ((Below.refl _ _).alloc (Nat.le_refl _) _))
    · intro a u hS hr K hK
      obtain ⟨⟨vl0, e0, g0⟩, ⟨vl1, e1, g1⟩, -⟩ := hr
      replace g0 := g0.2 _ rfl
      replace g1 := g1.2 _ rfl
      rw [if_pos (want_none rfl)]
      exact hS.app 22 24 rfl e0 g0 e1 g1 (by have := elm.out; omega) fun v1 u1 h1 h2 h3 => hK _ _ ⟨fun _ h => no_some h, fun _ h => spec_ok h h1⟩ (h2.put rfl _) (by unfold Eby; rw [if_pos rfl]; exact h3)
    · intro a u hS hr K hK
      obtain ⟨⟨vl0, e0, g0⟩, -⟩ := hr
      replace g0 := g0.2 _ rfl
      rw [if_pos (want_none rfl)]
      unfold Oper.wp
      go_simp
      refine (hO2 _ _ g0).mono ?_
      rintro e u1 ⟨rfl, hb⟩
      exact hK _ _ ⟨fun _ h => Option.some.inj h, fun _ h => no_some h⟩ ((hS.below hb).put rfl _) (eby rfl hb)
    · intro a u hS hr K hK
      rw [if_pos (want_none rfl)]
      have hz := split_zero
      unfold Oper.wp
      go_simp
      exact hK _ _ ⟨fun _ h => no_some h, fun _ h => spec_ok h ⟨_, rfl, hS.b2, RowS.new _ _ _⟩⟩ (hS.new8 _) (eby rfl ((Below.refl _ _).alloc (Nat.le_refl _) _))
    · intro a u hS hr K hK
      rw [if_pos (want_none rfl)]
      have hz := split_zero
      unfold Oper.wp
      go_simp
      exact hK _ _ ⟨fun _ h => no_some h, fun _ h => spec_ok h ⟨_, rfl, hS.b2, RowS.new _ _ _⟩⟩ (hS.new9 _) (eby rfl ((Below.refl _ _).alloc (Nat.le_refl _) _))
  intro a u hS hts hd hkn hf
  obtain ⟨v8, e8, g8⟩ := hf 11 _ 8 (by decide) rfl rfl (fun d => by simp [okF])
  obtain ⟨v9, e9, g9⟩ := hf 12 _ 9 (by decide) rfl rfl (fun d => by simp [okF])
  obtain ⟨v18, e18, g18⟩ := hf 2 _ 18 (by decide) rfl rfl (fun d => by simp [okF])
  obtain ⟨v26, e26, g26⟩ := hf 10 _ 26 (by decide) rfl rfl (fun d => by simp [okF])
  obtain rfl := g18.1 _ rfl
  obtain rfl := g26.1 _ rfl
  obtain ⟨p8, rfl, hp8, R8⟩ := g8.2 _ rfl
  obtain ⟨p9, rfl, hp9, R9⟩ := g9.2 _ rfl
  clear hf g18 g26 g8 g9
  have hne := hS.far p8 p9 e8 e9
  obtain ⟨v16, e16⟩ := slot_some (t := 16) hts (by simp)
  obtain ⟨v17, e17⟩ := slot_some (t := 17) hts (by simp)
  obtain ⟨v19, e19⟩ := slot_some (t := 19) hts (by simp)
  obtain ⟨v20, e20⟩ := slot_some (t := 20) hts (by simp)
  obtain ⟨v21, e21⟩ := slot_some (t := 21) hts (by simp)
  obtain ⟨v22, e22⟩ := slot_some (t := 22) hts (by simp)
  obtain ⟨v23, e23⟩ := slot_some (t := 23) hts (by simp)
  obtain ⟨v24, e24⟩ := slot_some (t := 24) hts (by simp)
  obtain ⟨v25, e25⟩ := slot_some (t := 25) hts (by simp)
  have hA := act_puts [(8, .pointer (some ⟨p8, 0, none⟩)), (9, .pointer (some ⟨p9, 0, none⟩)), (16, v16), (17, v17), (18, .agg (spC F N)), (19, v19), (20, v20), (21, v21), (22, v22), (23, v23), (24, v24), (25, v25), (26, .agg (spC FF NN))] hts hd hkn (by kernel_rfl) (by simp [e8, e9, e16, e17, e18, e19, e20, e21, e22, e23, e24, e25, e26])
  refine wpList_store_row rfl 26 (.tmp 8) (.tmp 18) rfl p8 (spC F N) (eval_at e8) (eval_at e18) 26 _ R8 (split_info _ _) (by rw [spC_size, spC_size]) (spC_one _ _) ?_
  have T8 := R8.row F N
  have T9 := R9.apart (j := p8) (spC F N) (fun e => hne e.symm)
  refine wpList_store_row rfl 26 (.tmp 9) (.tmp 26) rfl p9 (spC FF NN) (eval_at e9) (eval_at e26) 26 _ T9 (split_info _ _) (by rw [spC_size, spC_size]) (spC_one _ _) ?_
  have U8 := T8.apart (j := p9) (spC FF NN) hne
  have U9 := T9.row FF NN
  have D2 := bel_setRow (bel_setRow hS.bel p8 (spC F N) (Nat.le_trans hS.b1 hp8)) p9 (spC FF NN) (Nat.le_trans hS.b1 hp9)
  have B2 : Row4 ((u.setRow p8 (spC F N)).setRow p9 (spC FF NN)) w.heap.size x := (setRow_other _ _ _ _ (by omega)).trans ((setRow_other _ _ _ _ (by omega)).trans hS.box)
  have hb2 : w1.heap.size ≤ ((u.setRow p8 (spC F N)).setRow p9 (spC FF NN)).heap.size := by have := hS.b2; simpa using this
  generalize (u.setRow p8 (spC F N)).setRow p9 (spC FF NN) = w2 at *
  clear T8 T9 R8 R9 hS hts hd hkn e8 e9 e16 e17 e18 e19 e20 e21 e22 e23 e24 e25 e26 hO1 hO2 hfew
  refine wpList_nil ?_
  subst hA
  have m8 := U8.many
  have m9 := U9.many
  have hl8 := U8.lt
  have hl9 := U9.lt
  have hc1 : decide ((NN : Int) < (N : Int)) = false := by simp; omega
  have hc2 : decide ((256 : Int) < (NN : Int)) = false := by simp; omega
  have hc3 : decide (2 * (N : Int) < (NN : Int)) = false := by simp; omega
  have hmk := make_ints
  have gd := guard27
  obtain ⟨G, M, hO3, hM2, hM1⟩ := of_one x
  obtain ⟨G2, hO4⟩ := of_byte y hy
  simp only [Exit.then]
  apply_assumption
  simp only [List.foldl, List.setIfInBounds_toArray, List.set_cons_zero, List.set_cons_succ, Act.put]
  go_upto_region 3 with fail
  go_cut [40] (fun s40 wx => s40 = .bool false ∧ w2 = wx)
  case first =>
    rcases Nat.lt_or_ge 256 (2 * N) with hmin | hmin
    · have hmin2 : 256 < (2 * (N : Int)) := by omega
      go_wp2
      go_meet
      exact ⟨by rw [decide_eq_false (by omega)], rfl⟩
    · have hmin2 : (2 * (N : Int)) ≤ 256 := by omega
      go_wp2
      go_meet
      exact ⟨by rw [decide_eq_false (by omega)], rfl⟩
  case rest =>
    obtain ⟨rfl, rfl⟩ := hcut
    go_wp2
    go_loopw [42] (fun i wr => ∃ k : Nat, k ≤ 256 ∧ i = .int .i64 k ∧ RowF wr w2.heap.size 3 256 (fun j => .int .i64 (wasF F FF j k)) ∧ RowS wr p8 F N ∧ RowS wr p9 FF NN ∧ Row4 wr w.heap.size x ∧ Below w.heap.size w wr) (fun i _ => 256 - (intOf i).toNat)
    case atStart => exact ⟨0, Nat.zero_le _, rfl, (RowF.new w2 3 256 _).congr (fun i _ => rfl), U8.alloc _, U9.alloc _, B2.alloc _, D2.alloc (by omega) _⟩
    case round =>
      obtain ⟨k, hk0, rfl, R, V8, V9, B, hb⟩ := hrel
      by_cases hlt : k < 256
      · have z1 := f7h.out k hlt
        have z2 := f7g.out k hlt
        have r8 := V8.at_ k hlt
        have r9 := V9.at_ k hlt
        have HW : Hid (wasF F FF (FF k).toNat k = 0 ∨ wasF F FF (FF k).toNat k = F k + 1) := by
          rcases was_cases F FF (FF k).toNat k with h | ⟨a, _, h1, h2⟩
          · exact .inl h
          · exact .inr (by rw [h2, q3'.out a k (by omega)])
        have HP : Hid (∀ j : Nat, wasF F FF j (k + 1) = if FF k = (j : Int) then F k + 1 else wasF F FF j k) := fun _ => rfl
        have hk5 : (k : Int) < 256 := by omega
        generalize hFk : F k = fk at *
        obtain ⟨t, ht⟩ : ∃ t : Nat, FF k = t := ⟨(FF k).toNat, by omega⟩
        rw [ht] at r9 HW HP z2
        rw [Int.toNat_natCast] at HW
        have ht5 : (t : Int) < 256 := by omega
        have cw := R.at_ t (by omega)
        have th := R.thawed
        rcases HW.out with h | h
        · rw [h] at cw
          go_wp2
          go_quiet (fail)
          go_wp2
          refine ⟨⟨k + 1, by omega, rfl, ?_, RowS.far V8 (by simp; omega) _, RowS.far V9 (by simp; omega) _, Row4.far (Row4.drewN B _) (by simp; omega) _, (bel_drewN hb _).setCell (by simp; omega) _⟩, by simp [intOf]; omega⟩
          refine (RowF.put (w := wr.drewN _) R t (.int .i64 (fk + 1))).congr fun i _ => ?_
          show (if i = t then Value.int .i64 (fk + 1) else .int .i64 (wasF F FF i k)) = .int .i64 (wasF F FF i (k + 1))
          rw [HP.out i]
          by_cases hi : i = t
          · rw [if_pos hi, if_pos (by omega)]
          · rw [if_neg hi, if_neg (by omega)]
        · rw [h] at cw
          have hnz : (fk + 1 != 0) = true := by simp; omega
          have hw1 : IntKind.i64.wrap fk = fk := by rw [IntKind.wrap_i64]; omega
          have hw2 : IntKind.i64.wrap (fk + 1) = fk + 1 := by rw [IntKind.wrap_i64]; omega
          have hw3 : (fk + 1 != IntKind.i64.wrap (IntKind.i64.wrap fk + 1)) = false := by rw [hw1, hw2]; simp
          go_wp2
          go_quiet (fail)
          go_wp2
          refine ⟨⟨k + 1, by omega, rfl, ?_, RowS.far V8 (by simp; omega) _, RowS.far V9 (by simp; omega) _, Row4.far (Row4.drewN B _) (by simp; omega) _, (bel_drewN hb _).setCell (by simp; omega) _⟩, by simp [intOf]; omega⟩
          refine (RowF.put (w := wr.drewN _) R t (.int .i64 (fk + 1))).congr fun i _ => ?_
          show (if i = t then Value.int .i64 (fk + 1) else .int .i64 (wasF F FF i k)) = .int .i64 (wasF F FF i (k + 1))
          rw [HP.out i]
          by_cases hi : i = t
          · rw [if_pos hi, if_pos (by omega)]
          · rw [if_neg hi, if_neg (by omega)]
      · have hk2 : k = 256 := by omega
        subst hk2
        obtain ⟨c0, c1, c2, c3⟩ := B.cells
        go_wp2_with fail
        refine (hO3 _ _ (sl_one x wr)).mono ?_
        rintro e w4 ⟨rfl, hb4⟩
        have hb4 := bel1 hb4
        have B4 := B.below hb4 B.lt
        have D4 := hb.trans (hb4.mono hb.size)
        clear R V8 V9 B hb hb4 c0 c1 c2 c3
        have hz := split_zero
        have Z := RowS.new w4 (fun _ => 0) 0
        have D5 := bel_setRow (D4.alloc D4.size (.cells (spC (fun _ => 0) 0) 26)) w4.heap.size (spC G M) D4.size
        have R5 := Z.row G (M : Int)
        have B5 : Row4 ((w4.alloc (.cells (spC (fun _ => 0) 0) 26)).setRow w4.heap.size (spC G M)) w.heap.size x := (setRow_other _ _ _ _ (by have := B4.lt; omega)).trans (B4.alloc _)
        go_wp2_with (refine wpList_store_row rfl 26 (.tmp 13) (.tmp 80) rfl w4.heap.size (spC G M) rfl rfl 26 (spC (fun _ => 0) 0) Z (split_info _ _) (by rw [spC_size, spC_size]) (spC_one _ _) ?_)
        clear Z D4 B4
        generalize (w4.alloc (.cells (spC (fun _ => 0) 0) 26)).setRow w4.heap.size (spC G M) = w5 at *
        generalize w4.heap.size = p13 at *
        have E1 := set_eql x allR
        have E2 := set_eql_zero x
        have hM : M = 0 ∨ M = 1 ∨ M = 2 := by omega
        have hRA := range_all
        generalize allR = rr at *
        generalize eqB x rr = b1 at *
        generalize eqB x noB = b2 at *
        refine wp_region_slots (ReS w w.heap.size p13 x G M) (ReG w.heap.size x rr b1 b2) (by kernel_rfl) (by kernel_rfl) (by kernel_rfl) ?_ ⟨B5, R5, bel_drew D5⟩ [4] (by kernel_rfl) ?_ ?_ ?_
        · intro t v u u' h hb
          refine ⟨h.1, fun R hR => ?_⟩
          have hh := h.2 R hR
          unfold ReGP at hR
          split at hR
          · cases hR; exact hh
          · cases hR; exact hh
          · cases hR; exact hh
          · cases hR
        · intro u _
          refine ⟨⟨_, rfl, ?_⟩, trivial⟩
          exact ⟨fun _ h => Option.some.inj h, fun _ h => no_some h⟩
        · refine ⟨?_, ?_, ?_, ?_, ?_, ?_, ?_, ?_, ?_, trivial⟩
          · intro a u hS hr K hK
            obtain ⟨⟨vl0, e0, g0⟩, -⟩ := hr
            obtain rfl := g0.1 _ rfl
            clear g0
            rw [if_pos (want_none rfl)]
            obtain ⟨c0, c1, c2, c3⟩ := hS.box.cells
            unfold Oper.wp
            go_simp
            exact hK _ _ ⟨fun _ h => Option.some.inj h, fun _ h => no_some h⟩ hS (Below.refl _ _)
          · intro a u hS hr K hK
            rw [if_pos (want_none rfl)]
            unfold Oper.wp
            go_simp
            refine (hRA _).mono ?_
            rintro e u1 ⟨rfl, hb⟩
            exact hK _ _ ⟨fun _ h => Option.some.inj h, fun _ h => no_some h⟩ (hS.below hb) hb
          · intro a u hS hr K hK
            obtain ⟨⟨vl0, e0, g0⟩, ⟨vl1, e1, g1⟩, -⟩ := hr
            obtain rfl := g0.1 _ rfl
            clear g0
            obtain rfl := g1.1 _ rfl
            clear g1
            rw [if_pos (want_none rfl)]
            have z := E1
            have hg := guard27
            unfold Oper.wp
            go_simp
            exact hK _ _ ⟨fun _ h => Option.some.inj h, fun _ h => no_some h⟩ hS (Below.refl _ _)
          · intro a u hS hr K hK
            obtain ⟨⟨vl0, e0, g0⟩, -⟩ := hr
            obtain rfl := g0.1 _ rfl
            clear g0
            rw [if_pos (want_none rfl)]
            unfold Oper.wp
            go_simp
            exact hK _ _ ⟨fun _ h => Option.some.inj h, fun _ h => no_some h⟩ hS (Below.refl _ _)
          · intro a u hS hr K hK
            obtain ⟨⟨vl0, e0, g0⟩, ⟨vl1, e1, g1⟩, -⟩ := hr
            obtain rfl := g0.1 _ rfl
            clear g0
            obtain rfl := g1.1 _ rfl
            clear g1
            cases b1
            · rw [if_pos (want_some rfl rfl rfl e1)]; obtain ⟨c0, c1, c2, c3⟩ := hS.box.cells; unfold Oper.wp; go_simp; exact hK _ _ ⟨fun _ h => no_some h, fun _ h => spec_ok h (fun _ => rfl)⟩ hS (Below.refl _ _)
            · rw [if_neg (unwant rfl rfl rfl e1 (by decide))]; exact hK _ _ ⟨fun _ h => no_some h, fun _ h => spec_ok h (fun h => by cases h)⟩ hS (Below.refl _ _)
          · intro a u hS hr K hK
            obtain ⟨⟨vl0, e0, g0⟩, -⟩ := hr
            obtain rfl := g0.1 _ rfl
            clear g0
            cases b1
            · rw [if_pos (want_some rfl rfl rfl e0)]; unfold Oper.wp; go_simp; exact hK _ _ ⟨fun _ h => no_some h, fun _ h => spec_ok h (fun _ => rfl)⟩ hS (Below.refl _ _)
            · rw [if_neg (unwant rfl rfl rfl e0 (by decide))]; exact hK _ _ ⟨fun _ h => no_some h, fun _ h => spec_ok h (fun h => by cases h)⟩ hS (Below.refl _ _)
          · intro a u hS hr K hK
            obtain ⟨⟨vl0, e0, g0⟩, ⟨vl1, e1, g1⟩, ⟨vl2, e2, g2⟩, -⟩ := hr
            replace g0 := g0.2 _ rfl
            replace g1 := g1.2 _ rfl
            obtain rfl := g2.1 _ rfl
            clear g2
            cases b1
            · rw [if_pos (want_some rfl rfl rfl e2)]; obtain rfl := g0 rfl; obtain rfl := g1 rfl; have z := E2; have hg := guard27; unfold Oper.wp; go_simp; exact hK _ _ ⟨fun _ h => no_some h, fun _ h => spec_ok h (fun _ => rfl)⟩ hS (Below.refl _ _)
            · rw [if_neg (unwant rfl rfl rfl e2 (by decide))]; exact hK _ _ ⟨fun _ h => no_some h, fun _ h => spec_ok h (fun h => by cases h)⟩ hS (Below.refl _ _)
          · intro a u hS hr K hK
            obtain ⟨⟨vl0, e0, g0⟩, ⟨vl1, e1, g1⟩, -⟩ := hr
            obtain rfl := g0.1 _ rfl
            clear g0
            replace g1 := g1.2 _ rfl
            rw [if_pos (want_none rfl)]
            cases b1
            · obtain rfl := g1 rfl; unfold Oper.wp; go_simp; exact hK _ _ ⟨fun _ h => Option.some.inj h, fun _ h => no_some h⟩ hS (Below.refl _ _)
            · unfold Oper.wp; go_simp; exact hK _ _ ⟨fun _ h => Option.some.inj h, fun _ h => no_some h⟩ hS (Below.refl _ _)
          · intro a u hS hr K hK
            obtain ⟨⟨vl0, e0, g0⟩, -⟩ := hr
            obtain rfl := g0.1 _ rfl
            clear g0
            rw [if_pos (want_none rfl)]
            unfold Oper.wp
            go_simp
            exact hK _ _ ⟨fun _ h => Option.some.inj h, fun _ h => no_some h⟩ hS (Below.refl _ _)
        intro a u hS hts hd hkn hf
        obtain ⟨v14, e14, g14⟩ := hf 8 _ 14 rfl rfl
        obtain rfl := g14.1 _ rfl
        obtain ⟨v81, e81⟩ := slot_some (t := 81) hts (by show _ < 111; omega)
        obtain ⟨v82, e82⟩ := slot_some (t := 82) hts (by show _ < 111; omega)
        obtain ⟨v83, e83⟩ := slot_some (t := 83) hts (by show _ < 111; omega)
        obtain ⟨v84, e84⟩ := slot_some (t := 84) hts (by show _ < 111; omega)
        obtain ⟨v85, e85⟩ := slot_some (t := 85) hts (by show _ < 111; omega)
        obtain ⟨v86, e86⟩ := slot_some (t := 86) hts (by show _ < 111; omega)
        obtain ⟨v87, e87⟩ := slot_some (t := 87) hts (by show _ < 111; omega)
        obtain ⟨v88, e88⟩ := slot_some (t := 88) hts (by show _ < 111; omega)
        have hA := act_puts [(14, .bool (b1 || b2)), (81, v81), (82, v82), (83, v83), (84, v84), (85, v85), (86, v86), (87, v87), (88, v88)] hts hd hkn (by kernel_rfl) (by simp [e14, e81, e82, e83, e84, e85, e86, e87, e88])
        have R6 := hS.row
        have D6 := hS.bel
        clear hf g14 hts hd hkn e14 e81 e82 e83 e84 e85 e86 e87 e88 hS B5 D5 R5 E1 E2 hRA
        subst hA
        have m6 := R6.many
        have hfl := field_many
        simp only [Exit.then]
        apply_assumption
        simp only [List.foldl, List.setIfInBounds_toArray, List.set_cons_zero, List.set_cons_succ, Act.put]
        generalize (b1 || b2) = b3 at *
        rcases hM with rfl | rfl | rfl <;> cases b3 <;> simp at hM1
        all_goals
          go_wp2_with fail
          refine (rof1 (y : Int) _ u (by omega) (by omega)).mono ?_
          rintro e w7 ⟨rfl, hb7⟩
          have D7 := D6.trans (hb7.mono D6.size)
          clear hb7
          go_wp2_with fail
          refine (hO4 _ _ (sl_one _ w7)).mono ?_
          rintro e w8 ⟨rfl, hb8⟩
          have D8 := D7.trans ((bel1 hb8).mono D7.size)
          clear hb8
          go_wp2
          go_ret
          exact ⟨rfl, D8⟩

theorem finer_any (A : Option Addr) (c : Nat) (l : List (Nat → Bool)) (x : Nat → Bool) (b : Int) (w : World) (hS : Sts w w.heap.size A l) (lc : l.length ≤ c) (mc : c ≤ maxLen) (b0 : 0 ≤ b) (b1 : b ≤ 255) :
    Calls Try.prog 8 #[.slice A l.length c, .agg #[.int .u64 (W (x) 0), .int .u64 (W (x) 1), .int .u64 (W (x) 2), .int .u64 (W (x) 3)], .int .u8 b] w fun e w' => e = .returned (.bool true) ∧ Below w.heap.size w w' := by
  have el : (l.take 20).length = min l.length 20 := by rw [List.length_take]; omega
  obtain ⟨y, rfl⟩ : ∃ y : Nat, b = y := ⟨b.toNat, by omega⟩
  exact finer_core A c l.length (min l.length 20) (l.take 20) x y w (hS.cut 20) lc (by omega) (by omega) rfl el (by omega)

end Go.Proofs.Ytlfbjnmehdifeaa.Fi

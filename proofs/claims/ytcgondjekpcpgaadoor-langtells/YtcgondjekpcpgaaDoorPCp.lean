/- The matcher: what its calls owe; needed. -/
import Derived.Test.YtcgondjekpcpgaaDoorPCn
namespace Go.Proofs.YtcgondjekpcpgaaDoor.Sy.Lg
open Go.RowKit Go.Proofs.YtcgondjekpcpgaaDoor.Sy.Ap Go.Proofs.YtcgondjekpcpgaaDoor.Sy.Ap.Wk
set_option maxRecDepth 100000
set_option linter.unusedVariables false

def MRet (M : MC) (F : Nat → Prop) (u u' : World) (v' : Value) (Y : Nat → Prop) : Prop := (∃ (cs : List Nat) (ms : List (Option Nat)), MI M F cs ms u') ∧ Keeps (MP M u) u u' ∧ PlX u' v' Y ∧ Off F v'
def RetQ (M : MC) (F : Nat → Prop) (u : World) (Y : Nat → Prop) (e : Ending) (u' : World) : Prop := ∃ v', e = .returned v' ∧ MRet M F u u' v' Y
/-- What is handed over. -/
structure Inp (M : MC) (F : Nat → Prop) (u : World) (v : Value) (X : Nat → Prop) : Prop where
  mi : ∃ (cs : List Nat) (ms : List (Option Nat)), MI M F cs ms u
  fl : ∀ f, F f → f < u.heap.size
  pl : PlX u v X
  off : Off F v
  le : ∀ j, X j → j ≤ M.s.size
def EndsC (M : MC) (k : Nat) : Prop := ∀ (F : Nat → Prop) (u : World) (v : Value) (X : Nat → Prop), Inp M F u v X →
  Calls Tryd.prog 31 #[.pointer (some ⟨M.mq, 0, none⟩), .int .i64 (k : Int), v] u (RetQ M F u (img (M.R k) X))
/-- The slice at kA has k at i, in the tree's memory. -/
def KidAt (M : MC) (kA : Option Addr) (i k : Nat) : Prop := ∃ b off, kA = some ⟨b, off, none⟩ ∧ b < M.B ∧ M.W0.cell? ⟨b, off + i, none⟩ = some (.int .i64 (k : Int))
abbrev Row3 := Nat × TypeId × Array Value
/-- Memory within a call of the matcher's. -/
structure FS (M : MC) (F : Nat → Prop) (w : World) (L : List Row3) (v : Value) (X : Nat → Prop) (u : World) : Prop where
  mi : ∃ (cs : List Nat) (ms : List (Option Nat)), MI M F cs ms u
  keep : Keeps (MP M w) w u
  rows : ∀ x ∈ L, RowA u x.1 x.2.1 x.2.2 ∧ x.2.1 ≠ 3 ∧ x.2.1 ≠ 94
  pl : PlX u v X
  off : Off F v
  lo : M.B ≤ w.heap.size
section
variable {M : MC} {F : Nat → Prop} {w : World} {L : List Row3} {v : Value} {X : Nat → Prop} {u u' : World}
theorem mi_row {cs : List Nat} {ms : List (Option Nat)} (h : MI M F cs ms u) {q : Nat} {t : TypeId} {c : Array Value} (r : RowA u q t c) (h1 : t ≠ 3) (h2 : t ≠ 94) (hk : Keeps (MP M u) u u') : RowA u' q t c := row_keeps r hk (h.row_off r h1 h2)
theorem FS.step (h : FS M F w L v X u) (hm : ∃ (cs : List Nat) (ms : List (Option Nat)), MI M F cs ms u') (hk : Keeps (MP M u) u u') : FS M F w L v X u' := by
  obtain ⟨cs, ms, hm0⟩ := h.mi
  exact ⟨hm, mp_trans h.keep hk, fun x hx => by
    obtain ⟨h1, h2, h3⟩ := h.rows x hx
    exact ⟨mi_row hm0 h1 h2 h3 hk, h2, h3⟩, h.pl.keeps hm0 hk, h.off, h.lo⟩
theorem FS.below (h : FS M F w L v X u) (hb : Below u.heap.size u u') : FS M F w L v X u' := by
  obtain ⟨cs, ms, hm0⟩ := h.mi
  exact h.step ⟨cs, ms, hm0.below hb⟩ (Keeps.of_below hb)
theorem FS.put (h : FS M F w L v X u) {x : Row3} (r : RowA u x.1 x.2.1 x.2.2) (h1 : x.2.1 ≠ 3) (h2 : x.2.1 ≠ 94) : FS M F w (x :: L) v X u :=
  ⟨h.mi, h.keep, fun y hy => by rcases List.mem_cons.1 hy with e | e; exact e ▸ ⟨r, h1, h2⟩; exact h.rows y e, h.pl, h.off, h.lo⟩
theorem FS.sub {L' : List Row3} (h : FS M F w L v X u) (hs : ∀ x ∈ L', x ∈ L) : FS M F w L' v X u := ⟨h.mi, h.keep, fun x hx => h.rows x (hs x hx), h.pl, h.off, h.lo⟩
theorem FS.r0 {q : Nat} {t : TypeId} {c : Array Value} {L' : List Row3} (h : FS M F w ((q, t, c) :: L') v X u) : RowA u q t c := (h.rows (q, t, c) (by simp)).1
theorem FS.r1 {x : Row3} {q : Nat} {t : TypeId} {c : Array Value} {L' : List Row3} (h : FS M F w (x :: (q, t, c) :: L') v X u) : RowA u q t c := (h.rows (q, t, c) (by simp)).1
theorem FS.r2 {x y : Row3} {q : Nat} {t : TypeId} {c : Array Value} {L' : List Row3} (h : FS M F w (x :: y :: (q, t, c) :: L') v X u) : RowA u q t c := (h.rows (q, t, c) (by simp)).1
theorem FS.r3 {x y z : Row3} {q : Nat} {t : TypeId} {c : Array Value} {L' : List Row3} (h : FS M F w (x :: y :: z :: (q, t, c) :: L') v X u) : RowA u q t c := (h.rows (q, t, c) (by simp)).1
theorem FS.start (h : Inp M F w v X) : FS M F w [] v X w := ⟨h.mi, Keeps.of_below (Below.refl _ _), (fun x hx => by cases hx), h.pl, h.off, by obtain ⟨cs, ms, hm⟩ := h.mi; exact hm.bel.size⟩
theorem FS.inp (h : FS M F w L v X u) (hf : ∀ f, F f → f < w.heap.size) (hl : ∀ j, X j → j ≤ M.s.size) : Inp M F u v X := ⟨h.mi, fun f hf2 => Nat.lt_of_lt_of_le (hf f hf2) h.keep.size, h.pl, h.off, hl⟩
/-- Other places are looked at. -/
theorem FS.turn (h : FS M F w L v X u) {v' : Value} {X' : Nat → Prop} (hp : PlX u v' X') (ho : Off F v') : FS M F w L v' X' u := ⟨h.mi, h.keep, h.rows, hp, ho, h.lo⟩
theorem FS.bel (h : FS M F w L v X u) : Below M.B M.W0 u := by
  obtain ⟨cs, ms, hm⟩ := h.mi
  exact hm.bel
theorem FS.kid (h : FS M F w L v X u) {b o k : Nat} (hb : b < M.B) (hc : M.W0.cell? ⟨b, o, none⟩ = some (.int .i64 (k : Int))) : u.cell? ⟨b, o, none⟩ = some (.int .i64 (k : Int)) := by rw [h.bel.cell (by exact hb)]; exact hc
theorem FS.mbox (h : FS M F w L v X u) : RowA u M.mq 75 M.cells := by
  obtain ⟨cs, ms, hm⟩ := h.mi
  exact hm.box
/-- A row of the call's own is written. -/
theorem FS.setRow {q : Nat} {c c' : Array Value} (h : FS M F w ((q, 58, c) :: L) v X u) (hq : w.heap.size ≤ q) (hne : ∀ x ∈ L, x.1 ≠ q) (hc : c[0]? = some (.int .i64 0)) : FS M F w ((q, 58, c') :: L) v X (u.setRow q c') := by
  have r := h.r0
  obtain ⟨cs, ms, hm⟩ := h.mi
  have hk : Keeps (fun k => k = q) u (u.setRow q c') := ⟨rfl, rfl, rfl, by simp [World.setRow], fun k hl hn => setRow_other u q k _ hn⟩
  have hB := h.lo
  have m2 : MI M F cs ms (u.setRow q c') := hm.step hk (fun k hk hl => by
    have hk : k = q := hk
    subst hk
    exact ⟨by omega, fun e => row_neq r hm.box (by decide) e, hm.row_off r (by decide) (by decide), .inr ⟨_, r.at_ hc, fun y e => by cases e⟩⟩) (fun k hk => .inl hk)
  refine ⟨⟨cs, ms, m2⟩, h.keep.trans hk (fun k hl hn e => by
    have e : k = q := e
    omega), fun x hx => ?_, ?_, h.off, h.lo⟩
  · rcases List.mem_cons.1 hx with e | e
    · subst e
      exact ⟨r.row c', (show (58 : TypeId) ≠ 3 by decide), (show (58 : TypeId) ≠ 94 by decide)⟩
    · obtain ⟨h1, h2, h3⟩ := h.rows x (by simp [e])
      exact ⟨h1.apart _ (hne x e), h2, h3⟩
  · obtain ⟨p, h1, h2⟩ := h.pl
    exact ⟨p, h1.keep (by simp [World.setRow]) fun b hb => setRow_other u q b _ (h1.off r hc (fun y e => by cases e) hb), h2⟩
theorem FS.chain {L' : List Row3} {v' : Value} {X' : Nat → Prop} (h : FS M F w L v X u) (h2 : FS M F u L' v' X' u') : FS M F w L' v' X' u' := ⟨h2.mi, mp_trans h.keep h2.keep, h2.rows, h2.pl, h2.off, h.lo⟩
theorem FS.again (h : FS M F w L v X u) : FS M F u L v X u := ⟨h.mi, Keeps.of_below (Below.refl _ _), h.rows, h.pl, h.off, Nat.le_trans h.lo h.keep.size⟩
theorem FS.new (h : FS M F w L v X u) (t : TypeId) (c : Array Value) (h1 : t ≠ 3) (h2 : t ≠ 94) : FS M F w ((u.heap.size, t, c) :: L) v X (u.alloc (.cells c t)) :=
  (h.below ((Below.refl _ _).alloc (Nat.le_refl _) _)).put (RowA.new u t c) h1 h2
/-- The boxes of a call of three. -/
theorem FS.three (h : FS M F w [] v X w) (t : TypeId) (h1 : t ≠ 3) (h2 : t ≠ 94) (c1 c2 c3 : Array Value) : FS M F w [(w.heap.size, t, c1), (w.heap.size + 1, 58, c2), (w.heap.size + 1 + 1, 58, c3)] v X (((w.alloc (.cells c1 t)).alloc (.cells c2 58)).alloc (.cells c3 58)) := by
  have f1 := h.new t c1 h1 h2
  have f2 := f1.new 58 c2 (by decide) (by decide)
  have f3 := f2.new 58 c3 (by decide) (by decide)
  have s1 : (w.alloc (.cells c1 t)).heap.size = w.heap.size + 1 := World.size_alloc ..
  have s2 : ((w.alloc (.cells c1 t)).alloc (.cells c2 58)).heap.size = w.heap.size + 1 + 1 := by rw [World.size_alloc, s1]
  rw [s1, s2] at f3
  exact f3.sub (fun x hx => by simp at hx ⊢; rcases hx with e | e | e <;> simp [e])
end
end Go.Proofs.YtcgondjekpcpgaaDoor.Sy.Lg

namespace Go.Proofs.YtcgondjekpcpgaaDoor.Sy.Lg
open Go.RowKit Go.Proofs.YtcgondjekpcpgaaDoor.Sy.Ap Go.Proofs.YtcgondjekpcpgaaDoor.Sy.Ap.Wk
set_option maxRecDepth 100000
set_option linter.unusedVariables false

/-- A node's cells. -/
abbrev ndC (g : Gd) (kA : Option Addr) (mm kc : Nat) : Array Value := #[.int .u8 g.op, .int .u64 (W g.s 0), .int .u64 (W g.s 1), .int .u64 (W g.s 2), .int .u64 (W g.s 3), .slice kA mm kc, .int .i64 g.lo, .int .i64 g.hi, .string g.nm]
def EbM (M : MC) (d : Option Nat) (u u' : World) : Prop := Keeps (MP M u) u u'
def NewQ (w : World) (z : Value) (u : World) : Prop := ∃ q, z = .pointer (some ⟨q, 0, none⟩) ∧ RowA u q 58 #[.int .i64 0, .slice none 0 0] ∧ w.heap.size ≤ q
theorem FS.newQ {M : MC} {F : Nat → Prop} {w : World} {L : List Row3} {v : Value} {X : Nat → Prop} {u u' : World} (h : FS M F w L v X u) {z : Value} {w0 : World} (hz : NewQ w0 z u) (hk : Keeps (MP M u) u u') : NewQ w0 z u' := by
  obtain ⟨cs, ms, hm⟩ := h.mi
  obtain ⟨q, h1, h2, h3⟩ := hz
  exact ⟨q, h1, mi_row hm h2 (by decide) (by decide) hk, h3⟩
def PlO (F : Nat → Prop) (Y : Nat → Prop) (z : Value) (u : World) : Prop := PlX u z Y ∧ Off F z
theorem FS.plO {M : MC} {F : Nat → Prop} {w : World} {L : List Row3} {v : Value} {X Y : Nat → Prop} {u u' : World} (h : FS M F w L v X u) {z : Value} (hz : PlO F Y z u) (hk : Keeps (MP M u) u u') : PlO F Y z u' := by
  obtain ⟨cs, ms, hm⟩ := h.mi
  exact ⟨hz.1.keeps hm hk, hz.2⟩
namespace Ne
theorem eby {M : MC} {d : Option Nat} {u u' : World} (_ : true = true) (h : Below u.heap.size u u') : EbM M d u u' := Keeps.of_below h
set_option linter.unusedVariables false in
def NeGV (M : MC) (F : Nat → Prop) (w : World) (Y : Nat → Prop) (n0 : Nat) (b o k : Nat) (kc : Nat) (vv : Value) (t : Nat) : Option Value :=
  match t with
  | 0 => some (.pointer (some ⟨M.mq, 0, none⟩))
  | 4 => some (.pointer (some ⟨n0, 0, none⟩))
  | 5 => some (.pointer (some ⟨n0 + 1, 0, none⟩))
  | 12 => some (.pointer (some ⟨M.mq, 0, none⟩))
  | 13 => some (.pointer (some ⟨n0, 5, none⟩))
  | 14 => some (.slice (some ⟨b, o, none⟩) 1 kc)
  | 15 => some (.pointer (some ⟨b, o, none⟩))
  | 16 => some (.int .i64 (k : Int))
  | 17 => some (vv)
  | _ => none
set_option linter.unusedVariables false in
def NeGP (M : MC) (F : Nat → Prop) (w : World) (Y : Nat → Prop) (n0 : Nat) (b o k : Nat) (kc : Nat) (vv : Value) (t : Nat) : Option (Value → World → Prop) :=
  match t with
  | 7 => some (NewQ w)
  | 18 => some (PlO F Y)
  | _ => none
def NeG (M : MC) (F : Nat → Prop) (w : World) (Y : Nat → Prop) (n0 : Nat) (b o k : Nat) (kc : Nat) (vv : Value) (t : Nat) (v : Value) (u : World) : Prop := (∀ z9, NeGV M F w Y n0 b o k kc vv t = some z9 → v = z9) ∧ ∀ R, NeGP M F w Y n0 b o k kc vv t = some R → R v u
end Ne
/-- The result is laid and returned. -/
theorem FS.done {M : MC} {F : Nat → Prop} {w : World} {x y : Row3} {q : Nat} {c c' : Array Value} {v : Value} {X Y : Nat → Prop} {u : World} (h : FS M F w [x, y, (q, 58, c)] v X u) (hq : w.heap.size ≤ q) (hx : x.1 ≠ q) (hy : y.1 ≠ q) (hc : c[0]? = some (.int .i64 0)) (hY : ∀ j, X j ↔ Y j) : RetQ M F w Y (.returned v) (u.setRow q c') := by
  have h2 : FS M F w [(q, 58, c), x, y] v X u := h.sub (fun z hz => by simp at hz ⊢; rcases hz with e | e | e <;> simp [e])
  have h3 := h2.setRow (c' := c') hq (fun z hz => by simp at hz; rcases hz with e | e <;> (rw [e]; assumption)) hc
  exact ⟨v, rfl, h3.mi, h3.keep, h3.pl.congr hY, h3.off⟩
namespace Ne
set_option maxHeartbeats 2000000 in
theorem needed_any {M : MC} (hM : M.Ok) {k : Nat} (hE : EndsC M k) (g : Gd) (kA : Option Addr) (kc : Nat) (hkA : KidAt M kA 0 k) (hlo : 0 ≤ g.lo) (hlo2 : g.lo ≤ 4096) (hin : ∀ i j, M.R k i j → i ≤ M.s.size → j ≤ M.s.size) (F : Nat → Prop) (u : World) (v : Value) (X : Nat → Prop) (h : Inp M F u v X) :
    Calls Tryd.prog 66 #[.pointer (some ⟨M.mq, 0, none⟩), .agg #[.int .u8 g.op, .int .u64 (W g.s 0), .int .u64 (W g.s 1), .int .u64 (W g.s 2), .int .u64 (W g.s 3), .slice kA 1 kc, .int .i64 g.lo, .int .i64 g.hi, .string g.nm], v] u (RetQ M F u (img (powR (M.R k) g.lo.toNat) X)) := by
  obtain ⟨b, o, rfl, hkb, hkc⟩ := hkA
  obtain ⟨A, n, c, rfl⟩ := h.pl.form
  have hfl := h.fl
  have F0 := FS.start h
  have hB := F0.lo
  have hX := h.le
  clear h
  go_enter Tryd.func66, Tryd.ntmps66
  go_upto_region 1 with fail
  have F1 := F0.three 43 (by decide) (by decide) (ndC g (some ⟨b, o, none⟩) 1 kc) #[.int .i64 0, .slice A n c] #[.int .i64 0, .slice none 0 0]
  rw [Nat.add_zero] at hkc
  generalize ((u.alloc (.cells (ndC g (some ⟨b, o, none⟩) 1 kc) 43)).alloc (.cells #[.int .i64 0, .slice A n c] 58)).alloc (.cells #[.int .i64 0, .slice none 0 0] 58) = u1 at *
  have d3 : u1.cell? ⟨u.heap.size, 6, none⟩ = some (.int .i64 g.lo) := F1.r0.at_ rfl
  clear F0
  have HF1 := hidd F1
  have HX0 := hidd hX
  have HIN := hidd hin
  clear F1 hX hin
  go_wp2
  go_loopw [10] (fun s10 wr => ∃ (t : Nat) (A : Option Addr) (n c : Nat), s10 = .int .i64 (t : Int) ∧ (t : Int) ≤ g.lo ∧ FS M F u [(u.heap.size, 43, ndC g (some ⟨b, o, none⟩) 1 kc), (u.heap.size + 1, 58, #[.int .i64 0, .slice A n c]), (u.heap.size + 1 + 1, 58, #[.int .i64 0, .slice none 0 0])] (.agg #[.int .i64 0, .slice A n c]) (img (powR (M.R k) t) X) wr) (fun s10 _ => (g.lo - intOf s10).toNat)
  case atStart => exact ⟨0, A, n, c, rfl, by omega, HF1.out.turn (HF1.out.pl.congr fun j => (img_zero _ _ j).symm) HF1.out.off⟩
  case round =>
    clear HF1 d3
    obtain ⟨t, A9, n9, c9, rfl, ht, hf⟩ := hrel
    have HLE : Hid (∀ t j, img (powR (M.R k) t) X j → j ≤ M.s.size) := fun t j ⟨i, h1, h2⟩ => powR_le (N := M.s.size) HIN.out t i j h2 (HX0.out i h1)
    by_cases hlt : (t : Int) < g.lo
    · have hF := hidd hf
      have hS0 := hf.again
      have hfl1 : ∀ f, F f → f < wr.heap.size := fun f q => Nat.lt_of_lt_of_le (hfl f q) hf.keep.size
      have hle := HLE.out t
      clear hf
      go_upto_region 3 with fail
      refine wp_region_slotsH 8 (by decide) (by kernel_rfl) (by kernel_rfl) (fun _ _ => true) (FS M F wr [(u.heap.size, 43, ndC g (some ⟨b, o, none⟩) 1 kc), (u.heap.size + 1, 58, #[.int .i64 0, .slice A9 n9 c9]), (u.heap.size + 1 + 1, 58, #[.int .i64 0, .slice none 0 0])] (.agg #[.int .i64 0, .slice A9 n9 c9]) (img (powR (M.R k) t) X)) (NeG M F wr (img (M.R k) (img (powR (M.R k) t) X)) u.heap.size b o k kc (.agg #[.int .i64 0, .slice A9 n9 c9])) (EbM M) (by kernel_rfl) (by kernel_rfl) (by kernel_rfl) (by kernel_rfl) ?_ (hS0.below (bel_drew (Below.refl _ _))) [0, 4, 5] (by kernel_rfl) ?_ ?_ ?_
      · intro t dd v u u' _ hS h hE
        refine ⟨h.1, fun R hR => ?_⟩
        have h2 := h.2 R hR
        unfold NeGP at hR
        split at hR
        · cases hR; exact hS.newQ h2 hE
        · cases hR; exact hS.plO h2 hE
        · cases hR
      · intro u _
        refine ⟨⟨_, rfl, ?_⟩, ⟨_, rfl, ?_⟩, ⟨_, rfl, ?_⟩, trivial⟩ <;> exact ⟨fun _ h => Option.some.inj h, fun _ h => no_some h⟩
      · clear hfl
        have hfl := hfl1
        clear hfl1
        refine ⟨?_, ?_, ?_, ?_, ?_, ?_, ?_, ?_, trivial⟩
        · intro a u hS hr K hK
          obtain ⟨⟨vl0, e0, g0⟩, -⟩ := hr
          obtain rfl := g0.1 _ rfl
          clear g0
          rw [if_pos (want_none rfl)]
          unfold Oper.wp
          go_simp
          exact hK _ _ ⟨fun _ h => Option.some.inj h, fun _ h => no_some h⟩ hS (eby rfl (Below.refl _ _))
        · intro a u hS hr K hK
          obtain ⟨⟨vl0, e0, g0⟩, -⟩ := hr
          obtain rfl := g0.1 _ rfl
          clear g0
          rw [if_pos (want_none rfl)]
          unfold Oper.wp
          go_simp
          exact hK _ _ ⟨fun _ h => Option.some.inj h, fun _ h => no_some h⟩ hS (eby rfl (Below.refl _ _))
        · intro a u hS hr K hK
          obtain ⟨⟨vl0, e0, g0⟩, -⟩ := hr
          obtain rfl := g0.1 _ rfl
          clear g0
          rw [if_pos (want_none rfl)]
          have d0 := hS.r0.at_ (k := 5) rfl
          unfold Oper.wp
          go_simp
          exact hK _ _ ⟨fun _ h => Option.some.inj h, fun _ h => no_some h⟩ hS (eby rfl (Below.refl _ _))
        · intro a u hS hr K hK
          obtain ⟨⟨vl0, e0, g0⟩, -⟩ := hr
          obtain rfl := g0.1 _ rfl
          clear g0
          rw [if_pos (want_none rfl)]
          unfold Oper.wp
          go_simp
          exact hK _ _ ⟨fun _ h => Option.some.inj h, fun _ h => no_some h⟩ hS (eby rfl (Below.refl _ _))
        · intro a u hS hr K hK
          obtain ⟨⟨vl0, e0, g0⟩, -⟩ := hr
          obtain rfl := g0.1 _ rfl
          clear g0
          rw [if_pos (want_none rfl)]
          have d0 := hS.kid hkb hkc
          unfold Oper.wp
          go_simp
          exact hK _ _ ⟨fun _ h => Option.some.inj h, fun _ h => no_some h⟩ hS (eby rfl (Below.refl _ _))
        · intro a u hS hr K hK
          obtain ⟨⟨vl0, e0, g0⟩, -⟩ := hr
          obtain rfl := g0.1 _ rfl
          clear g0
          rw [if_pos (want_none rfl)]
          have d0 := hS.r1.at_ (k := 0) rfl
          have d1 := hS.r1.at_ (k := 1) rfl
          unfold Oper.wp
          go_simp
          exact hK _ _ ⟨fun _ h => Option.some.inj h, fun _ h => no_some h⟩ hS (eby rfl (Below.refl _ _))
        · intro a u hS hr K hK
          obtain ⟨⟨vl0, e0, g0⟩, ⟨vl1, e1, g1⟩, ⟨vl2, e2, g2⟩, -⟩ := hr
          obtain rfl := g0.1 _ rfl
          clear g0
          obtain rfl := g1.1 _ rfl
          clear g1
          obtain rfl := g2.1 _ rfl
          clear g2
          rw [if_pos (want_none rfl)]
          unfold Oper.wp
          go_simp
          refine (hE F u _ _ (hS.inp hfl hle)).mono ?_
          rintro e u1 ⟨v1, rfl, hm1, hk1, hp1, ho1⟩
          exact hK _ _ ⟨fun _ h => no_some h, fun _ h => spec_ok h ⟨hp1, ho1⟩⟩ (hS.step hm1 hk1) hk1
        · intro a u hS hr K hK
          rw [if_pos (want_none rfl)]
          unfold Oper.wp
          go_simp
          exact hK _ _ ⟨fun _ h => no_some h, fun _ h => spec_ok h (⟨_, rfl, RowA.new _ _ _, hS.keep.size⟩)⟩ (hS.below ((Below.refl _ _).alloc (Nat.le_refl _) _)) (eby rfl ((Below.refl _ _).alloc (Nat.le_refl _) _))
      intro a u2 hS2 hts hd hkn hf
      obtain ⟨v12, e12, g12⟩ := hf 0 _ 12 (by decide) rfl rfl (fun _ => rfl)
      obtain ⟨v13, e13, g13⟩ := hf 1 _ 13 (by decide) rfl rfl (fun _ => rfl)
      obtain ⟨v14, e14, g14⟩ := hf 2 _ 14 (by decide) rfl rfl (fun _ => rfl)
      obtain ⟨v15, e15, g15⟩ := hf 3 _ 15 (by decide) rfl rfl (fun _ => rfl)
      obtain ⟨v16, e16, g16⟩ := hf 4 _ 16 (by decide) rfl rfl (fun _ => rfl)
      obtain ⟨v17, e17, g17⟩ := hf 5 _ 17 (by decide) rfl rfl (fun _ => rfl)
      obtain ⟨v18, e18, g18⟩ := hf 6 _ 18 (by decide) rfl rfl (fun _ => rfl)
      obtain ⟨v7, e7, g7⟩ := hf 7 _ 7 (by decide) rfl rfl (fun _ => rfl)
      have hA := act_putsH [(12, v12), (13, v13), (14, v14), (15, v15), (16, v16), (17, v17), (18, v18), (7, v7)] hts hd hkn (by kernel_rfl) (by simp [e12, e13, e14, e15, e16, e17, e18, e7])
      clear hf hts hd hkn e12 e13 e14 e15 e16 e17 e18 e7
      obtain rfl := g12.1 _ rfl
      clear g12
      obtain rfl := g13.1 _ rfl
      clear g13
      obtain rfl := g14.1 _ rfl
      clear g14
      obtain rfl := g15.1 _ rfl
      clear g15
      obtain rfl := g16.1 _ rfl
      clear g16
      obtain rfl := g17.1 _ rfl
      clear g17
      replace g18 := g18.2 _ rfl
      replace g7 := g7.2 _ rfl
      subst hA
      simp only [List.foldl, List.setIfInBounds_toArray, List.set_cons_zero, List.set_cons_succ]
      simp only [List.drop_succ_cons, List.drop_zero]
      obtain ⟨q7, rfl, R7, hq7⟩ := g7
      obtain ⟨hp, ho⟩ := g18
      obtain ⟨A1, n1, c1, rfl⟩ := hp.form
      have G1 := ((hS2.put (x := (q7, 58, #[.int .i64 0, .slice none 0 0])) R7 (show (58 : TypeId) ≠ 3 by decide) (show (58 : TypeId) ≠ 94 by decide)).setRow (c' := #[.int .i64 0, .slice A1 n1 c1]) hq7 (fun x hx => by
        have := hS0.rows x hx
        have := this.1.lt
        omega) rfl)
      have G2 := (((hS2.turn hp ho).put (x := (q7, 58, #[.int .i64 0, .slice none 0 0])) R7 (show (58 : TypeId) ≠ 3 by decide) (show (58 : TypeId) ≠ 94 by decide)).setRow (c' := #[.int .i64 0, .slice A1 n1 c1]) hq7 (fun x hx => by
        have := hS0.rows x hx
        have := this.1.lt
        omega) rfl)
      go_upto_region 4 with (refine wpList_store_row rfl 58 (.tmp 7) (.tmp 18) rfl q7 #[.int .i64 0, .slice A1 n1 c1] rfl rfl 58 #[.int .i64 0, .slice none 0 0] R7 (pl_info _ _) rfl (ones2 rfl rfl) ?_)
      rw [put_none]
      generalize u2.setRow q7 #[.int .i64 0, .slice A1 n1 c1] = u3 at *
      clear hS2 hp ho R7
      obtain ⟨p1, hp1, hx1⟩ := G2.pl
      obtain ⟨p0, hp0, hx0⟩ := G1.pl
      have hsame := same_any _ _ p1 p0 u3 hp1 hp0
      have rr7 := pl_range G1.r0
      have rr5 := pl_range G1.r2
      have HE : Hid ((∀ i, p1 i = p0 i) ↔ ∀ j, img (M.R k) (img (powR (M.R k) t) X) j ↔ img (powR (M.R k) t) X j) := by
        constructor
        · intro h j
          rw [← hx1, ← hx0, h]
        · intro h j
          have := h j
          rw [← hx1, ← hx0] at this
          cases e : p1 j <;> cases e2 : p0 j <;> simp_all
      have HG1 := hidd G1
      have HG2 := hidd G2
      clear G1 G2 hp1 hp0 hx1 hx0
      go_wp2_with (first
        | refine wpList_load_mid rfl 58 (.tmp 7) rfl q7 0 rfl [.int .i64 0, .slice A1 n1 c1] _ rr7 Tryd.underlying58 rfl (pl_info _ _) ?_
        | refine wpList_load_mid rfl 58 (.tmp 5) rfl (u.heap.size + 1) 0 rfl [.int .i64 0, .slice A9 n9 c9] _ rr5 Tryd.underlying58 rfl (pl_info _ _) ?_)
      refine hsame.mono ?_
      rintro e u4 ⟨z, rfl, hz, b4⟩
      have G4 := HG1.out.below b4
      have G5 := HG2.out.below b4
      clear hsame rr7 rr5 b4
      cases z with
      | true =>
        have HSAME := hidd (HE.out.1 (hz.1 rfl))
        have hF2 : Hid (FS M F u [(u.heap.size, 43, ndC g (some ⟨b, o, none⟩) 1 kc), (u.heap.size + 1, 58, #[.int .i64 0, .slice A9 n9 c9]), (u.heap.size + 1 + 1, 58, #[.int .i64 0, .slice none 0 0])] (.agg #[.int .i64 0, .slice A9 n9 c9]) (img (powR (M.R k) t) X) u4) := (hF.out.chain G4).sub (fun x hx => by simp at hx ⊢; rcases hx with e | e | e <;> simp [e])
        have HY : Hid (∀ j, img (powR (M.R k) t) X j ↔ img (powR (M.R k) g.lo.toNat) X j) := fun j => by
          have := img_same HSAME.out (g.lo.toNat - t) j
          rw [show t + (g.lo.toNat - t) = g.lo.toNat from by omega] at this
          exact this.symm
        clear hz G4 G5 hF
        have R2 := hF2.out.r2
        have rr1 := pl_range hF2.out.r1
        have HFIN : Hid (RetQ M F u (img (powR (M.R k) g.lo.toNat) X) (.returned (.agg #[.int .i64 0, .slice A9 n9 c9])) (u4.setRow (u.heap.size + 1 + 1) #[.int .i64 0, .slice A9 n9 c9])) := hF2.out.done (by omega) (by simp; omega) (by simp) rfl HY.out
        have HRF := hidd (R2.row #[.int .i64 0, .slice A9 n9 c9])
        go_wp2_with (first
          | refine wpList_load_mid rfl 58 (.tmp 5) rfl (u.heap.size + 1) 0 rfl [.int .i64 0, .slice A9 n9 c9] _ rr1 Tryd.underlying58 rfl (pl_info _ _) ?_
          | refine wpList_store_row rfl 58 (.tmp 6) (.tmp 24) rfl (u.heap.size + 1 + 1) #[.int .i64 0, .slice A9 n9 c9] rfl rfl 58 #[.int .i64 0, .slice none 0 0] R2 (pl_info _ _) rfl (ones2 rfl rfl) ?_)
        exact ret_places Tryd.results66 rfl HRF.out rfl HFIN.out
      | false =>
        have hF3 := ((hF.out.chain G5).sub (L' := [(u.heap.size, 43, ndC g (some ⟨b, o, none⟩) 1 kc), (u.heap.size + 1, 58, #[.int .i64 0, .slice A9 n9 c9]), (u.heap.size + 1 + 1, 58, #[.int .i64 0, .slice none 0 0])]) (fun x hx => by simp at hx ⊢; rcases hx with e | e | e <;> simp [e]))
        have R7 := G4.r0
        have rr7 := pl_range R7
        have R5 := hF3.r1
        have G6 := ((hF3.sub (L' := [(u.heap.size + 1, 58, #[.int .i64 0, .slice A9 n9 c9]), (u.heap.size, 43, ndC g (some ⟨b, o, none⟩) 1 kc), (u.heap.size + 1 + 1, 58, #[.int .i64 0, .slice none 0 0])]) (fun x hx => by simp at hx ⊢; rcases hx with e | e | e <;> simp [e])).setRow (c' := #[.int .i64 0, .slice A1 n1 c1]) (by omega) (fun x hx => by simp at hx; rcases hx with e | e <;> (rw [e]; simp)) rfl)
        have HG6 : Hid (FS M F u [(u.heap.size, 43, ndC g (some ⟨b, o, none⟩) 1 kc), (u.heap.size + 1, 58, #[.int .i64 0, .slice A1 n1 c1]), (u.heap.size + 1 + 1, 58, #[.int .i64 0, .slice none 0 0])] (.agg #[.int .i64 0, .slice A1 n1 c1]) (img (powR (M.R k) (t + 1)) X) (u4.setRow (u.heap.size + 1) #[.int .i64 0, .slice A1 n1 c1])) := by
          have g7 := G6.sub (L' := [(u.heap.size, 43, ndC g (some ⟨b, o, none⟩) 1 kc), (u.heap.size + 1, 58, #[.int .i64 0, .slice A1 n1 c1]), (u.heap.size + 1 + 1, 58, #[.int .i64 0, .slice none 0 0])]) (fun x hx => by simp at hx ⊢; rcases hx with e | e | e <;> simp [e])
          exact g7.turn (g7.pl.congr fun j => (img_pow _ _ _ _).symm) g7.off
        clear hz G4 G5 hF hF3 G6
        go_wp2_with (first
          | refine wpList_load_mid rfl 58 (.tmp 7) rfl q7 0 rfl [.int .i64 0, .slice A1 n1 c1] _ rr7 Tryd.underlying58 rfl (pl_info _ _) ?_
          | refine wpList_store_row rfl 58 (.tmp 5) (.tmp 22) rfl (u.heap.size + 1) #[.int .i64 0, .slice A1 n1 c1] rfl rfl 58 #[.int .i64 0, .slice A9 n9 c9] R5 (pl_info _ _) rfl (ones2 rfl rfl) ?_)
        exact ⟨⟨t + 1, A1, n1, c1, rfl, by omega, HG6.out⟩, by simp [intOf]; omega⟩
    · have hF2 := hidd hf
      have HY : Hid (∀ j, img (powR (M.R k) t) X j ↔ img (powR (M.R k) g.lo.toNat) X j) := fun j => by
        rw [show t = g.lo.toNat from by omega]
      clear hf
      have R2 := hF2.out.r2
      have rr1 := pl_range hF2.out.r1
      have HFIN : Hid (RetQ M F u (img (powR (M.R k) g.lo.toNat) X) (.returned (.agg #[.int .i64 0, .slice A9 n9 c9])) (wr.setRow (u.heap.size + 1 + 1) #[.int .i64 0, .slice A9 n9 c9])) := hF2.out.done (by omega) (by simp; omega) (by simp) rfl HY.out
      have HRF := hidd (R2.row #[.int .i64 0, .slice A9 n9 c9])
      go_wp2_with (first
        | refine wpList_load_mid rfl 58 (.tmp 5) rfl (u.heap.size + 1) 0 rfl [.int .i64 0, .slice A9 n9 c9] _ rr1 Tryd.underlying58 rfl (pl_info _ _) ?_
        | refine wpList_store_row rfl 58 (.tmp 6) (.tmp 24) rfl (u.heap.size + 1 + 1) #[.int .i64 0, .slice A9 n9 c9] rfl rfl 58 #[.int .i64 0, .slice none 0 0] R2 (pl_info _ _) rfl (ones2 rfl rfl) ?_)
      exact ret_places Tryd.results66 rfl HRF.out rfl HFIN.out
end Ne
end Go.Proofs.YtcgondjekpcpgaaDoor.Sy.Lg

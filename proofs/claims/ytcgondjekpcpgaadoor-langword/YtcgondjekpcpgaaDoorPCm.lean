/- Maps keyed by numbers, told by a function; the matcher in memory. -/
import Derived.Test.YtcgondjekpcpgaaDoorPCl
namespace Go.Proofs.YtcgondjekpcpgaaDoor.Sy.Lg
open Go.RowKit Go.Proofs.YtcgondjekpcpgaaDoor.Sy.Ap Go.Proofs.YtcgondjekpcpgaaDoor.Sy.Ap.Wk
set_option maxRecDepth 100000
set_option linter.unusedVariables false

/-! ### Maps keyed by numbers -/
def keyI (k : Nat) : Lit := .int .i64 (k : Int)
theorem keyI_inj {s t : Nat} (h : keyI s = keyI t) : s = t := by
  unfold keyI at h
  injection h with _ h
  omega
theorem int_key : Maps.Keyed Tryd.prog 3 := Maps.int_keyed Tryd.underlying3
theorem keyI_wf {k : Nat} (h : k < 64) : (keyI k).wf = true := by
  unfold keyI
  have e : IntKind.i64.min = -9223372036854775808 := rfl
  simp [Lit.wf, e]
  omega
theorem keyI_of {k : Nat} (h : k < 64) : keyOf Tryd.prog 3 (.int .i64 (k : Int)) = some (keyI k) := Maps.keyOf_int_mk Tryd.underlying3 (keyI_wf h)
/-- Block b is a map that has these values at these keys. -/
def MapI (w : World) (b : Nat) (f : Nat → Option Value) : Prop :=
  ∃ D : DataW Value, w.ownsMap Tryd.prog 3 heldE b 64 D ∧ Maps.size D ≤ cnt (fun k => (f k).isSome) 63 ∧ ∀ s : Nat, Maps.has D (keyI s) = (f s).isSome ∧ ∀ v z, f s = some v → D.atKey (keyI s) z = .held v
section
variable {w w' : World} {b : Nat} {f : Nat → Option Value}
theorem mapI_new (w : World) : MapI (w.alloc (.map #[] 0)) w.heap.size (fun _ => none) := by
  obtain ⟨es, cl, h1, h2, h3, h4⟩ := World.ownsMap_made w Tryd.prog 3 heldE
  exact ⟨.map [], ⟨es, cl, h1, h2, Nat.le_trans h3 (Nat.zero_le _), h4⟩, Nat.zero_le _, fun s => ⟨rfl, fun v z h => by cases h⟩⟩
theorem MapI.lt (h : MapI w b f) : b < w.heap.size := by
  obtain ⟨D, h, _⟩ := h
  exact h.lt
theorem MapI.blk (h : MapI w b f) : ∃ es clock, w.heap[b]? = some (.map es clock) := by
  obtain ⟨D, ⟨es, clock, h, _⟩, _⟩ := h
  exact ⟨es, clock, h⟩
theorem MapI.keep (h : MapI w b f) (hb : w'.heap[b]? = w.heap[b]?) : MapI w' b f := by
  obtain ⟨D, ⟨es, clock, h1, h2⟩, h3⟩ := h
  exact ⟨D, ⟨es, clock, hb.trans h1, h2⟩, h3⟩
end
section
variable {w : World} {ops : Array Oper} {rest : List Oper} {o : Oper} {a : Act} {Q : Exit → Act → World → Prop}
/-- 'v, ok := m[k]'. -/
theorem wp_lookI {m x : Operand} (t e : TypeId) (hg : o.guard = none) (hop : o.op = Op.lookup t m x true) (ht : Tryd.prog.underlying t = some (.map 3 e)) {z : Value} (hz : (zeroValue e).run Tryd.prog w = .ok z w) (b : Nat) (f : Nat → Option Value)
    (hm : a.eval m = .map (some b)) (h : MapI w b f) (s : Nat) (hx : a.eval x = .int .i64 (s : Int)) (hs : s < 64)
    (hK : wpList Tryd.prog ops Q rest (a.put o.dst (.tuple #[(f s).getD z, .bool (f s).isSome])) w) : wpList Tryd.prog ops Q (o :: rest) a w := by
  obtain ⟨D, h1, -, h2⟩ := h
  refine wpList_lookup_own_ok w hg m x t hop 3 e int_key ht heldE hz (.held z) [] rfl b 64 D hm h1 (.int .i64 (s : Int)) (keyI s) hx (keyI_of hs) ?_
  intro v ps hv
  have hv2 : (DataW.held v : DataW Value) = D.atKey (keyI s) (.held z) := by
    unfold heldE at hv
    injection hv with hv
    exact (congrArg Prod.fst hv)
  obtain ⟨h3, h4⟩ := h2 s
  rw [h3]
  cases hf : f s with
  | none =>
    rw [hf] at h3
    rw [Maps.atKey_of_not_has h3] at hv2
    cases hv2
    rw [hf] at hK
    exact hK
  | some u =>
    rw [h4 u _ hf] at hv2
    cases hv2
    rw [hf] at hK
    exact hK
/-- 'm[k] = v'. -/
theorem wp_mputI {m x y : Operand} (t e : TypeId) (hg : o.guard = none) (hop : o.op = Op.mapUpdate t m x y) (ht : Tryd.prog.underlying t = some (.map 3 e)) (b : Nat) (f : Nat → Option Value)
    (hm : a.eval m = .map (some b)) (h : MapI w b f) (s : Nat) (v : Value) (hx : a.eval x = .int .i64 (s : Int)) (hv : a.eval y = v) (hs : s < 64)
    (hK : ∀ w', MapI w' b (fun k => if k = s then some v else f k) → w.mapTurned w' b → wpList Tryd.prog ops Q rest (a.put o.dst undef) w') : wpList Tryd.prog ops Q (o :: rest) a w := by
  obtain ⟨D, h1, hsz, h2⟩ := h
  have hkey : keyOf Tryd.prog 3 (.int .i64 (s : Int)) = some (keyI s) := keyI_of hs
  refine wpList_mapUpdate_in w hg m x y t hop 3 e int_key ht heldE b 64 D hm h1 (by unfold maxLen; omega) (.int .i64 (s : Int)) v (keyI s) hx hv hkey (.held v) [] rfl ?_
  intro w' h3 h4
  have hsz2 : Maps.size (D.put (keyI s) (.held v)) ≤ cnt (fun k => (if k = s then some v else f k).isSome) 63 := by
    rw [Maps.size_put (h1.tidy int_key)]
    have hmono : ∀ i, (f i).isSome = true → (if i = s then some v else f i).isSome = true := fun i hi => by
      split
      · rfl
      · exact hi
    split
    · have hle : cnt (fun k => (f k).isSome) 63 ≤ cnt (fun k => (if k = s then some v else f k).isSome) 63 := List.countP_mono_left (fun i _ h' => hmono i h')
      omega
    · rename_i hno
      rw [(h2 s).1] at hno
      have := cnt_more (p := fun k => (f k).isSome) (q := fun k => (if k = s then some v else f k).isSome) (N := 63) hmono (x := s) (by omega) (by simpa using hno) (by simp)
      omega
  have h64 := cnt_le (fun k => (if k = s then some v else f k).isSome) 63
  have h5 : w'.ownsMap Tryd.prog 3 heldE b 64 (D.put (keyI s) (.held v)) := by
    obtain ⟨es, cl, q1, q2, q3, q4⟩ := h3
    refine ⟨es, cl, q1, q2, ?_, q4⟩
    have e3 : es.size = Maps.size (D.put (keyI s) (.held v)) := by rw [q4]; simp [Maps.size, length_sorted]
    omega
  refine hK w' ⟨_, h5, hsz2, fun k => ?_⟩ h4
  by_cases hk : k = s
  · subst hk
    refine ⟨?_, fun u z hu => ?_⟩
    · rw [Maps.has_put_same h1.isMap (int_key.key hkey)]
      simp
    · simp at hu
      subst hu
      exact Maps.atKey_put_same h1.isMap (int_key.key hkey) _ _
  · have hne : keyI k ≠ keyI s := fun q => hk (keyI_inj q)
    rw [Maps.has_put_other hne]
    simp only [if_neg hk]
    refine ⟨(h2 k).1, fun u z hu => ?_⟩
    rw [Maps.atKey_put_other hne]
    exact (h2 k).2 u z hu
end
/-! ### The matcher -/
/-- v is the places X. -/
def PlX (u : World) (v : Value) (X : Nat → Prop) : Prop := ∃ p, Pl u v p ∧ ∀ j, p j = true ↔ X j
/-- v lies in none of the blocks F. -/
def Off (F : Nat → Prop) (v : Value) : Prop := ∀ b, plB v = some b → ¬ F b
theorem PlX.congr {u : World} {v : Value} {X Y : Nat → Prop} (h : PlX u v X) (e : ∀ j, X j ↔ Y j) : PlX u v Y := by
  obtain ⟨p, h1, h2⟩ := h
  exact ⟨p, h1, fun j => (h2 j).trans (e j)⟩
theorem PlX.below {u u' : World} {v : Value} {X : Nat → Prop} (h : PlX u v X) (hb : Below u.heap.size u u') : PlX u' v X := by
  obtain ⟨p, h1, h2⟩ := h
  exact ⟨p, h1.below hb, h2⟩
theorem PlX.lt {u : World} {v : Value} {X : Nat → Prop} (h : PlX u v X) {b : Nat} (hb : plB v = some b) : b < u.heap.size := by
  obtain ⟨p, h1, h2⟩ := h
  exact h1.lt hb
theorem PlX.form {u : World} {v : Value} {X : Nat → Prop} (h : PlX u v X) : ∃ A n c, v = .agg #[.int .i64 0, .slice A n c] := by
  obtain ⟨p, h1, h2⟩ := h
  exact pl_form h1
/-- What a matcher stands for. -/
structure MC where
  W0 : World
  mq : Nat
  wb : Nat
  kb : Nat
  n : Nat
  tA : Option Addr
  tc : Nat
  s : ByteArray
  gs : List Gd
  ns : List Nd
abbrev MC.B (M : MC) : Nat := M.W0.heap.size
abbrev MC.cells (M : MC) : Array Value := #[.slice M.tA M.n M.tc, .string M.s, .slice (some ⟨M.wb, 0, none⟩) M.n M.n, .slice (some ⟨M.kb, 0, none⟩) M.n M.n]
def MC.R (M : MC) (k : Nat) : Nat → Nat → Prop := Mt M.ns (bs M.s) k
structure MC.Ok (M : MC) : Prop where
  few : M.s.size ≤ 63
  len : M.gs.length = M.n
  gn : GN M.gs M.ns
  tree : TreeN M.ns
  nds : Nds M.W0 M.B M.tA M.gs
  db : DB M.W0
  bmq : M.B ≤ M.mq
  bwb : M.B ≤ M.wb
  bkb : M.B ≤ M.kb
def intV (k : Nat) : Value := .int .i64 (k : Int)
/-- What is kept of the node i, in block b. -/
def Kept (M : MC) (F : Nat → Prop) (u : World) (i b : Nat) : Prop := M.B ≤ b ∧ ∃ f, MapI u b f ∧ ∀ k v, f k = some v → PlX u v (M.R i k) ∧ Off F v
structure MI (M : MC) (F : Nat → Prop) (cs : List Nat) (ms : List (Option Nat)) (u : World) : Prop where
  bel : Below M.B M.W0 u
  box : RowA u M.mq 75 M.cells
  walks : RowA u M.wb 3 (cs.map intV).toArray
  clen : cs.length = M.n
  cfew : ∀ x ∈ cs, x ≤ 256
  known : RowA u M.kb 94 (ms.map Value.map).toArray
  mlen : ms.length = M.n
  kept : ∀ (i b : Nat), ms[i]? = some (some b) → Kept M F u i b
  apart : ∀ (i j b : Nat), ms[i]? = some (some b) → ms[j]? = some (some b) → i = j
/-- What the matcher's calls may write. -/
def MP (M : MC) (u : World) (k : Nat) : Prop := k = M.wb ∨ k = M.kb ∨ (M.B ≤ k ∧ ∃ es cl, u.heap[k]? = some (.map es cl))
theorem MP.stays {M : MC} {u u' : World} (hk : Keeps (MP M u) u u') {k : Nat} (hl : k < u.heap.size) (h : MP M u' k) : MP M u k := by
  apply Classical.byContradiction
  intro hn
  rcases h with h | h | ⟨h1, es, cl, h⟩
  · exact hn (.inl h)
  · exact hn (.inr (.inl h))
  · rw [hk.block k hl hn] at h
    exact hn (.inr (.inr ⟨h1, es, cl, h⟩))
theorem mp_trans {M : MC} {u v w : World} (h : Keeps (MP M u) u v) (h2 : Keeps (MP M v) v w) : Keeps (MP M u) u w :=
  h.trans h2 fun k hl hn hp => hn (MP.stays h hl hp)
theorem mp_lo {M : MC} (hM : M.Ok) {u : World} {k : Nat} (h : MP M u k) : M.B ≤ k := by
  rcases h with h | h | h
  · rw [h]; exact hM.bwb
  · rw [h]; exact hM.bkb
  · exact h.1
section
variable {M : MC} {F G : Nat → Prop} {cs : List Nat} {ms : List (Option Nat)} {u u' : World}
theorem row_neq {w : World} {g g' : Nat} {t t' : TypeId} {cs cs' : Array Value} (r : RowA w g t cs) (r' : RowA w g' t' cs') (h : t ≠ t') : g ≠ g' := fun q => by
  unfold RowA at r r'
  rw [q, r'] at r
  injection r with r
  injection r with _ r2
  exact h r2.symm
theorem row_map {w : World} {g : Nat} {t : TypeId} {c : Array Value} (r : RowA w g t c) {es cl} (h : w.heap[g]? = some (.map es cl)) : False := by
  unfold RowA at r
  rw [r] at h
  injection h with h
  cases h
/-- A row of another type is none of the matcher's. -/
theorem MI.row_off (h : MI M F cs ms u) {k : Nat} {t : TypeId} {c : Array Value} (r : RowA u k t c) (h1 : t ≠ 3) (h2 : t ≠ 94) : ¬ MP M u k := by
  rintro (e | e | ⟨_, es, cl, e⟩)
  · exact row_neq r h.walks h1 e
  · exact row_neq r h.known h2 e
  · exact row_map r e
theorem MI.box_off (h : MI M F cs ms u) : ¬ MP M u M.mq := h.row_off h.box (by decide) (by decide)
theorem MI.pl_off (h : MI M F cs ms u) {v : Value} {p : Nat → Bool} (hp : Pl u v p) {b : Nat} (hb : plB v = some b) : ¬ MP M u b := by
  have hc : ∃ x, u.cell? ⟨b, 0, none⟩ = some (.int .u64 x) := by
    rcases hp.2 with ⟨rfl, _⟩ | ⟨b', c, i, rfl, _, _, hc, _⟩
    · cases hb
    · have hb : some b' = some b := hb
      cases hb
      exact ⟨_, hc⟩
  obtain ⟨x, hc⟩ := hc
  rintro (e | e | ⟨_, es, cl, e⟩)
  · subst e
    have hw := h.walks
    unfold RowA at hw
    cases hcs : cs with
    | nil => rw [hcs] at hw; simp [World.cell?, hw] at hc
    | cons y r => rw [hcs] at hw; simp [World.cell?, hw, intV] at hc
  · subst e
    have hw := h.known
    unfold RowA at hw
    cases hcs : ms with
    | nil => rw [hcs] at hw; simp [World.cell?, hw] at hc
    | cons y r => rw [hcs] at hw; simp [World.cell?, hw] at hc
  · simp [World.cell?, e] at hc
theorem PlX.keeps {v : Value} {X : Nat → Prop} (hp : PlX u v X) (h : MI M F cs ms u) (hk : Keeps (MP M u) u u') : PlX u' v X := by
  obtain ⟨p, h1, h2⟩ := hp
  exact ⟨p, h1.keep hk.size fun b hb => hk.block b (h1.lt hb) (h.pl_off h1 hb), h2⟩
/-- Something else is written: what is not the matcher's. -/
theorem MI.step (h : MI M F cs ms u) {P : Nat → Prop} (hk : Keeps P u u') (hP : ∀ k, P k → k < u.heap.size → M.B ≤ k ∧ k ≠ M.mq ∧ ¬ MP M u k ∧ (F k ∨ ∃ x, u.cell? ⟨k, 0, none⟩ = some x ∧ ∀ y, x ≠ .int .u64 y)) (hG : ∀ k, G k → F k ∨ u.heap.size ≤ k) : MI M G cs ms u' := by
  have hB : M.B ≤ u.heap.size := h.bel.size
  have hoff : ∀ k, MP M u k ∨ k = M.mq → k < u.heap.size → u'.heap[k]? = u.heap[k]? := fun k hq hl => hk.block k hl fun hp => by
    obtain ⟨h1, h2, h3, h4⟩ := hP k hp hl
    rcases hq with hq | hq
    · exact h3 hq
    · exact h2 hq
  have hpl : ∀ v X, PlX u v X → Off F v → PlX u' v X ∧ Off G v := by
    rintro v X ⟨p, h1, h2⟩ ho
    refine ⟨⟨p, h1.keep hk.size fun b hb => hk.block b (h1.lt hb) fun hp => ?_, h2⟩, fun b hb hg => ?_⟩
    · obtain ⟨_, _, _, q⟩ := hP b hp (h1.lt hb)
      rcases q with q | ⟨x, q1, q2⟩
      · exact ho b hb q
      · rcases h1.2 with ⟨rfl, _⟩ | ⟨b', c, i, rfl, _, _, hc, _⟩
        · cases hb
        · have hb : some b' = some b := hb
          cases hb
          rw [q1] at hc
          injection hc with hc
          exact q2 _ hc
    · rcases hG b hg with q | q
      · exact ho b hb q
      · have := h1.lt hb
        omega
  have kb : Below M.B u u' := ⟨hk.os, hk.tape, hk.output, hk.size, fun k hl => hk.block k (by omega) fun hp => by
    have := (hP k hp (by omega)).1
    omega⟩
  refine ⟨h.bel.trans kb, (hoff _ (.inr rfl) h.box.lt).trans h.box, (hoff _ (.inl (.inl rfl)) h.walks.lt).trans h.walks, h.clen, h.cfew, (hoff _ (.inl (.inr (.inl rfl))) h.known.lt).trans h.known, h.mlen, ?_, h.apart⟩
  intro i b hb
  obtain ⟨h1, f, h2, h4⟩ := h.kept i b hb
  have hbm : MP M u b := .inr (.inr ⟨h1, h2.blk⟩)
  refine ⟨h1, f, h2.keep (hoff b (.inl hbm) h2.lt), fun k v hv => ?_⟩
  obtain ⟨h5, h6⟩ := h4 k v hv
  exact hpl v _ h5 h6
theorem MI.below (h : MI M F cs ms u) (hb : Below u.heap.size u u') : MI M F cs ms u' :=
  h.step (P := fun _ => False) ⟨hb.os, hb.tape, hb.output, hb.size, fun k hl _ => hb.block k hl⟩ (fun k hp => hp.elim) (fun k hk => .inl hk)
theorem MI.less (h : MI M F cs ms u) (hG : ∀ k, G k → F k ∨ u.heap.size ≤ k) : MI M G cs ms u :=
  h.step (P := fun _ => False) ⟨rfl, rfl, rfl, Nat.le_refl _, fun k hl _ => rfl⟩ (fun k hp => hp.elim) hG
/-- Places of one's own are written. -/
theorem MI.own (h : MI M F cs ms u) {base q : Nat} {sv : Value} {p : Nat → Bool} (hp : PB base u q sv p) (hb : M.B ≤ base) (hq : M.B ≤ q) (hF : ∀ k, sv.ownBlock = some k → F k) (hk : Keeps (Pw q sv) u u') (hG : ∀ k, G k → F k ∨ u.heap.size ≤ k) : MI M G cs ms u' := by
  refine h.step hk (fun k hpk hl => ?_) hG
  rcases hpk with e | e
  · subst e
    exact ⟨hq, fun e => row_neq hp.1 h.box (by decide) e, h.row_off hp.1 (by decide) (by decide), .inr ⟨_, hp.1.at_ rfl, fun y e => by cases e⟩⟩
  · rcases hp.2.2 with ⟨e2, _⟩ | ⟨_, o⟩
    · rw [e2] at e; cases e
    · obtain ⟨cur, hc⟩ := own_blk o e
      have r : RowA u k 39 cur := hc
      exact ⟨Nat.le_trans hb (o.lt k e).1, fun e => row_neq r h.box (by decide) e, h.row_off r (by decide) (by decide), .inl (hF k e)⟩
end
end Go.Proofs.YtcgondjekpcpgaaDoor.Sy.Lg

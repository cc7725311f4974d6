/- The reference's walker: which names are open, by plain lists; the walker in memory; names found. -/
import Derived.Test.YtgppanbikfobbaaBf
import Derived.Test.YtgppanbikfobbaaBb
import Derived.Test.YtgppanbikfobbaaRs
namespace Go.Proofs.Ytgppanbikfobbaa.Sy.Ap.Wk
open Go.RowKit
set_option maxRecDepth 100000
set_option linter.unusedVariables false

/-! ### The Defs that are not being walked -/
def opD : List Df → List Bool → List Df
  | d :: D, b :: o => if b then opD D o else d :: opD D o
  | _, _ => []
theorem opD_mem {d : Df} : ∀ (D : List Df) (o : List Bool), d ∈ opD D o ↔ ∃ k : Nat, D[k]? = some d ∧ o[k]? = some false
  | [], o => by
    unfold opD
    constructor
    · intro h; cases h
    · rintro ⟨k, h, _⟩; simp at h
  | x :: D, [] => by
    unfold opD
    constructor
    · intro h; cases h
    · rintro ⟨k, _, h⟩; simp at h
  | x :: D, b :: o => by
    have ih := opD_mem (d := d) D o
    unfold opD
    constructor
    · intro h
      cases b with
      | true =>
        simp only [if_true] at h
        obtain ⟨k, h1, h2⟩ := ih.1 h
        exact ⟨k + 1, by simpa using h1, by simpa using h2⟩
      | false =>
        simp only [Bool.false_eq_true, if_false] at h
        rcases List.mem_cons.1 h with rfl | h
        · exact ⟨0, rfl, rfl⟩
        · obtain ⟨k, h1, h2⟩ := ih.1 h
          exact ⟨k + 1, by simpa using h1, by simpa using h2⟩
    · rintro ⟨k, h1, h2⟩
      cases k with
      | zero =>
        simp at h1 h2
        subst h1 h2
        simp
      | succ k =>
        have h3 := ih.2 ⟨k, by simpa using h1, by simpa using h2⟩
        cases b with
        | true => simpa using h3
        | false => simp [h3]
theorem opD_sub : ∀ (D : List Df) (o : List Bool), (opD D o).Sublist D
  | [], o => by unfold opD; exact List.Sublist.slnil
  | x :: D, [] => by unfold opD; exact List.nil_sublist _
  | x :: D, b :: o => by
    unfold opD
    split
    · exact (opD_sub D o).cons x
    · exact (opD_sub D o).cons_cons x
theorem opD_all : ∀ (D : List Df), opD D (List.replicate D.length false) = D
  | [] => rfl
  | x :: D => by
    rw [List.length_cons, List.replicate_succ, opD, opD_all D]
    rfl
abbrev Apart (D : List Df) : Prop := D.Pairwise fun a b => a.1 ≠ b.1
theorem apart_at {D : List Df} (h : Apart D) {j k : Nat} {a b : Df} (hj : D[j]? = some a) (hk : D[k]? = some b) (he : a.1 = b.1) : j = k := by
  obtain ⟨hjl, rfl⟩ := List.getElem?_eq_some_iff.1 hj
  obtain ⟨hkl, rfl⟩ := List.getElem?_eq_some_iff.1 hk
  rcases Nat.lt_trichotomy j k with q | q | q
  · exact absurd he (List.pairwise_iff_getElem.1 h j k hjl hkl q)
  · exact q
  · exact absurd he.symm (List.pairwise_iff_getElem.1 h k j hkl hjl q)
section
variable {D : List Df} {o : List Bool} {k : Nat} {d : Df}
theorem find_shut (hp : Apart D) (hk : D[k]? = some d) (ho : o[k]? = some false) : findD (opD D o) d.1 = some d.2 :=
  (findD_iff (hp.sublist (opD_sub D o)) _ _).2 ((opD_mem D o).2 ⟨k, hk, ho⟩)
theorem find_open (hp : Apart D) (hk : D[k]? = some d) (ho : o[k]? = some true) : findD (opD D o) d.1 = none := by
  cases h : findD (opD D o) d.1 with
  | none => rfl
  | some t =>
    obtain ⟨j, h1, h2⟩ := (opD_mem D o).1 (findD_mem h)
    have := apart_at hp h1 hk rfl
    subst this
    rw [ho] at h2
    cases h2
theorem find_no {nm : List Nat} (h : ∀ x ∈ D, x.1 ≠ nm) : findD (opD D o) nm = none := by
  cases h2 : findD (opD D o) nm with
  | none => rfl
  | some t => exact absurd rfl (h _ ((opD_sub D o).subset (findD_mem h2)))
theorem all_no {nm : List Nat} (h : ∀ x ∈ D, x.1 ≠ nm) : allD D nm = false := by
  unfold allD
  cases h2 : findD D nm with
  | none => rfl
  | some t => exact absurd rfl (h _ (findD_mem h2))
theorem all_yes (hp : Apart D) (hk : D[k]? = some d) : allD D d.1 = true := by
  unfold allD
  rw [(findD_iff hp d.1 d.2).2 (List.mem_of_getElem? hk)]
  rfl
theorem find_set (hp : Apart D) (hk : D[k]? = some d) (ho : o[k]? = some false) (m : List Nat) : findD (opD D (o.set k true)) m = findD (remD (opD D o) d.1) m := by
  have hs := hp.sublist (opD_sub D (o.set k true))
  have hko : k < o.length := (List.getElem?_eq_some_iff.1 ho).1
  rw [findD_rem]
  apply Option.ext
  intro t
  rw [findD_iff hs, opD_mem]
  by_cases hm : m = d.1
  · rw [if_pos hm]
    constructor
    · rintro ⟨j, h1, h2⟩
      have := apart_at hp h1 hk (by rw [hm])
      subst this
      rw [List.getElem?_set_self hko] at h2
      cases h2
    · intro h; cases h
  · rw [if_neg hm, findD_iff (hp.sublist (opD_sub D o)), opD_mem]
    constructor
    · rintro ⟨j, h1, h2⟩
      have hj : k ≠ j := fun e => by
        subst e
        rw [hk] at h1
        cases h1
        exact hm rfl
      rw [List.getElem?_set_ne hj] at h2
      exact ⟨j, h1, h2⟩
    · rintro ⟨j, h1, h2⟩
      have hj : k ≠ j := fun e => by
        subst e
        rw [hk] at h1
        cases h1
        exact hm rfl
      exact ⟨j, h1, by rw [List.getElem?_set_ne hj]; exact h2⟩
end
def shut (o : List Bool) : Nat := o.countP fun b => !b
theorem shut_set {o : List Bool} {k : Nat} (h : o[k]? = some false) : shut (o.set k true) + 1 = shut o := left_set o k h

/-! ### The walker in memory -/
/-- All blocks but those of P are as they were. -/
structure Keeps (P : Nat → Prop) (u u' : World) : Prop where
  os : u'.os = u.os
  tape : u'.tape = u.tape
  output : u'.output = u.output
  size : u.heap.size ≤ u'.heap.size
  block : ∀ k, k < u.heap.size → ¬ P k → u'.heap[k]? = u.heap[k]?
theorem Keeps.below {P : Nat → Prop} {u u' : World} (h : Keeps P u u') {B : Nat} (hB : B ≤ u.heap.size) (hP : ∀ k, P k → B ≤ k) : Below B u u' :=
  ⟨h.os, h.tape, h.output, h.size, fun k hk => h.block k (by omega) (fun q => by have := hP k q; omega)⟩
theorem Keeps.of_below {P : Nat → Prop} {u u' : World} (h : Below u.heap.size u u') : Keeps P u u' := ⟨h.os, h.tape, h.output, h.size, fun k hk _ => h.block k hk⟩
theorem Keeps.trans {P Q : Nat → Prop} {u v w : World} (h : Keeps P u v) (h2 : Keeps Q v w) (hQ : ∀ k, k < u.heap.size → ¬ P k → ¬ Q k) : Keeps P u w :=
  ⟨h2.os.trans h.os, h2.tape.trans h.tape, h2.output.trans h.output, Nat.le_trans h.size h2.size, fun k hk hp => (h2.block k (Nat.lt_of_lt_of_le hk h.size) (hQ k hk hp)).trans (h.block k hk hp)⟩
theorem keeps_set {P : Nat → Prop} {u u' : World} (h : Keeps P u u') (p : Addr) (v : Value) (hp : P p.block ∨ u.heap.size ≤ p.block) : Keeps P u (u'.setCell p v) :=
  ⟨h.os, h.tape, h.output, by simpa [World.setCell] using h.size, fun k hk hn => (Below.heap_setCell u' p v k (fun e => by rcases hp with q | q; exact hn (e ▸ q); omega)).trans (h.block k hk hn)⟩
theorem keeps_grown {P : Nat → Prop} {u v w : World} {row : Option Nat} (h : Keeps P u v) (hg : v.grownBy w row) (hr : ∀ k, row = some k → P k ∨ u.heap.size ≤ k) : Keeps P u w :=
  ⟨hg.os.trans h.os, hg.tape.trans h.tape, hg.output.trans h.output, Nat.le_trans h.size hg.size, fun k hk hn => (hg.block k (Nat.lt_of_lt_of_le hk h.size) (fun e => by rcases hr k e.symm with q | q; exact hn q; omega)).trans (h.block k hk hn)⟩
theorem own_keeps {P : Nat → Prop} {u u' : World} {base : Nat} {e : TypeId} {sz n : Nat} {v : Value} {xs : List Value} (h : u.ownsRow base e sz v n xs) (hk : Keeps P u u') (hp : ∀ k, v.ownBlock = some k → ¬ P k) : u'.ownsRow base e sz v n xs := by
  have hl := h.lt
  obtain ⟨h1, h2⟩ := h
  refine ⟨h1, ?_⟩
  rcases h2 with h2 | ⟨g, cap, cur, hv, hg, hh, r⟩
  · exact .inl h2
  · have hgb : v.ownBlock = some g := by rw [hv]; rfl
    exact .inr ⟨g, cap, cur, hv, hg, (hk.block g (hl g hgb).2 (hp g hgb)).trans hh, r⟩
theorem row_keeps {P : Nat → Prop} {u u' : World} {g : Nat} {t : TypeId} {cs : Array Value} (r : RowA u g t cs) (hk : Keeps P u u') (hp : ¬ P g) : RowA u' g t cs := (hk.block g r.lt hp).trans r
abbrev wkC (A2 : Option Addr) (m c2 ob : Nat) (nv : Value) (e : Int) : Array Value := #[.slice A2 m c2, .slice (some ⟨ob, 0, none⟩) m m, nv, .int .i64 e]
structure WK (B : Nat) (w : World) (b ob m : Nat) (A2 : Option Addr) (c2 : Nat) (nv : Value) (l : List NR) (o : List Bool) (e : Int) : Prop where
  row : RowA w b 53 (wkC A2 m c2 ob nv e)
  opn : RowA w ob 4 (o.map Value.bool).toArray
  len : o.length = m
  nodes : w.ownsRow B 41 9 nv l.length (nodesC l)
  kids : ∀ x ∈ l, w.ownsRow B 3 1 (.slice x.2.1 x.1.l.length x.2.2) x.1.l.length (ints x.1.l)
  hb : B ≤ b
  ho : B ≤ ob
/-- What a walk may write. -/
def Wr (b ob : Nat) (nv : Value) (k : Nat) : Prop := k = b ∨ k = ob ∨ nv.ownBlock = some k
section
variable {B : Nat} {w w' : World} {b ob m : Nat} {A2 : Option Addr} {c2 : Nat} {nv : Value} {l : List NR} {o : List Bool} {e : Int}
theorem WK.below (h : WK B w b ob m A2 c2 nv l o e) (hb : Below w.heap.size w w') : WK B w' b ob m A2 c2 nv l o e :=
  ⟨h.row.below hb h.row.lt, h.opn.below hb h.opn.lt, h.len, own_below h.nodes hb (Nat.le_refl _), fun x hx => own_below (h.kids x hx) hb (Nat.le_refl _), h.hb, h.ho⟩
theorem WK.size (h : WK B w b ob m A2 c2 nv l o e) : B ≤ w.heap.size := Nat.le_trans h.hb (Nat.le_of_lt h.row.lt)
theorem WK.wr (h : WK B w b ob m A2 c2 nv l o e) : ∀ k, Wr b ob nv k → B ≤ k := by
  rintro k (rfl | rfl | q)
  · exact h.hb
  · exact h.ho
  · exact (h.nodes.lt k q).1
theorem WK.apart (h : WK B w b ob m A2 c2 nv l o e) : b ≠ ob := fun q => by
  have h1 := h.row
  have h2 := h.opn
  unfold RowA at h1 h2
  rw [q, h2] at h1
  injection h1 with h1
  injection h1 with _ h3
  exact absurd h3 (by decide)
/-- Another error. -/
theorem WK.err (h : WK B w b ob m A2 c2 nv l o e) (e' : Int) : WK B (w.setCell ⟨b, 3, none⟩ (.int .i64 e')) b ob m A2 c2 nv l o e' :=
  ⟨h.row.set 3 _, h.opn.far (a := ⟨b, 3, none⟩) (fun q => h.apart q.symm) _, h.len, own_sb h.nodes (own_neR h.nodes h.row (by decide)) _, fun x hx => own_sb (h.kids x hx) (own_neR (h.kids x hx) h.row (by decide)) _, h.hb, h.ho⟩
theorem map_set (o : List Bool) (k : Nat) (x : Bool) : ((o.map Value.bool).toArray.setIfInBounds k (.bool x)) = ((o.set k x).map Value.bool).toArray := by
  rw [List.map_set]
  simp
/-- A name is being walked, or not any more. -/
theorem WK.flag (h : WK B w b ob m A2 c2 nv l o e) (k : Nat) (x : Bool) : WK B (w.setCell ⟨ob, k, none⟩ (.bool x)) b ob m A2 c2 nv l (o.set k x) e :=
  ⟨h.row.far (a := ⟨ob, k, none⟩) h.apart _, by have := h.opn.set k (.bool x); rw [map_set] at this; exact this, by rw [List.length_set]; exact h.len, own_sb h.nodes (own_neR h.nodes h.opn (by decide)) _, fun y hy => own_sb (h.kids y hy) (own_neR (h.kids y hy) h.opn (by decide)) _, h.hb, h.ho⟩
/-- One more node. -/
theorem WK.add {u : World} {z : Value} (h : WK B w b ob m A2 c2 nv l o e) (hg : w.grownBy u nv.ownBlock) {x : NR} (hn : u.ownsRow B 41 9 z (l ++ [x]).length (nodesC (l ++ [x]))) (hx : w.ownsRow B 3 1 (.slice x.2.1 x.1.l.length x.2.2) x.1.l.length (ints x.1.l)) : WK B (u.setCell ⟨b, 2, none⟩ z) b ob m A2 c2 z (l ++ [x]) o e := by
  have R : RowA u b 53 (wkC A2 m c2 ob nv e) := (hg.block b h.row.lt (fun q => own_neR h.nodes h.row (by decide) q.symm)).trans h.row
  have O : RowA u ob 4 (o.map Value.bool).toArray := (hg.block ob h.opn.lt (fun q => own_neR h.nodes h.opn (by decide) q.symm)).trans h.opn
  refine ⟨R.set 2 z, O.far (a := ⟨b, 2, none⟩) (fun q => h.apart q.symm) _, h.len, own_sb hn (own_neR hn R (by decide)) _, fun y hy => ?_, h.hb, h.ho⟩
  have hy2 : w.ownsRow B 3 1 (.slice y.2.1 y.1.l.length y.2.2) y.1.l.length (ints y.1.l) := by
    rcases List.mem_append.1 hy with q | q
    · exact h.kids y q
    · rw [List.mem_singleton] at q
      exact q ▸ hx
  have k3 := own_kept hy2 hg (fun k q => fun r => own_apart h.nodes hy2 (by decide) k q r)
  exact own_sb k3 (own_neR k3 R (by decide)) _
end
/-! ### A name found -/
def FndR (ds : List DG) (nm : ByteArray) (e : Ending) : Prop := (e = .returned (.int .i64 (-1)) ∧ ∀ d ∈ ds, d.1 ≠ nm) ∨ ∃ k : Nat, e = .returned (.int .i64 (k : Int)) ∧ k < ds.length ∧ (ds.getD k dg0).1 = nm
set_option maxHeartbeats 1000000 in
theorem find_any {B : Nat} {w : World} {b ob m : Nat} {A2 : Option Addr} {c2 : Nat} {nv : Value} {e : Int} (hr : RowA w b 53 (wkC A2 m c2 ob nv e)) (ds : List DG) (hx : Dfs w B A2 ds) (hm : ds.length = m) (hm2 : m ≤ 1000) (nm : ByteArray) :
    Calls Try.prog 37 #[.pointer (some ⟨b, 0, none⟩), .string nm] w fun e w' => w' = w ∧ FndR ds nm e := by
  have HM := hidd hm
  have HX := hidd hx
  have d0 : w.cell? ⟨b, 0, none⟩ = some (.slice A2 m c2) := hr.at_ rfl
  clear hm hx hr
  go_enter Try.func37, Try.ntmps37
  go_wp2
  go_loopw [5] (fun s5 wr => wr = w ∧ ∃ i : Nat, i ≤ m ∧ s5 = .int .i64 (i : Int) ∧ ∀ x ∈ ds.take i, x.1 ≠ nm) (fun s5 _ => m - (intOf s5).toNat)
  case atStart => exact ⟨rfl, 0, Nat.zero_le _, rfl, fun x hx => absurd hx List.not_mem_nil⟩
  case round =>
    obtain ⟨rfl, i, hi0, rfl, hne⟩ := hrel
    have HNE := hidd hne
    clear hne
    by_cases hlt : i < m
    · have hlt2 : i < ds.length := by rw [HM.out]; exact hlt
      obtain ⟨b1, o1, rfl, hb1, A3, c3, N1, r1, -⟩ := HX.out.at_ hlt2
      have HTK := hidd (take_snoc hlt2)
      have a0 : wr.cell? ⟨b1, o1 + i * 2, none⟩ = some (.string (ds.getD i dg0).1) := r1 0 _ rfl
      have HGD : Hid (ds.getD i dg0 = ds.getD i dg0) := rfl
      have hki : (i : Int) < (m : Int) := by omega
      clear r1 N1
      generalize hgd : ds.getD i dg0 = d at *
      have HG2 := hidd hgd
      clear hgd
      by_cases he : d.1 = nm
      · have hs := str_same he
        have HE := hidd he
        clear he
        go_wp2
        go_ret
        exact ⟨rfl, .inr ⟨i, rfl, hlt2, by rw [HG2.out]; exact HE.out⟩⟩
      · have hs := str_not he
        have HE := hidd he
        clear he
        go_wp2
        refine ⟨⟨trivial, i + 1, by omega, rfl, ?_⟩, by simp [intOf]; omega⟩
        rw [HTK.out]
        intro x hx
        rcases List.mem_append.1 hx with q | q
        · exact HNE.out x q
        · rw [List.mem_singleton] at q
          rw [q]
          exact HE.out
    · have hie : m = i := by omega
      subst hie
      go_wp2
      go_ret
      refine ⟨rfl, .inl ⟨rfl, fun x hx => HNE.out x ?_⟩⟩
      rw [List.take_of_length_le (by rw [HM.out]; exact Nat.le_refl _)]
      exact hx
end Go.Proofs.Ytgppanbikfobbaa.Sy.Ap.Wk

namespace Go.Proofs.Ytgppanbikfobbaa.Sy.Ap.Wk
open Go.RowKit
set_option maxRecDepth 100000
set_option linter.unusedVariables false

/-! ### By plain lists -/
theorem forest_nil {ns : List Nd} {a b : Nat} (h : Forest ns a b []) : b = a := by
  generalize hk : ([] : List Nat) = ks at h
  cases h with
  | nil => rfl
  | snoc => simp at hk
theorem top1 {ns : List Nd} {b i : Nat} (h : Forest ns b (i + 1) [i]) : ∃ n, ns[i]? = some n ∧ Forest ns b i n.l := by
  have hp := h.pos (by simp)
  obtain ⟨b', ks2, n, e, hn, f1, f2⟩ := h.top (by omega)
  have hk : ks2 = [] := by
    cases ks2 with
    | nil => rfl
    | cons x r => have := congrArg List.length e; simp at this
  subst hk
  have := forest_nil f1
  subst this
  exact ⟨n, hn, f2⟩
theorem kid_step {ns : List Nd} {mid c k : Nat} {r : List Nat} (h : Forest ns mid c (k :: r)) : Forest ns mid (k + 1) [k] ∧ Forest ns (k + 1) c r := by
  obtain ⟨m, f1, f2⟩ := h.split [k] r rfl
  have := f1.last
  subst this
  exact ⟨f1, f2⟩
theorem seg_shp {ns : List Nd} (h : Shp ns) (a b : Nat) : Shp (seg ns a b) := fun n hn => h n (List.mem_of_mem_drop (List.mem_of_mem_take hn))
section
variable {all : List Nat → Bool} {D : List Df} {ns : List Nd} {bb mid k c : Nat} {out : List Nd}
theorem seg_hts (h : Forest ns mid (k + 1) [k]) : hts 0 (seg ns mid (k + 1)) = some 1 := by
  have := h.hts 0
  simpa using this
/-- One kid more. -/
theorem kid_ok (hT : TreesD D) (hs : Shp ns) {x y : X} (h0 : bb ≤ mid) (hf : Forest ns mid (k + 1) [k]) (h1 : exF all D (seg ns bb mid) ⟨out, []⟩ = .ok x) (h2 : exF all D (seg ns mid (k + 1)) ⟨x.out, []⟩ = .ok y) : exF all D (seg ns bb (k + 1)) ⟨out, []⟩ = .ok ⟨y.out, x.rt ++ y.rt⟩ := by
  rw [seg_join h0 hf.le, exF_append, h1]
  have h3 := exF_pre (all := all) hT (seg_shp hs mid (k + 1)) (x := ⟨x.out, []⟩) (seg_hts hf) x.rt
  unfold preX at h3
  simp only [List.append_nil] at h3
  show exF all D (seg ns mid (k + 1)) x = _
  have e : x = ⟨x.out, x.rt⟩ := rfl
  rw [e, h3, h2]
  rfl
theorem kid_bad (hT : TreesD D) (hs : Shp ns) {x : X} {q : Nat} (h0 : bb ≤ mid) (hf : Forest ns mid (k + 1) [k]) (hc : k + 1 ≤ c) (h1 : exF all D (seg ns bb mid) ⟨out, []⟩ = .ok x) (h2 : exF all D (seg ns mid (k + 1)) ⟨x.out, []⟩ = .error q) : exF all D (seg ns bb c) ⟨out, []⟩ = .error q := by
  have hle := hf.le
  have h3 : exF all D (seg ns bb (k + 1)) ⟨out, []⟩ = .error q := by
    rw [seg_join h0 hle, exF_append, h1]
    have h3 := exF_pre (all := all) hT (seg_shp hs mid (k + 1)) (x := ⟨x.out, []⟩) (seg_hts hf) x.rt
    unfold preX at h3
    simp only [List.append_nil] at h3
    show exF all D (seg ns mid (k + 1)) x = _
    have e : x = ⟨x.out, x.rt⟩ := rfl
    rw [e, h3, h2]
    rfl
  rw [seg_join (b := k + 1) (by omega) hc, exF_append, h3]
theorem put_all {n : Nd} {x : X} (hn : ns[c]? = some n) (h6 : n.op ≠ 6) (h0 : bb ≤ c) (h1 : exF all D (seg ns bb c) ⟨out, []⟩ = .ok x) (hl : x.rt.length = n.l.length) : exF all D (seg ns bb (c + 1)) ⟨out, []⟩ = if 1024 ≤ x.out.length then .error 3 else .ok ⟨x.out ++ [withL n x.rt], [x.out.length]⟩ := by
  rw [seg_join h0 (Nat.le_succ c), seg_one hn, exF_append, h1]
  show exF all D [n] x = _
  by_cases hq : 1024 ≤ x.out.length
  · rw [exF_long h6 hq, if_pos hq]
  · rw [exF_put h6 hq, exF_nil, if_neg hq]
    unfold putX
    rw [hl, Nat.sub_self, List.drop_zero, List.take_zero]
    rfl
end
/-! ### What a walk owes -/
def WkQ (B : Nat) (u : World) (b ob m : Nat) (A2 : Option Addr) (c2 : Nat) (nv : Value) (l : List NR) (o : List Bool) (RES : Except Nat X) (e : Ending) (u' : World) : Prop :=
  ∃ (nv' : Value) (new : List NR) (er r : Int), e = .returned (.int .i64 r) ∧ WK B u' b ob m A2 c2 nv' (l ++ new) o er ∧ Lies u nv nv' ∧ (∀ x ∈ new, ∀ k, (Value.slice x.2.1 x.1.l.length x.2.2).ownBlock = some k → u.heap.size ≤ k) ∧ Keeps (Wr b ob nv) u u' ∧
    match RES with
    | .error q => er = (q : Int) ∧ 1 ≤ q
    | .ok x => er = 0 ∧ GN ((l ++ new).map (·.1)) x.out ∧ (l ++ new).length ≤ 1024 ∧ ∃ j : Nat, r = (j : Int) ∧ x.rt = [j]
theorem lies_refl (u : World) (v : Value) : Lies u v v := .inl rfl
theorem lies_trans {u u1 : World} {v v1 v2 : Value} (hs : u.heap.size ≤ u1.heap.size) (h1 : Lies u v v1) (h2 : Lies u1 v1 v2) : Lies u v v2 := by
  rcases h2 with h2 | ⟨k, h2, h3⟩
  · rcases h1 with h1 | ⟨k, h1, h4⟩
    · exact .inl (h2.trans h1)
    · exact .inr ⟨k, h2.trans h1, h4⟩
  · exact .inr ⟨k, h2, Nat.le_trans hs h3⟩
theorem lies_wr {u : World} {v v1 : Value} {b ob k : Nat} (h : Lies u v v1) (hk : k < u.heap.size) (hn : ¬ Wr b ob v k) : ¬ Wr b ob v1 k := by
  rintro (q | q | q)
  · exact hn (.inl q)
  · exact hn (.inr (.inl q))
  · rcases h with h | ⟨j, h, h2⟩
    · exact hn (.inr (.inr (h ▸ q)))
    · rw [h] at q
      cases q
      omega
/-- A walk that tells an error and puts nothing. -/
theorem wkq_bad {B : Nat} {u u' : World} {b ob m : Nat} {A2 : Option Addr} {c2 : Nat} {nv : Value} {l : List NR} {o : List Bool} {RES : Except Nat X} {q : Nat} (hR : RES = .error q) (hq : 1 ≤ q) (h : WK B u' b ob m A2 c2 nv l o q) (hk : Keeps (Wr b ob nv) u u') {r : Int} : WkQ B u b ob m A2 c2 nv l o RES (.returned (.int .i64 r)) u' := by
  rw [hR]
  exact ⟨nv, [], q, r, rfl, by rw [List.append_nil]; exact h, lies_refl _ _, fun x hx => absurd hx List.not_mem_nil, hk, rfl, hq⟩
theorem gn_get {gs : List Gd} {ns : List Nd} (h : GN gs ns) {i : Nat} {n : Nd} (hn : ns[i]? = some n) : i < gs.length ∧ GN1 (gs.getD i gd0) n := by
  have hl : i < ns.length := (List.getElem?_eq_some_iff.1 hn).1
  have hl2 : i < gs.length := by rw [h.1]; exact hl
  have := h.2 i hl2
  rw [List.getD_eq_getElem?_getD (l := ns), hn] at this
  exact ⟨hl2, this⟩
end Go.Proofs.Ytgppanbikfobbaa.Sy.Ap.Wk

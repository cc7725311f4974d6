/- The matcher: a node walked. -/
import Derived.Test.YtdaaigkmlbpbgaaPCr
import Derived.Maps.OwnSet
import Derived.WalkSpells
import Derived.Test.YtdaaigkmlbpbgaaPZp
namespace Go.Proofs.Ytdaaigkmlbpbgaa.Sy.Lg.Wl
open Go.RowKit Go.Proofs.Ytdaaigkmlbpbgaa.Sy.Ap Go.Proofs.Ytdaaigkmlbpbgaa.Sy.Ap.Wk Go.Proofs.Ytdaaigkmlbpbgaa.Sy.Lg.Oq
set_option maxRecDepth 100000
set_option linter.unusedVariables false

/-! ### By plain relations -/
theorem chain_snoc {R : Nat → Rel} (k : Nat) : ∀ (l : List Nat) (i j : Nat), chainR R (l ++ [k]) i j ↔ ∃ m, chainR R l i m ∧ R k m j
  | [], i, j => by
    show (∃ m, R k i m ∧ m = j) ↔ ∃ m, i = m ∧ R k m j
    constructor
    · rintro ⟨m, h1, rfl⟩; exact ⟨i, rfl, h1⟩
    · rintro ⟨m, rfl, h1⟩; exact ⟨j, h1, rfl⟩
  | x :: l, i, j => by
    show (∃ m, R x i m ∧ chainR R (l ++ [k]) m j) ↔ ∃ m, (∃ m', R x i m' ∧ chainR R l m' m) ∧ R k m j
    constructor
    · rintro ⟨m, h1, h2⟩
      obtain ⟨m2, h3, h4⟩ := (chain_snoc k l m j).1 h2
      exact ⟨m2, ⟨m, h1, h3⟩, h4⟩
    · rintro ⟨m2, ⟨m, h1, h3⟩, h4⟩
      exact ⟨m, h1, (chain_snoc k l m j).2 ⟨m2, h3, h4⟩⟩
theorem img_chain {R : Nat → Rel} {X : Nat → Prop} (k : Nat) (l : List Nat) (j : Nat) : img (chainR R (l ++ [k])) X j ↔ img (R k) (img (chainR R l) X) j := by
  constructor
  · rintro ⟨i, hi, h⟩
    obtain ⟨m, h1, h2⟩ := (chain_snoc k l i j).1 h
    exact ⟨m, ⟨i, hi, h1⟩, h2⟩
  · rintro ⟨m, ⟨i, hi, h1⟩, h2⟩
    exact ⟨i, hi, (chain_snoc k l i j).2 ⟨m, h1, h2⟩⟩
theorem img_nil {R : Nat → Rel} {X : Nat → Prop} (j : Nat) : img (chainR R []) X j ↔ X j := by
  constructor
  · rintro ⟨i, hi, rfl⟩; exact hi
  · intro h; exact ⟨j, h, rfl⟩
theorem take_next {l : List Nat} {i : Nat} (h : i < l.length) : l.take (i + 1) = l.take i ++ [l.getD i 0] := by
  rw [List.getD_eq_getElem?_getD, List.getElem?_eq_getElem h, List.take_succ_eq_append_getElem h]; rfl
/-- What one knows of the node k. -/
structure NodeAt (M : MC) (k : Nat) (g : Gd) (n : Nd) (kA : Option Addr) : Prop where
  lt : k < M.n
  get : M.ns[k]? = some n
  gn : GN1 g n
  few : n.l.length ≤ 1024
  kid : ∀ i, i < n.l.length → KidAt M kA i (n.l.getD i 0)
section
variable {M : MC} {k : Nat} {g : Gd} {n : Nd} {kA : Option Addr}
theorem NodeAt.low (hM : M.Ok) (h : NodeAt M k g n kA) : ∀ c ∈ n.l, c < k := (hM.tree.low k n h.get).2
theorem NodeAt.shp (hM : M.Ok) (h : NodeAt M k g n kA) : shapeB n = true := hM.tree.shp n (List.mem_of_getElem? h.get)
theorem NodeAt.len (h : NodeAt M k g n kA) : g.l.length = n.l.length := by rw [h.gn.l, List.length_map]
end
end Go.Proofs.Ytdaaigkmlbpbgaa.Sy.Lg.Wl

namespace Go.Proofs.Ytdaaigkmlbpbgaa.Sy.Lg.Wl
open Go.RowKit Go.Proofs.Ytdaaigkmlbpbgaa.Sy.Ap Go.Proofs.Ytdaaigkmlbpbgaa.Sy.Ap.Wk Go.Proofs.Ytdaaigkmlbpbgaa.Sy.Lg.Oq
set_option maxRecDepth 100000
set_option linter.unusedVariables false

theorem at_lt (s : ByteArray) (i : Nat) (h : i < (bs s).length) : at_ (bs s) i < 256 := by
  have hm : at_ (bs s) i ∈ bs s := by unfold at_; rw [List.getD_eq_getElem?_getD, List.getElem?_eq_getElem h]; exact List.getElem_mem h
  exact bs_lt s _ hm
end Go.Proofs.Ytdaaigkmlbpbgaa.Sy.Lg.Wl

namespace Go.Proofs.Ytdaaigkmlbpbgaa.Sy.Lg.Ef
open Go.RowKit Go.Proofs.Ytdaaigkmlbpbgaa.Sy.Ap Go.Proofs.Ytdaaigkmlbpbgaa.Sy.Ap.Wk Go.Proofs.Ytdaaigkmlbpbgaa.Sy.Lg.Oq Go.Proofs.Ytdaaigkmlbpbgaa.Sy.Lg.Wl
set_option maxRecDepth 100000
set_option linter.unusedVariables false

/-- Where the node k lies. -/
def NodeIn (M : MC) (k : Nat) (g : Gd) (kA : Option Addr) (mm kc : Nat) : Prop := ∃ bt ot, M.tA = some ⟨bt, ot, none⟩ ∧ bt < M.B ∧ M.W0.rangeAt bt (ot + k * 9) [.int .u8 g.op, .int .u64 (W g.s 0), .int .u64 (W g.s 1), .int .u64 (W g.s 2), .int .u64 (W g.s 3), .slice kA mm kc, .int .i64 g.lo, .int .i64 g.hi, .string g.nm]
end Go.Proofs.Ytdaaigkmlbpbgaa.Sy.Lg.Ef

namespace Go.Proofs.Ytdaaigkmlbpbgaa.Sy.Lg.Ef
open Go.RowKit Go.Proofs.Ytdaaigkmlbpbgaa.Sy.Ap Go.Proofs.Ytdaaigkmlbpbgaa.Sy.Ap.Wk Go.Proofs.Ytdaaigkmlbpbgaa.Sy.Lg.Oq Go.Proofs.Ytdaaigkmlbpbgaa.Sy.Lg.Wl
set_option maxRecDepth 100000
set_option linter.unusedVariables false

/-! ### All nodes -/
/-- Every node lies somewhere. -/
theorem node_at {M : MC} (hM : M.Ok) {k : Nat} (hk : k < M.n) : ∃ g n kA mm kc, NodeAt M k g n kA ∧ NodeIn M k g kA mm kc ∧ n.l.length = mm := by
  have hk2 : k < M.gs.length := by rw [hM.len]; exact hk
  have hk3 : k < M.ns.length := by rw [← hM.gn.1]; exact hk2
  obtain ⟨bt, ot, h1, h2, A, c, hI, hr⟩ := hM.nds.at_ hk2
  have hg := hM.gn.2 k hk2
  have hget : M.ns[k]? = some (M.ns.getD k nd0) := by rw [List.getD_eq_getElem?_getD, List.getElem?_eq_getElem hk3]; rfl
  have hkl : (M.gs.getD k gd0).l.length = (M.ns.getD k nd0).l.length := by rw [hg.l, List.length_map]
  have hfew : (M.ns.getD k nd0).l.length ≤ 1024 := by
    rw [← hkl]
    exact gn_kids hM.gn hM.tree _ (by rw [List.getD_eq_getElem?_getD, List.getElem?_eq_getElem hk2]; exact List.getElem_mem hk2)
  refine ⟨M.gs.getD k gd0, M.ns.getD k nd0, A, (M.ns.getD k nd0).l.length, c, ⟨hk, hget, hg, hfew, fun i hi => ?_⟩, ⟨bt, ot, h1, h2, ?_⟩, rfl⟩
  · obtain ⟨b, o, e1, e2, e3⟩ := hI.at_ (k := i) (by rw [hkl]; exact hi)
    refine ⟨b, o, e1, e2, ?_⟩
    rw [e3, hg.l]
    generalize (M.ns.getD k nd0).l = l at hi ⊢
    rw [List.getD_eq_getElem?_getD, List.getElem?_map, List.getElem?_eq_getElem hi, List.getD_eq_getElem?_getD, List.getElem?_eq_getElem hi]
    rfl
  · unfold gdL at hr
    rw [hkl] at hr
    exact hr
end Go.Proofs.Ytdaaigkmlbpbgaa.Sy.Lg.Ef

namespace Go.Proofs.Ytdaaigkmlbpbgaa.Sy.Lg.En
open Go.RowKit Go.Proofs.Ytdaaigkmlbpbgaa.Sy.Ap Go.Proofs.Ytdaaigkmlbpbgaa.Sy.Ap.Wk Go.Proofs.Ytdaaigkmlbpbgaa.Sy.Lg.Oq Go.Proofs.Ytdaaigkmlbpbgaa.Sy.Lg.Ef
set_option maxRecDepth 100000
set_option linter.unusedVariables false

theorem make_intsL (n : Nat) (hn : n ≤ 1000000) (w : World) : (Instr.makeSlice 36 (.int .i64 (n : Int)) (.int .i64 (n : Int))).run Try.prog w =
    .ok (.slice (some ⟨w.heap.size, 0, none⟩) n n) (w.alloc (.cells (fnC n (fun _ => .int .i64 0)) 3)) := by
  obtain ⟨i0, hi0, hz0, hz1, hz2⟩ := info_parts int_info
  have := run_make (P := Try.prog) w 36 3 i0 _ Try.underlying36 hi0 hz0 .i64 .i64 (n : Int) (n : Int) (by omega) (Int.le_refl _) (by rw [hz2]; omega) (by omega)
  rw [this, hz1, Int.toNat_natCast, made_one _ rfl]
/-! ### The matcher made -/
def IntsQ (w : World) (n : Nat) (z : Value) (u : World) : Prop := ∃ b, z = .slice (some ⟨b, 0, none⟩) n n ∧ RowA u b 3 (fnC n (fun _ => .int .i64 0)) ∧ w.heap.size ≤ b
section
variable {w u u' : World} {n : Nat} {tv : Value} {s : ByteArray} {z : Value}
theorem IntsQ.below (h : IntsQ w n z u) (hb : Below u.heap.size u u') : IntsQ w n z u' := by
  obtain ⟨b, h1, h2, h3⟩ := h
  exact ⟨b, h1, h2.below hb h2.lt, h3⟩
end
/-! ### No name -/
end Go.Proofs.Ytdaaigkmlbpbgaa.Sy.Lg.En

namespace Go.Proofs.Ytdaaigkmlbpbgaa.Sy.Lg.En
open Go.RowKit Go.Proofs.Ytdaaigkmlbpbgaa.Sy.Ap Go.Proofs.Ytdaaigkmlbpbgaa.Sy.Ap.Wk Go.Proofs.Ytdaaigkmlbpbgaa.Sy.Lg.Oq Go.Proofs.Ytdaaigkmlbpbgaa.Sy.Lg.Ef
set_option maxRecDepth 100000
set_option linter.unusedVariables false

/-! ### Ends -/
open Classical in
/-- Where the tree ns may end in the text t, from i on. -/
noncomputable def endL (ns : List Nd) (t : List Nat) (i : Nat) : List Nat := (List.range (t.length + 1)).filter fun j => decide (Mt ns t (ns.length - 1) i j)
open Classical in
theorem mem_endL {ns : List Nd} {t : List Nat} {i j : Nat} (hl : Low ns) (hi : i ≤ t.length) : j ∈ endL ns t i ↔ Mt ns t (ns.length - 1) i j := by
  unfold endL
  rw [List.mem_filter, List.mem_range, decide_eq_true_iff]
  exact ⟨fun h => h.2, fun h => ⟨by have := (Mt_in hl t _ i j h).2 hi; omega, h⟩⟩
end Go.Proofs.Ytdaaigkmlbpbgaa.Sy.Lg.En

namespace Go.Proofs.Ytdaaigkmlbpbgaa.Sy.Lg.En
open Go.RowKit Go.Proofs.Ytdaaigkmlbpbgaa.Sy.Ap Go.Proofs.Ytdaaigkmlbpbgaa.Sy.Ap.Wk
set_option maxRecDepth 100000
set_option linter.unusedVariables false

theorem nts_own {w : World} {b : Nat} {A : Option Addr} {c : Nat} {l : List Nat} (h : w.ownsRow b 3 1 (.slice A l.length c) l.length (i64s l)) : Nts w w.heap.size A l := by
  obtain ⟨A2, c2, e, hN⟩ := Nts.of_own h
  injection e with e1 e2 e3
  subst e1
  exact hN
/-! ### The laws' helpers -/
theorem endL_len (ns : List Nd) (t : List Nat) (i : Nat) : (endL ns t i).length ≤ t.length + 1 := by
  unfold endL
  have := List.length_filter_le (fun j => @decide (Mt ns t (ns.length - 1) i j) (Classical.propDecidable _)) (List.range (t.length + 1))
  rw [List.length_range] at this
  exact this
end Go.Proofs.Ytdaaigkmlbpbgaa.Sy.Lg.En

namespace Go.Proofs.Ytdaaigkmlbpbgaa.Sy.Lg.En
open Go.RowKit Go.Proofs.Ytdaaigkmlbpbgaa.Sy.Ap Go.Proofs.Ytdaaigkmlbpbgaa.Sy.Ap.Wk
set_option maxRecDepth 100000
set_option linter.unusedVariables false

/-! ### What the examples mean -/
theorem endL_few (ns : List Nd) (s : ByteArray) (i : Nat) (hs : s.size ≤ 63) : (endL ns (bs s) i).length ≤ 100 := by
  have := endL_len ns (bs s) i
  rw [bs_len] at this
  omega
end Go.Proofs.Ytdaaigkmlbpbgaa.Sy.Lg.En

namespace Go.Proofs.Ytdaaigkmlbpbgaa.Sy.Lg.En
open Go.RowKit Go.Proofs.Ytdaaigkmlbpbgaa.Sy.Ap Go.Proofs.Ytdaaigkmlbpbgaa.Sy.Ap.Wk
set_option maxRecDepth 100000
set_option linter.unusedVariables false

/-! ### light -/
/-- The row in which light counts. -/
abbrev DpF (u : World) (q n : Nat) (f : Nat → Int) : Prop := RowF u q 3 n (fun i => .int .i64 (f i))
structure LtS (w : World) (q n : Nat) (f : Nat → Int) (u : World) : Prop where
  dp : DpF u q n f
  bel : Below w.heap.size w u
theorem LtS.below {w : World} {q n : Nat} {f : Nat → Int} {u u' : World} (h : LtS w q n f u) (hb : Below u.heap.size u u') : LtS w q n f u' := ⟨h.dp.below hb h.dp.lt, h.bel.trans (hb.mono h.bel.size)⟩
theorem LtS.set {w : World} {q n : Nat} {f : Nat → Int} {u : World} (h : LtS w q n f u) (hq : w.heap.size ≤ q) (i : Nat) (z : Int) : LtS w q n (fun j => if j = i then z else f j) (u.setCell ⟨q, i, none⟩ (.int .i64 z)) := by
  have h1 := h.dp.put i (.int .i64 z)
  have e : (fun j => if j = i then Value.int .i64 z else .int .i64 (f j)) = fun j => .int .i64 (if j = i then z else f j) := by
    funext j
    split <;> rfl
  rw [e] at h1
  exact ⟨h1, bel_set h.bel _ _ hq⟩
theorem eby {d : Option Nat} {u u' : World} (_ : true = true) (h : Below u.heap.size u u') : EbL d u u' := h
def BoolR (w : World) (e : Ending) (w' : World) : Prop := Below w.heap.size w w' ∧ ∃ z, e = .returned (.bool z)
/-! ### good -/
end Go.Proofs.Ytdaaigkmlbpbgaa.Sy.Lg.En

/- Texts laid as one: Ac Ad Sd Se Sf Ae Og Af Ag Ah Ai Aj Ak Al Am An. -/
import Derived.Test.YtcidimjjclanmaaDoorAb
import Derived.Test.YtcidimjjclanmaaDoorM4
import Derived.Test.YtcidimjjclanmaaDoorSc
import Derived.Maps.OwnSet
import Derived.Test.YtcidimjjclanmaaDoorM1
import Derived.ProofKit
import Derived.OpenShut
import Derived.ChangeOld
import Derived.Below
import Derived.Deep.Slices
import Derived.Deep.AppendLies
import Derived.Deep.LoopGhost

/- Maps keyed by strings, told by a function; Defs in memory; what names stand for (the landed meanings, Right). -/
namespace Go.Proofs.YtcidimjjclanmaaDoor.Sy
open Go.RowKit
set_option maxRecDepth 100000
set_option linter.unusedVariables false

/-! ### Maps -/
def heldE (v : Value) : Option (DataW Value × List MemPlace) := some (.held v, [])
def keyS (s : ByteArray) : Lit := .string s.data.toList
theorem keyS_inj {s t : ByteArray} (h : keyS s = keyS t) : s = t := by
  unfold keyS at h
  injection h with h
  cases s; cases t
  congr
  exact Array.toList_inj.1 h
theorem str_key : Maps.Keyed Tryd.prog 9 := Maps.string_keyed Tryd.underlying9
def cntO (o : Option Value) : Nat := if o.isSome then 1 else 0
/-- Block b is a map that has these values at these keys, and no others. -/
def MapV (w : World) (b n : Nat) (f : ByteArray → Option Value) : Prop :=
  ∃ D : DataW Value, w.ownsMap Tryd.prog 9 heldE b n D ∧ ∀ s : ByteArray, Maps.has D (keyS s) = (f s).isSome ∧ ∀ v z, f s = some v → D.atKey (keyS s) z = .held v
section
variable {w w' : World} {b n : Nat} {f : ByteArray → Option Value}
theorem mapV_new (w : World) : MapV (w.alloc (.map #[] 0)) w.heap.size 0 (fun _ => none) :=
  ⟨.map [], World.ownsMap_made w Tryd.prog 9 heldE, fun s => ⟨rfl, fun v z h => by cases h⟩⟩
theorem MapV.lt (h : MapV w b n f) : b < w.heap.size := by
  obtain ⟨D, h, _⟩ := h
  exact h.lt
theorem MapV.blk (h : MapV w b n f) : ∃ es clock, w.heap[b]? = some (.map es clock) := by
  obtain ⟨D, ⟨es, clock, h, _⟩, _⟩ := h
  exact ⟨es, clock, h⟩
theorem MapV.keep (h : MapV w b n f) (hb : w'.heap[b]? = w.heap[b]?) : MapV w' b n f := by
  obtain ⟨D, ⟨es, clock, h1, h2⟩, h3⟩ := h
  exact ⟨D, ⟨es, clock, hb.trans h1, h2⟩, h3⟩
theorem MapV.below {B : Nat} (h : MapV w b n f) (hb : Below B w w') (hB : b < B) : MapV w' b n f := h.keep (hb.block b hB)
theorem MapV.grown {row : Option Nat} (h : MapV w b n f) (hg : w.grownBy w' row) (hr : some b ≠ row) : MapV w' b n f := h.keep (hg.block b h.lt hr)
theorem MapV.alloc (h : MapV w b n f) (o : Obj) : MapV (w.alloc o) b n f := h.keep (Below.heap_alloc w o b h.lt)
theorem MapV.congr {g : ByteArray → Option Value} (h : MapV w b n f) (e : ∀ s, f s = g s) : MapV w b n g := by
  have : f = g := funext e
  exact this ▸ h
end
section
variable {w : World} {ops : Array Oper} {rest : List Oper} {o : Oper} {a : Act} {Q : Exit → Act → World → Prop}
/-- 'v, ok := m[k]'. -/
theorem wp_look {m x : Operand} (t e : TypeId) (hg : o.guard = none) (hop : o.op = Op.lookup t m x true) (ht : Tryd.prog.underlying t = some (.map 9 e)) {z : Value} (hz : (zeroValue e).run Tryd.prog w = .ok z w) (b n : Nat) (f : ByteArray → Option Value)
    (hm : a.eval m = .map (some b)) (h : MapV w b n f) (s : ByteArray) (hx : a.eval x = .string s) (hs : s.size ≤ maxLen)
    (hK : wpList Tryd.prog ops Q rest (a.put o.dst (.tuple #[(f s).getD z, .bool (f s).isSome])) w) : wpList Tryd.prog ops Q (o :: rest) a w := by
  obtain ⟨D, h1, h2⟩ := h
  refine wpList_lookup_own_ok w hg m x t hop 9 e str_key ht heldE hz (.held z) [] rfl b n D hm h1 (.string s) (keyS s) hx (WideMaps.keyOf_string_mk Tryd.underlying9 hs) ?_
  intro v ps hv
  have hv2 : (DataW.held v : DataW Value) = D.atKey (keyS s) (.held z) := by
    unfold heldE at hv
    injection hv with hv
    exact (congrArg Prod.fst hv)
  obtain ⟨h3, h4⟩ := h2 s
  rw [h3]
  cases hf : f s with
  | none =>
    rw [hf] at h3
    rw [Maps.atKey_of_not_has h3] at hv2
    cases hv2
    rw [hf] at hK
    exact hK
  | some u =>
    rw [h4 u _ hf] at hv2
    cases hv2
    rw [hf] at hK
    exact hK
/-- 'm[k] = v'. -/
theorem wp_mput {m x y : Operand} (t e : TypeId) (hg : o.guard = none) (hop : o.op = Op.mapUpdate t m x y) (ht : Tryd.prog.underlying t = some (.map 9 e)) (b n : Nat) (f : ByteArray → Option Value)
    (hm : a.eval m = .map (some b)) (h : MapV w b n f) (hn : n < maxLen) (s : ByteArray) (v : Value) (hx : a.eval x = .string s) (hv : a.eval y = v) (hs : s.size ≤ maxLen)
    (hK : ∀ w', MapV w' b (n + 1) (fun k => if k = s then some v else f k) → w.mapTurned w' b → wpList Tryd.prog ops Q rest (a.put o.dst undef) w') : wpList Tryd.prog ops Q (o :: rest) a w := by
  obtain ⟨D, h1, h2⟩ := h
  have hkey : keyOf Tryd.prog 9 (.string s) = some (keyS s) := WideMaps.keyOf_string_mk Tryd.underlying9 hs
  refine wpList_mapUpdate_in w hg m x y t hop 9 e str_key ht heldE b n D hm h1 hn (.string s) v (keyS s) hx hv hkey (.held v) [] rfl ?_
  intro w' h3 h4
  refine hK w' ⟨_, h3, fun k => ?_⟩ h4
  by_cases hk : k = s
  · subst hk
    refine ⟨?_, fun u z hu => ?_⟩
    · rw [Maps.has_put_same h1.isMap (str_key.key hkey)]
      simp
    · simp at hu
      subst hu
      exact Maps.atKey_put_same h1.isMap (str_key.key hkey) _ _
  · have hne : keyS k ≠ keyS s := fun q => hk (keyS_inj q)
    rw [Maps.has_put_other hne]
    simp only [if_neg hk]
    refine ⟨(h2 k).1, fun u z hu => ?_⟩
    rw [Maps.atKey_put_other hne]
    exact (h2 k).2 u z hu
/-- 'delete(m, k)'. -/
theorem wp_mdel {m x : Operand} (t e : TypeId) (hg : o.guard = none) (hop : o.op = Op.call { callee := Callee.builtin Builtin.delete, args := #[m, x], argTypes := #[t, 9] }) (ht : Tryd.prog.underlying t = some (.map 9 e)) (b n : Nat) (f : ByteArray → Option Value)
    (hm : a.eval m = .map (some b)) (h : MapV w b n f) (s : ByteArray) (hx : a.eval x = .string s) (hs : s.size ≤ maxLen)
    (hK : ∀ w', MapV w' b (n - cntO (f s)) (fun k => if k = s then none else f k) → w.mapTurned w' b → wpList Tryd.prog ops Q rest (a.put o.dst (.tuple #[])) w') : wpList Tryd.prog ops Q (o :: rest) a w := by
  obtain ⟨D, h1, h2⟩ := h
  refine wpList_delete_own w hg m x t 9 hop e str_key ht heldE b n D hm h1 (.string s) (keyS s) hx (WideMaps.keyOf_string_mk Tryd.underlying9 hs) ?_
  intro w' h3 h4
  have h5 : w'.ownsMap Tryd.prog 9 heldE b (n - cntO (f s)) (D.del (keyS s)) := by
    have e1 := Maps.size_del (k := keyS s) (h1.tidy str_key)
    have e2 := h1.size_le
    rw [(h2 s).1] at e1
    unfold cntO
    obtain ⟨es, cl, q1, q2, q3, q4⟩ := h3
    refine ⟨es, cl, q1, q2, ?_, q4⟩
    have e3 : es.size = Maps.size (D.del (keyS s)) := by rw [q4]; simp [Maps.size, length_sorted]
    omega
  refine hK w' ⟨_, h5, fun k => ?_⟩ h4
  by_cases hk : k = s
  · subst hk
    refine ⟨?_, fun u z hu => ?_⟩
    · rw [Maps.has_del_same]
      simp
    · simp at hu
  · have hne : keyS k ≠ keyS s := fun q => hk (keyS_inj q)
    rw [Maps.has_del_other hne]
    simp only [if_neg hk]
    refine ⟨(h2 k).1, fun u z hu => ?_⟩
    rw [Maps.atKey_del_other hne]
    exact (h2 k).2 u z hu
end

/-! ### Defs in memory -/
abbrev DG := ByteArray × List Gd
def dg0 : DG := (ByteArray.empty, [])
def dfL (d : DG) (A : Option Addr) (c : Nat) : List Value := [.string d.1, .slice A d.2.length c]
theorem dfL_one (d : DG) (A : Option Addr) (c : Nat) : (dfL d A c).toArray.all (·.oneCell') = true := by simp [dfL, Value.oneCell']
abbrev zeroDC : Array Value := #[.string { data := #[] }, .slice none 0 0]
/-- A Def lies in block b from off on. -/
def DfC (w : World) (B b off : Nat) (d : DG) : Prop := ∃ A c, Nds w B A d.2 ∧ w.rangeAt b off (dfL d A c) ∧ d.2.length ≤ c
/-- The slice at A reads as the Defs ds. -/
def Dfs (w : World) (B : Nat) (A : Option Addr) (ds : List DG) : Prop :=
  ds ≠ [] → ∃ b off, A = some ⟨b, off, none⟩ ∧ b < B ∧ ∀ i, i < ds.length → DfC w B b (off + i * 2) (ds.getD i dg0)
section
variable {w w' : World} {B B' : Nat} {A : Option Addr} {ds : List DG}
theorem Dfs.keep (h : Dfs w B A ds) (hc : ∀ p : Addr, p.block < B → w'.cell? p = w.cell? p) : Dfs w' B A ds := fun hx => by
  obtain ⟨b, off, e, hb, ha⟩ := h hx
  refine ⟨b, off, e, hb, fun i hi => ?_⟩
  obtain ⟨A1, c1, h1, h2, h3⟩ := ha i hi
  exact ⟨A1, c1, h1.keep hc, fun j v hv => (hc _ hb).trans (h2 j v hv), h3⟩
theorem Dfs.below (h : Dfs w B A ds) (hb : Below B w w') : Dfs w' B A ds := h.keep fun _ hp => hb.cell hp
theorem Dfs.more (h : Dfs w B A ds) (hB : B ≤ B') : Dfs w B' A ds := fun hx => by
  obtain ⟨b, off, e, hb, ha⟩ := h hx
  exact ⟨b, off, e, by omega, fun i hi => by
    obtain ⟨A1, c1, h1, h2, h3⟩ := ha i hi
    exact ⟨A1, c1, h1.more hB, h2, h3⟩⟩
theorem Dfs.at_ (h : Dfs w B A ds) {k : Nat} (hk : k < ds.length) : ∃ b off, A = some ⟨b, off, none⟩ ∧ b < B ∧ DfC w B b (off + k * 2) (ds.getD k dg0) := by
  obtain ⟨b, off, e, hb, ha⟩ := h (fun e => by subst e; simp at hk)
  exact ⟨b, off, e, hb, ha k hk⟩
end
/-- How great Defs are at most. -/
structure DOk (ds : List DG) : Prop where
  len : ds.length ≤ 1000
  nm : ∀ d ∈ ds, d.1.size ≤ maxLen
  few : ∀ d ∈ ds, d.2.length ≤ 2000
  nds : ∀ d ∈ ds, ∀ g ∈ d.2, g.nm.size ≤ maxLen ∧ g.l.length ≤ maxLen
theorem getD_mem {ds : List DG} {k : Nat} (hk : k < ds.length) : ds.getD k dg0 ∈ ds := by
  rw [List.getD_eq_getElem?_getD, List.getElem?_eq_getElem hk]
  exact List.getElem_mem hk
/-- P6.1's Right. -/
def RightDs (ds : List DG) : Prop := (∀ d ∈ ds, nameB (bs d.1) = true ∧ RightG d.2) ∧ ds.Pairwise fun a b => a.1 ≠ b.1
theorem RightDs.take {ds : List DG} (h : RightDs ds) (k : Nat) : RightDs (ds.take k) :=
  ⟨fun d hd => h.1 d (List.mem_of_mem_take hd), h.2.sublist (List.take_sublist _ _)⟩
theorem take_snoc {ds : List DG} {k : Nat} (hk : k < ds.length) : ds.take (k + 1) = ds.take k ++ [ds.getD k dg0] := by
  rw [List.take_add_one, List.getElem?_eq_getElem hk, List.getD_eq_getElem?_getD, List.getElem?_eq_getElem hk]
  rfl
theorem RightDs.snoc {ds : List DG} {d : DG} (h : RightDs ds) (h1 : nameB (bs d.1) = true) (h2 : RightG d.2) (h3 : ∀ x ∈ ds, x.1 ≠ d.1) : RightDs (ds ++ [d]) := by
  refine ⟨fun x hx => ?_, List.pairwise_append.2 ⟨h.2, List.pairwise_singleton _ _, fun a ha b hb => ?_⟩⟩
  · rcases List.mem_append.1 hx with q | q
    · exact h.1 x q
    · obtain rfl := List.mem_singleton.1 q
      exact ⟨h1, h2⟩
  · obtain rfl := List.mem_singleton.1 hb
    exact h3 a ha
/-- A map of what these names stand for. -/
structure MapT (w : World) (b n B : Nat) (ds : List DG) (f : ByteArray → Option Value) : Prop where
  map : MapV w b n f
  none : ∀ s, f s = none ↔ ∀ d ∈ ds, d.1 ≠ s
  some : ∀ s v, f s = some v → ∃ d ∈ ds, d.1 = s ∧ ∃ A c, v = .slice A d.2.length c ∧ Nds w B A d.2 ∧ d.2.length ≤ c
theorem MapT.keep {w w' : World} {b n B : Nat} {ds : List DG} {f : ByteArray → Option Value} (h : MapT w b n B ds f) (hb : w'.heap[b]? = w.heap[b]?) (hc : ∀ p : Addr, p.block < B → w'.cell? p = w.cell? p) : MapT w' b n B ds f :=
  ⟨h.map.keep hb, h.none, fun s v hv => by
    obtain ⟨d, h1, h2, A, c, h3, h4, h5⟩ := h.some s v hv
    exact ⟨d, h1, h2, A, c, h3, h4.keep hc, h5⟩⟩
theorem mapT_new (w : World) (B : Nat) : MapT (w.alloc (.map #[] 0)) w.heap.size 0 B [] (fun _ => Option.none) :=
  ⟨mapV_new w, fun s => ⟨fun _ d hd => absurd hd List.not_mem_nil, fun _ => rfl⟩, fun s v h => by cases h⟩
theorem MapT.put {w w' : World} {b n B : Nat} {ds : List DG} {f : ByteArray → Option Value} {d : DG} {A : Option Addr} {c : Nat} (h : MapT w b n B ds f) (hm : MapV w' b (n + 1) (fun k => if k = d.1 then Option.some (.slice A d.2.length c) else f k)) (hc : ∀ p : Addr, p.block < B → w'.cell? p = w.cell? p) (hN : Nds w B A d.2) (hca : d.2.length ≤ c) : MapT w' b (n + 1) B (ds ++ [d]) (fun k => if k = d.1 then Option.some (.slice A d.2.length c) else f k) := by
  refine ⟨hm, fun s => ?_, fun s v hv => ?_⟩
  · by_cases hs : s = d.1
    · subst hs
      simp only [if_true]
      exact ⟨fun q => (by cases q), fun q => absurd rfl (q d (by simp))⟩
    · simp only [if_neg hs]
      rw [h.none]
      constructor
      · intro q x hx
        rcases List.mem_append.1 hx with r | r
        · exact q x r
        · obtain rfl := List.mem_singleton.1 r
          exact fun e => hs e.symm
      · exact fun q x hx => q x (List.mem_append_left _ hx)
  · by_cases hs : s = d.1
    · subst hs
      simp at hv
      exact ⟨d, by simp, rfl, A, c, hv.symm, hN.keep hc, hca⟩
    · simp only [if_neg hs] at hv
      obtain ⟨x, h1, h2, A1, c1, h3, h4, h5⟩ := h.some s v hv
      exact ⟨x, List.mem_append_left _ h1, h2, A1, c1, h3, h4.keep hc, h5⟩
theorem turned_below {w w' : World} {b B : Nat} (h : w.mapTurned w' b) (hB : B ≤ b) : Below B w w' :=
  have g := h.grown
  ⟨g.os, g.tape, g.output, g.size, fun k hk => by
    rcases Nat.lt_or_ge k w.heap.size with q | q
    · exact g.block k q (fun e => by cases e; omega)
    · obtain ⟨es, cl, es', cl', h1, rfl⟩ := h
      have : b < w.heap.size := (Array.getElem?_eq_some_iff.1 h1).1
      omega⟩
end Go.Proofs.YtcidimjjclanmaaDoor.Sy

/- What names stand for: the landed meanings, and Right. -/
namespace Go.Proofs.YtcidimjjclanmaaDoor.Sy
open Go.RowKit
set_option maxRecDepth 100000
set_option linter.unusedVariables false

/-- What meanings tells. -/
def MeanR (ds : List DG) (w : World) (e : Ending) (w' : World) : Prop :=
  ((RightDs ds ∧ ∃ b n f, e = .returned (.tuple #[.map (some b), .bool true]) ∧ MapT w' b n w.heap.size ds f ∧ n ≤ ds.length ∧ w.heap.size ≤ b) ∨ (¬ RightDs ds ∧ e = .returned (.tuple #[.map none, .bool false]))) ∧ Below w.heap.size w w'
/-- The loop of meanings. -/
structure MeanL (ds : List DG) (w : World) (k : Nat) (f : ByteArray → Option Value) (wr : World) : Prop where
  map : MapT wr w.heap.size k w.heap.size (ds.take k) f
  rgt : RightDs (ds.take k)
  bel : Below w.heap.size w wr
theorem zero_nodes (w : World) : (zeroValue 22).run Tryd.prog w = .ok (.slice none 0 0) w := by kernel_rfl
theorem not_right_name {ds : List DG} {k : Nat} (hk : k < ds.length) (h : nameB (bs (ds.getD k dg0).1) = false) : ¬ RightDs ds := fun q => by
  have := (q.1 _ (getD_mem hk)).1
  rw [h] at this
  cases this
theorem not_right_tree {ds : List DG} {k : Nat} (hk : k < ds.length) (h : ¬ RightG (ds.getD k dg0).2) : ¬ RightDs ds := fun q => h (q.1 _ (getD_mem hk)).2
theorem not_right_twice {ds : List DG} {k : Nat} (hk : k < ds.length) {d : DG} (hd : d ∈ ds.take k) (h : d.1 = (ds.getD k dg0).1) : ¬ RightDs ds := fun q => by
  have q2 := (q.take (k + 1)).2
  rw [take_snoc hk] at q2
  exact (List.pairwise_append.1 q2).2.2 d hd _ (List.mem_singleton.2 rfl) h

/-- The landed Right. -/
def DRgt (ds : List DG) (w : World) (e : Ending) (w' : World) : Prop := ∃ b, e = .returned (.bool b) ∧ (b = true ↔ RightDs ds) ∧ Below w.heap.size w w'
end Go.Proofs.YtcidimjjclanmaaDoor.Sy

/- SyntaxTree, by the landed Parse and Right. -/
namespace Go.Proofs.YtcidimjjclanmaaDoor.Sy
open Go.RowKit
set_option maxRecDepth 100000
set_option linter.unusedVariables false

theorem name_short {n : Nd} (h : shapeB n = true) : n.name.length ≤ 32 := by
  unfold shapeB nameB at h
  repeat' split at h
  all_goals first
    | (simp only [Bool.and_eq_true, beq_iff_eq, decide_eq_true_eq] at h; first | omega | (simp only [h]; decide))
    | cases h
theorem gn_small {gs : List Gd} {ns : List Nd} (hg : GN gs ns) (hs : Shp ns) (hf : ∀ g ∈ gs, g.l.length ≤ 1000000) : ∀ g ∈ gs, g.nm.size ≤ maxLen ∧ g.l.length ≤ maxLen := by
  intro g hgm
  have h2 := hf g hgm
  obtain ⟨i, hi, rfl⟩ := List.getElem_of_mem hgm
  have h1 := (hg.2 i hi).nm
  have hi2 : i < ns.length := by rw [← hg.1]; exact hi
  rw [List.getD_eq_getElem?_getD, List.getElem?_eq_getElem hi, List.getD_eq_getElem?_getD, List.getElem?_eq_getElem hi2] at h1
  simp only [Option.getD_some] at h1
  have h3 := name_short (hs _ (List.getElem_mem hi2))
  rw [← h1, bs_len] at h3
  unfold maxLen
  omega


end Go.Proofs.YtcidimjjclanmaaDoor.Sy

/- The reference's walk. -/
namespace Go.Proofs.YtcidimjjclanmaaDoor.Sy
open Go.RowKit
set_option maxRecDepth 100000
set_option linter.unusedVariables false

/-- Each node's kids. -/
def kidsOf (gs : List Gd) (i : Nat) : List Int := (gs.getD i gd0).l
def WalkR (gs : List Gd) (n f at' : Nat) (seen : List Nat) (base : Nat) (w : World) (e : Ending) (w' : World) : Prop :=
  (∃ v' out, e = .returned (.tuple #[v', .bool true]) ∧ walkF (kidsOf gs) n f at' seen = some out ∧ out.length ≤ n + at' + 1 ∧ w'.ownsRow base 3 1 v' out.length (i64s out) ∧ Below base w w') ∨
  (∃ v', e = .returned (.tuple #[v', .bool false]) ∧ walkF (kidsOf gs) n f at' seen = none ∧ Below base w w')
theorem kidsF_cons {K : Nat → List Int} {n f a i : Nat} {xs : List Int} {sn : List Nat} {x : Int} (hi : i < xs.length) (hx : xs.getD i 0 = x) : kidsF K n f a (xs.drop i) sn = kidsF K n f a (x :: xs.drop (i + 1)) sn := by
  rw [List.drop_eq_getElem_cons hi]
  rw [List.getD_eq_getElem?_getD, List.getElem?_eq_getElem hi, Option.getD_some] at hx
  rw [hx]
theorem kidsF_bad {K : Nat → List Int} {n f a i : Nat} {xs : List Int} {sn : List Nat} {x : Int} (hi : i < xs.length) (hx : xs.getD i 0 = x) (h : x < 0 ∨ (a : Int) ≤ x) : kidsF K n f a (xs.drop i) sn = none := by
  rw [kidsF_cons hi hx, kidsF, if_pos h]
theorem kidsF_none {K : Nat → List Int} {n f a i k : Nat} {xs : List Int} {sn : List Nat} (hi : i < xs.length) (hx : xs.getD i 0 = (k : Int)) (h : k < a) (hw : walkF K n f k sn = none) : kidsF K n f a (xs.drop i) sn = none := by
  rw [kidsF_cons hi hx, kidsF, if_neg (by omega), Int.toNat_natCast, hw]
theorem kidsF_some {K : Nat → List Int} {n f a i k : Nat} {xs : List Int} {sn s' : List Nat} (hi : i < xs.length) (hx : xs.getD i 0 = (k : Int)) (h : k < a) (hw : walkF K n f k sn = some s') : kidsF K n f a (xs.drop i) sn = kidsF K n f a (xs.drop (i + 1)) s' := by
  rw [kidsF_cons hi hx, kidsF, if_neg (by omega), Int.toNat_natCast, hw]
theorem walkF_step {K : Nat → List Int} {n f a : Nat} {seen : List Nat} (h : ¬ n ≤ seen.length) : walkF K n (f + 1) a seen = (kidsF K n f a (K a) seen).map (· ++ [a]) := by rw [walkF, if_neg h]
theorem walkF_full {K : Nat → List Int} {n f a : Nat} {seen : List Nat} (h : n ≤ seen.length) : walkF K n (f + 1) a seen = none := by rw [walkF, if_pos h]
theorem own_least {w : World} {base : Nat} {e : TypeId} {sz n : Nat} {v : Value} {xs : List Value} (h : w.ownsRow base e sz v n xs) : ∀ k, v.ownBlock = some k → base ≤ k := fun k hk => by
  rcases h.2 with ⟨rfl, _⟩ | ⟨g, cap, cur, rfl, hg, _⟩
  · cases hk
  · cases hk; exact hg
theorem bel_own2 {B : Nat} {w u u' : World} {row : Option Nat} (h : Below B w u) (hg : u.grownBy u' row) (hr : ∀ k, row = some k → B ≤ k) (hB : B ≤ w.heap.size) : Below B w u' := bel_own h hg hr hB
/-- How the loop over the kids stands. -/
structure WkL (gs : List Gd) (n f a : Nat) (seen : List Nat) (base : Nat) (A : Option Addr) (w : World) (v : Value) (i : Nat) (wr : World) : Prop where
  le : i ≤ (kidsOf gs a).length
  ex : ∃ sn, kidsF (kidsOf gs) n f a (kidsOf gs a) seen = kidsF (kidsOf gs) n f a ((kidsOf gs a).drop i) sn ∧ sn.length ≤ n + a ∧ wr.ownsRow base 3 1 v sn.length (i64s sn)
  bel : Below base w wr
  sz : base ≤ wr.heap.size

set_option maxHeartbeats 1000000 in
theorem walk_any {A : Option Addr} {c n base : Nat} {gs : List Gd} (hlen : gs.length = n) (hn2 : n ≤ 1100) (hks : ∀ g ∈ gs, g.l.length ≤ maxLen) : ∀ (f a : Nat), a < n → a < f → ∀ (seen : List Nat) (v : Value) (w : World), Nds w base A gs → seen.length ≤ 5000 → base ≤ w.heap.size → w.ownsRow base 3 1 v seen.length (i64s seen) →
    Calls Tryd.prog 56 #[.slice A n c, .int .i64 (a : Int), v] w fun e w' => WalkR gs n f a seen base w e w'
  | 0, a, _, h, _, _, _, _, _, _, _ => absurd h (Nat.not_lt_zero _)
  | f + 1, a, han, haf, seen, v, w, hx, hsn, hB, hown => by
    have ih := fun (k : Nat) (h1 : k < a) => walk_any (A := A) (c := c) (base := base) hlen hn2 hks f k (by omega) (by omega)
    obtain ⟨b1, o1, rfl, hb1, A3, c3, i1, r1⟩ := hx.at_ (k := a) (by rw [hlen]; exact han)
    have hkl : (kidsOf gs a).length ≤ maxLen := hks _ (by rw [List.getD_eq_getElem?_getD, List.getElem?_eq_getElem (by rw [hlen]; exact han)]; exact List.getElem_mem _)
    change Its w base A3 (kidsOf gs a) at i1
    have r5 : w.cell? ⟨b1, o1 + a * 9 + 5, none⟩ = some (.slice A3 (kidsOf gs a).length c3) := r1 5 _ rfl
    obtain ⟨y, hy⟩ : ∃ y, (kidsOf gs a).length = y := ⟨_, rfl⟩
    rw [hy] at r5 hkl
    have HY := hidd hy
    have HIH := hidd ih
    have HX := hidd hx
    have HLN := hidd hlen
    have HKS := hidd hks
    have HI1 := hidd i1
    have hani : (a : Int) < (n : Int) := by omega
    unfold maxLen at hkl
    obtain ⟨i0, hi0, hz0, hz1, hz2⟩ := info_parts int_info
    obtain ⟨A9, c9, rfl⟩ := own_form hown
    have HOWN := hidd hown
    obtain ⟨m, hm⟩ : ∃ m, seen.length = m := ⟨_, rfl⟩
    rw [hm] at hsn
    rw [hm]
    have HM := hidd hm
    clear hy ih hx hlen hks i1 hown hm r1
    by_cases hfull : n ≤ m
    · have HF := hidd (walkF_full (K := kidsOf gs) (f := f) (a := a) (by rw [HM.out]; exact hfull))
      have hfi : (n : Int) ≤ (m : Int) := by omega
      clear hfull
      go_enter Tryd.func56, Tryd.ntmps56
      go_wp2
      go_ret2
      exact .inr ⟨_, rfl, HF.out, Below.refl _ _⟩
    · have HF := hidd (walkF_step (K := kidsOf gs) (f := f) (a := a) (by rw [HM.out]; exact hfull))
      have hfd : decide (n ≤ m) = false := decide_eq_false hfull
      have HFI : Hid (m < n) := Nat.lt_of_not_le hfull
      have HREL : Hid (WkL gs n f a seen base (some ⟨b1, o1, none⟩) w (.slice A9 m c9) 0 w) := ⟨Nat.zero_le _, ⟨seen, by rw [List.drop_zero], by have := HM.out; have := HFI.out; omega, by have h := HOWN.out; have := HM.out; rw [this] at h ⊢; exact h⟩, Below.refl _ _, hB⟩
      clear hfull
      go_enter Tryd.func56, Tryd.ntmps56
      go_wp2
      go_loopw [2, 8] (fun s2 s8 wr => ∃ i : Nat, s8 = .int .i64 (i : Int) ∧ i ≤ y ∧ WkL gs n f a seen base (some ⟨b1, o1, none⟩) w s2 i wr) (fun _ s8 _ => y - (intOf s8).toNat)
      case atStart => exact ⟨0, rfl, Nat.zero_le _, HREL.out⟩
      case round =>
        obtain ⟨i, rfl, hiy, R⟩ := hrel
        have r5' := (R.bel.cell (p := ⟨b1, o1 + a * 9 + 5, none⟩) hb1).trans r5
        have HR := hidd R
        clear R HREL
        by_cases hlt : i < y
        · have hii : (i : Int) < (y : Int) := by omega
          obtain ⟨sn, e1, e2, e3⟩ := HR.out.ex
          obtain ⟨g4, o4, rfl, hg4, c4⟩ := (HI1.out.below HR.out.bel).at_ (k := i) (by rw [HY.out]; exact hlt)
          obtain ⟨x, hx⟩ : ∃ x, (kidsOf gs a).getD i 0 = x := ⟨_, rfl⟩
          rw [hx] at c4
          have HE1 := hidd e1
          have HE3 := hidd e3
          have HXX := hidd hx
          have HE2 := hidd e2
          clear e1 e2 e3 hx
          by_cases hx0 : x < 0
          · have HN := hidd (HE1.out.trans (kidsF_bad (by rw [HY.out]; exact hlt) HXX.out (.inl hx0)))
            have hxd : decide (x < 0) = true := decide_eq_true hx0
            go_wp2
            go_ret2
            exact .inr ⟨_, rfl, by rw [HF.out, HN.out]; rfl, HR.out.bel⟩
          · have hxd : decide (x < 0) = false := decide_eq_false hx0
            by_cases hxa : (a : Int) ≤ x
            · have HN := hidd (HE1.out.trans (kidsF_bad (by rw [HY.out]; exact hlt) HXX.out (.inr hxa)))
              go_wp2
              go_ret2
              exact .inr ⟨_, rfl, by rw [HF.out, HN.out]; rfl, HR.out.bel⟩
            · obtain ⟨k, rfl⟩ : ∃ k : Nat, x = (k : Int) := ⟨x.toNat, by omega⟩
              have hka : k < a := by omega
              have hxa2 : ¬ (a : Int) ≤ (k : Int) := hxa
              have hcall := HIH.out k hka sn u2 wr (HX.out.below HR.out.bel) (by have := HE2.out; omega) HR.out.sz HE3.out
              go_wp2_with fail
              refine hcall.mono ?_
              rintro e w2 hw
              clear hcall
              rcases hw with ⟨v2, out, rfl, hf2, hl2, ho2, hb2⟩ | ⟨v2, rfl, hf2, hb2⟩
              · have HREL : Hid (WkL gs n f a seen base (some ⟨b1, o1, none⟩) w v2 (i + 1) w2) := ⟨by rw [HY.out]; exact hlt, ⟨out, HE1.out.trans (kidsF_some (by rw [HY.out]; exact hlt) HXX.out hka hf2), by omega, ho2⟩, HR.out.bel.trans hb2, Nat.le_trans HR.out.sz hb2.size⟩
                clear hf2 hl2 ho2 hb2
                go_wp2
                exact ⟨⟨i + 1, rfl, hlt, HREL.out⟩, by simp [intOf]; omega⟩
              · have HN := hidd (HE1.out.trans (kidsF_none (by rw [HY.out]; exact hlt) HXX.out hka hf2))
                have HD := hidd (HR.out.bel.trans hb2)
                clear hf2 hb2
                go_wp2
                go_ret2
                exact .inr ⟨_, rfl, by rw [HF.out, HN.out]; rfl, HD.out⟩
        · have hie : i = y := by omega
          subst hie
          obtain ⟨sn, e1, e2, e3⟩ := HR.out.ex
          have HE1 : Hid (kidsF (kidsOf gs) n f a (kidsOf gs a) seen = some sn) := by
            show _ = _
            rw [e1, List.drop_of_length_le (by have := HY.out; omega), kidsF]
          have D1 := HR.out.bel
          have hsz := HR.out.sz
          have HE2 := hidd e2
          have hown := own_below e3 ((Below.refl wr.heap.size wr).alloc (Nat.le_refl _) (.cells #[.int .i64 (a : Int)] 3)) (Nat.le_refl _)
          have hnews := int_one wr (a : Int)
          have hz5 : (wr.alloc (.cells #[.int .i64 (a : Int)] 3)).heap.size = wr.heap.size + 1 := World.size_alloc ..
          have hrow : ∀ k, u2.ownBlock = some k → base ≤ k := own_least e3
          have hsl : sn.length ≤ 5000 := by omega
          obtain ⟨z, hz⟩ : ∃ z, sn.length = z := ⟨_, rfl⟩
          rw [hz] at hown hsl
          have HZ := hidd hz
          clear e1 e2 e3 hz
          go_wp2_with (at_builtin; refine wpList_append_lies _ rfl _ _ _ rfl base 3 i0 (.int .i64 0) 1 8 Tryd.underlying30 hi0 hz0 hz1 hz2 rfl (by omega) _ z (i64s sn) rfl hown ⟨wr.heap.size, 0, none⟩ 1 1 [.int .i64 (a : Int)] rfl rfl hnews (by simp [Value.oneCell']) (by omega) (by simp only [maxLen]; omega) (by omega) (by omega) (wr.heap.size + 1) hz5 ?_; intro g6 cap6 w6 hown6 hgrow hat hlt6; refine Hid.out ?_)
          have D6 := bel_own2 (D1.alloc (by omega) (.cells #[.int .i64 (a : Int)] 3)) hgrow hrow hB
          have HREL : Hid (w6.ownsRow base 3 1 (.slice (some ⟨g6, 0, none⟩) (z + 1) cap6) (sn ++ [a]).length (i64s (sn ++ [a]))) := by
            show World.ownsRow ..
            rw [← i64s_snoc, List.length_append, HZ.out]
            exact hown6
          have HD6 := hidd D6
          clear hown6 hgrow hat hlt6 hown hnews hz5 D6 D1
          refine Lib.hid ?_
          go_wp2
          go_ret2
          exact .inl ⟨_, sn ++ [a], rfl, by rw [HF.out, HE1.out]; rfl, by have := HE2.out; simp; omega, HREL.out, HD6.out⟩
end Go.Proofs.YtcidimjjclanmaaDoor.Sy

/- The reference's Right. -/
namespace Go.Proofs.YtcidimjjclanmaaDoor.Sy
open Go.RowKit
set_option maxRecDepth 100000
set_option linter.unusedVariables false

theorem kidsOf_to {gs : List Gd} : ∀ i m, (gs.map toN)[i]? = some m → m.l = (kidsOf gs i).map Int.toNat := fun i m h => by
  rcases Nat.lt_or_ge i gs.length with hi | hi
  · rw [toN_at hi] at h
    cases h
    rfl
  · rw [List.getElem?_eq_none (by simpa using hi)] at h
    cases h
theorem ref_iff (gs : List Gd) (h1 : 1 ≤ gs.length) (h2 : gs.length ≤ 1024) : ((∀ j, j < gs.length → shapeG (gs.getD j gd0) = true) ∧ walkF (kidsOf gs) gs.length gs.length (gs.length - 1) [] = some (List.range gs.length)) ↔ RightG gs := by
  constructor
  · rintro ⟨hs, hw⟩
    obtain ⟨hk, f⟩ := (walk_iff (ns := gs.map toN) kidsOf_to (by simp) h1).1 hw
    have hgn : GN gs (gs.map toN) := by
      refine ⟨by simp, fun i hi => ?_⟩
      have : (gs.map toN).getD i nd0 = toN (gs.getD i gd0) := by rw [List.getD_eq_getElem?_getD, toN_at hi]; rfl
      rw [this]
      exact gn1_to (shape_op (hs i hi)) (hk i hi)
    refine ⟨gs.map toN, hgn, fun n hn => ?_, by simpa using h1, by simpa using h2, by simpa using f⟩
    obtain ⟨i, hi, rfl⟩ := List.getElem_of_mem hn
    rw [List.length_map] at hi
    have g1 := hgn.2 i hi
    have e : (gs.map toN).getD i nd0 = (gs.map toN)[i] := by rw [List.getD_eq_getElem?_getD, List.getElem?_eq_getElem (by simpa using hi)]; rfl
    rw [e] at g1
    rw [← shape_same g1]
    exact hs i hi
  · rintro ⟨ns, hgn, hsh, h3, h4, f⟩
    have hlen : gs.length = ns.length := hgn.1
    have hat : ∀ i m, ns[i]? = some m → GN1 (gs.getD i gd0) m := fun i m h => by
      have hi : i < ns.length := by
        rcases Nat.lt_or_ge i ns.length with q | q
        · exact q
        · rw [List.getElem?_eq_none q] at h; cases h
      have g1 := hgn.2 i (by omega)
      rw [List.getD_eq_getElem?_getD (l := ns), h] at g1
      exact g1
    refine ⟨fun j hj => ?_, (walk_iff (ns := ns) (fun i m h => ?_) hlen.symm h1).2 ⟨fun i hi k hk => ?_, by rw [hlen]; exact f⟩⟩
    · have hj' : j < ns.length := by omega
      have := hat j _ (List.getElem?_eq_getElem hj')
      rw [shape_same this]
      exact hsh _ (List.getElem_mem hj')
    · unfold kidsOf
      rw [(hat i m h).l, map_id_back]
    · have hi' : i < ns.length := by omega
      unfold kidsOf at hk
      rw [(hat i _ (List.getElem?_eq_getElem hi')).l] at hk
      obtain ⟨x, _, rfl⟩ := List.mem_map.1 hk
      exact Int.natCast_nonneg _
theorem range_iff {out : List Nat} {n : Nat} (hl : out.length = n) (h : ∀ j, j < n → out.getD j 0 = j) : out = List.range n := by
  apply List.ext_getElem (by simp [hl])
  intro i h1 h2
  have := h i (by omega)
  rw [List.getD_eq_getElem?_getD, List.getElem?_eq_getElem h1] at this
  simpa using this
theorem range_no {out : List Nat} {n j : Nat} (hj : j < n) (h : out.getD j 0 ≠ j) : out ≠ List.range n := fun e => h (by
  rw [e, List.getD_eq_getElem?_getD, List.getElem?_eq_getElem (by simpa using hj)]
  simp)

set_option maxHeartbeats 1000000 in
theorem refRight_any (A : Option Addr) (c : Nat) (gs : List Gd) (w : World) (hx : Nds w w.heap.size A gs) (hlg : gs.length ≤ 2000) (hnm : ∀ g ∈ gs, g.nm.size ≤ maxLen ∧ g.l.length ≤ maxLen) :
    Calls Tryd.prog 37 #[.slice A gs.length c] w fun e w' => RgtR gs w e w' := by
  by_cases hlo : gs.length < 1
  · have HN : Hid (¬ RightG gs) := fun h => by have := (right_len h).1; omega
    have hloi : (gs.length : Int) < 1 := by omega
    generalize gs.length = n at *
    go_enter Tryd.func37, Tryd.ntmps37
    go_wp2
    go_ret
    exact RgtR.no rfl HN.out (Below.refl _ _)
  · have hloi : ¬ (gs.length : Int) < 1 := by omega
    by_cases hhi : 1024 < gs.length
    · have HN : Hid (¬ RightG gs) := fun h => by have := (right_len h).2; omega
      have hhii : decide ((1024 : Int) < (gs.length : Int)) = true := decide_eq_true (by omega)
      generalize gs.length = n at *
      go_enter Tryd.func37, Tryd.ntmps37
      go_wp2
      go_ret
      exact RgtR.no rfl HN.out (Below.refl _ _)
    · have hhii : decide ((1024 : Int) < (gs.length : Int)) = false := decide_eq_false (by omega)
      have HRI := hidd (ref_iff gs (by omega) (by omega))
      have HWK := hidd (fun (w1 : World) (b : Below w.heap.size w w1) => walk_any (c := c) (n := gs.length) (base := w.heap.size) rfl (by omega) (fun g hg => (hnm g hg).2) gs.length (gs.length - 1) (by omega) (by omega) [] (.slice none 0 0) w1 (hx.below b) (Nat.zero_le _) b.size ⟨rfl, .inl ⟨rfl, rfl⟩⟩)
      obtain ⟨n, hn⟩ : ∃ n, gs.length = n := ⟨_, rfl⟩
      rw [hn] at hloi hhii hlg HRI HWK
      rw [hn]
      have HLN := hidd hn
      have HNM := hidd hnm
      have HX := hidd hx
      have hn1 : 1 ≤ n := by omega
      have hn2 : n ≤ 1024 := by omega
      clear hn hlo hhi hlg hnm hx
      go_enter Tryd.func37, Tryd.ntmps37
      go_wp2
      go_loopw [3] (fun s3 wr => ∃ (k : Nat), s3 = .int .i64 (k : Int) ∧ k ≤ n ∧ (∀ j, j < k → shapeG (gs.getD j gd0) = true) ∧ Below w.heap.size w wr) (fun s3 _ => n - (intOf s3).toNat)
      case atStart => exact ⟨0, rfl, Nat.zero_le _, fun _ h => absurd h (Nat.not_lt_zero _), Below.refl _ _⟩
      case round =>
        obtain ⟨k, rfl, hk0, hall, D⟩ := hrel
        have HALL := hidd hall
        clear hall
        by_cases hlt : k < n
        · have hki : (k : Int) < (n : Int) := by omega
          obtain ⟨b1, o1, rfl, hb1, A3, c3, i1, r1⟩ := (HX.out.below D).at_ (k := k) (by rw [HLN.out]; exact hlt)
          obtain ⟨hnm1, hnm2⟩ := HNM.out (gs.getD k gd0) (by rw [List.getD_eq_getElem?_getD, List.getElem?_eq_getElem (by rw [HLN.out]; exact hlt)]; exact List.getElem_mem _)
          obtain ⟨g, hgk⟩ : ∃ g, gs.getD k gd0 = g := ⟨_, rfl⟩
          rw [hgk] at i1 r1 hnm1 hnm2
          have HGK := hidd hgk
          have hsh := shape_any g A3 c3 wr hnm1 hnm2
          clear hgk i1 hnm1 hnm2
          go_wp2_with (refine wpList_load_mid rfl 43 (.tmp 23) rfl b1 (o1 + k * 9) rfl (gdL g A3 c3) _ r1 Tryd.underlying43 rfl (gdL_info g A3 c3) ?_)
          go_wp2_with fail
          refine hsh.mono ?_
          rintro e w2 ⟨rfl, b2⟩
          have D2 := D.trans (b2.mono D.size)
          clear hsh b2 r1 D
          cases hsg : shapeG g with
          | false =>
            have HN : Hid (¬ RightG gs) := fun h => by
              have := (HRI.out.2 h).1 k hlt
              rw [HGK.out, hsg] at this
              cases this
            clear HRI HWK HX
            go_wp2
            go_ret
            exact RgtR.no rfl HN.out D2
          | true =>
            have HAL2 : Hid (∀ j, j < k + 1 → shapeG (gs.getD j gd0) = true) := fun j hj => by
              rcases Nat.lt_or_ge j k with q | q
              · exact HALL.out j q
              · rw [show j = k from by omega, HGK.out]; exact hsg
            have HD2 := hidd D2
            clear HRI HWK HX D2 hsg
            go_wp2
            exact ⟨⟨k + 1, rfl, hlt, HAL2.out, HD2.out⟩, by simp [intOf]; omega⟩
        · have hke : k = n := by omega
          subst hke
          have hW := HWK.out wr D
          have e1 : ((k - 1 : Nat) : Int) = (k : Int) - 1 := by omega
          rw [e1] at hW
          clear e1 HWK HX
          go_wp2_with fail
          refine hW.mono ?_
          rintro e w2 hw
          clear hW
          rcases hw with ⟨v2, out, rfl, hf2, hl2, ho2, hb2⟩ | ⟨v2, rfl, hf2, hb2⟩
          · have D2 := D.trans hb2
            have HF2 := hidd hf2
            obtain ⟨A9, c9, rfl⟩ := own_form ho2
            obtain ⟨m, hm⟩ : ∃ m, out.length = m := ⟨_, rfl⟩
            rw [hm] at ho2
            rw [hm]
            have HM := hidd hm
            have HD2 := hidd D2
            clear hf2 hl2 hb2 D D2 hm
            by_cases hmn : m = k
            · subst hmn
              obtain ⟨g9, c9', e9, _, _⟩ := own_pos ho2 (by omega)
              cases e9
              have HC := hidd (i64s_kid out g9 (own_base ho2 (Nat.zero_le _)) HM.out.symm)
              clear ho2
              go_wp2
              go_loopw [6] (fun s6 wr => ∃ i : Nat, s6 = .int .i64 (i : Int) ∧ i ≤ m ∧ (∀ j, j < i → out.getD j 0 = j) ∧ ∃ q, wr = w2.drewN q) (fun s6 _ => m - (intOf s6).toNat)
              case atStart => exact ⟨0, rfl, Nat.zero_le _, fun _ h => absurd h (Nat.not_lt_zero _), 0, rfl⟩
              case round =>
                obtain ⟨i, rfl, hi0, hall2, q, rfl⟩ := hrel
                have HALL2 := hidd hall2
                clear hall2
                by_cases hit : i < m
                · have hii : (i : Int) < (m : Int) := by omega
                  have hc : (w2.drewN q).cell? ⟨g9, i, none⟩ = some (.int .i64 ((out.getD i 0 : Nat) : Int)) := by
                    have := HC.out i (by have := HM.out; simp; omega)
                    rw [Nat.zero_add] at this
                    refine this.trans ?_
                    congr 2
                    simp only [List.getD_eq_getElem?_getD, List.getElem?_map]
                    cases out[i]? <;> rfl
                  obtain ⟨x, hx⟩ : ∃ x, out.getD i 0 = x := ⟨_, rfl⟩
                  rw [hx] at hc
                  have HXX := hidd hx
                  clear hx
                  by_cases hxi : x = i
                  · subst hxi
                    have HAL3 : Hid (∀ j, j < x + 1 → out.getD j 0 = j) := fun j hj => by
                      rcases Nat.lt_or_ge j x with q | q
                      · exact HALL2.out j q
                      · rw [show j = x from by omega]; exact HXX.out
                    go_wp2
                    exact ⟨⟨x + 1, rfl, hit, HAL3.out, q, rfl⟩, by simp [intOf]; omega⟩
                  · have hne : ¬ (x : Int) = (i : Int) := by omega
                    have HN : Hid (¬ RightG gs) := fun h => by
                      have := (HRI.out.2 h).2
                      rw [HF2.out] at this
                      exact range_no hit (by rw [HXX.out]; exact hxi) (Option.some.inj this)
                    clear HRI
                    go_wp2
                    go_ret
                    exact RgtR.no rfl HN.out (bel_drewN HD2.out _)
                · have hie : i = m := by omega
                  subst hie
                  have HY : Hid (RightG gs) := HRI.out.1 ⟨HALL.out, by rw [HF2.out, range_iff HM.out HALL2.out]⟩
                  clear HRI
                  go_wp2
                  go_ret
                  exact ⟨true, rfl, ⟨fun _ => HY.out, fun _ => rfl⟩, bel_drewN HD2.out _⟩
            · have hmi : ¬ (m : Int) = (k : Int) := by omega
              have HN : Hid (¬ RightG gs) := fun h => by
                have := (HRI.out.2 h).2
                rw [HF2.out] at this
                have h2 := congrArg List.length (Option.some.inj this)
                rw [HM.out, List.length_range] at h2
                exact hmn h2
              clear HRI ho2
              go_wp2
              go_ret
              exact RgtR.no rfl HN.out HD2.out
          · have HN : Hid (¬ RightG gs) := fun h => by
              have := (HRI.out.2 h).2
              rw [hf2] at this
              cases this
            have D2 := D.trans hb2
            clear HRI hf2 hb2
            go_wp2
            go_ret
            exact RgtR.no rfl HN.out D2
end Go.Proofs.YtcidimjjclanmaaDoor.Sy

/- The reference's Right of Defs; its find. -/
namespace Go.Proofs.YtcidimjjclanmaaDoor.Sy
open Go.RowKit
set_option maxRecDepth 100000
set_option linter.unusedVariables false

theorem toList_inj' {a b : ByteArray} (h : a.toList = b.toList) : a = b := by
  rw [ByteArray.toList_eq, ByteArray.toList_eq] at h
  cases a; cases b
  congr
  exact Array.toList_inj.1 h
theorem str_same {a b : ByteArray} (h : a = b) : (a.toList == b.toList) = true := by subst h; simp
theorem str_not {a b : ByteArray} (h : a ≠ b) : (a.toList == b.toList) = false := beq_eq_false_iff_ne.2 fun e => h (toList_inj' e)

end Go.Proofs.YtcidimjjclanmaaDoor.Sy

/- How an argument is opened: a slice of bytes. -/
namespace Go.Proofs.YtcidimjjclanmaaDoor
open Go.ChangeShapes Go.WideShapes Go.ChangeAt Go.RowKit
set_option maxRecDepth 100000

theorem own : ownKnob Tryd.prog.godebug = none := by kernel_rfl
theorem laidOut : laidOutB Tryd.prog = true := by kernel_rfl

section
variable {H : Type} {enc : TypeId × Value → H} {W0 : World} {base : Nat} {spare : Nat → Bool} {held : Bool}

theorem plain_add (g off : Nat) (j : Nat) : (⟨g, off, none⟩ : Addr).add j = ⟨g, off + j, none⟩ := by
  unfold Addr.add
  split
  · subst_vars; rfl
  · rfl

/-- A slice of bytes that came in. -/
theorem open_bytes {r : Reach} {b0 : Nat} {v : Value} {d : DataW H} {p : List MemPlace} (hv : Value.okWide Tryd.prog W0 r b0 46 v) (h : DataW.Trod enc Tryd.prog W0 base spare held 46 v d p) :
    ∃ (A : Option Addr) (c : Nat) (xs : List Int), v = .slice A xs.length c ∧ Bts W0 W0.heap.size A xs ∧ xs.length ≤ c ∧ c ≤ maxLen := by
  obtain ⟨A, len, cap, rfl⟩ := okWide_slice Tryd.underlying46 hv
  obtain ⟨fuel, hf⟩ := h
  rcases open_ints Tryd.underlying46 Tryd.underlying5 (by kernel_rfl) hf with ⟨hcs, _⟩ | ⟨x, l, c, zs, hcs, _, hl, hm, hz, _, hcell, hwz⟩
  · simp [Value.cells] at hcs
    obtain ⟨rfl, rfl, rfl⟩ := hcs
    exact ⟨none, 0, [], rfl, ⟨by simp, fun h => absurd rfl h⟩, Nat.le_refl _, Nat.zero_le _⟩
  · simp [Value.cells] at hcs
    obtain ⟨rfl, rfl, rfl⟩ := hcs
    have hlz : len ≤ zs.length := by rw [hz]; split <;> omega
    have hxl : (zs.take len).length = len := by rw [List.length_take]; omega
    refine ⟨some x, cap, zs.take len, by rw [hxl], ⟨fun n hn => ?_, fun hne => ?_⟩, by rw [hxl]; exact hl, hm⟩
    · exact bounds_u8 (hwz n (List.mem_of_mem_take hn))
    · have hpos : 0 < len := by
        rcases Nat.eq_zero_or_pos len with e | e
        · subst e; exact absurd (by simp) hne
        · exact e
      have h0 := hcell 0 (by omega)
      obtain ⟨g, off, spot⟩ := x
      have hs : spot = none := by simpa [Addr.add] using World.cell?_spot h0
      subst hs
      refine ⟨g, off, rfl, World.block_lt_of_cell? W0 _ (by rw [plain_add] at h0; exact h0), fun i hi => ?_⟩
      rw [hxl] at hi
      have := hcell i (by omega)
      rw [plain_add] at this
      rw [this, List.getD_eq_getElem?_getD, List.getD_eq_getElem?_getD, List.getElem?_take, if_pos hi]

end

end Go.Proofs.YtcidimjjclanmaaDoor

/- Rows that a call holds: blocks told apart by their types; numbers appended; the landed expander in memory. -/
namespace Go.Proofs.YtcidimjjclanmaaDoor.Sy
open Go.RowKit
set_option maxRecDepth 100000
set_option linter.unusedVariables false

def ints (l : List Int) : List Value := l.map (Value.int .i64)
theorem ints_len (l : List Int) : (ints l).length = l.length := List.length_map ..
theorem ints_ones (l : List Int) : ∀ u ∈ ints l, u.oneCell' = true := fun u hu => by
  obtain ⟨x, _, rfl⟩ := List.mem_map.1 hu
  rfl
theorem i64s_ints (l : List Nat) : i64s l = ints (l.map fun k : Nat => (k : Int)) := by
  unfold i64s ints
  rw [List.map_map]
  rfl
section
variable {w w' : World} {base : Nat} {e : TypeId} {sz n : Nat} {v : Value} {xs : List Value}
theorem own_blk (h : w.ownsRow base e sz v n xs) {k : Nat} (hk : v.ownBlock = some k) : ∃ cur, w.heap[k]? = some (.cells cur e (0, 0)) := by
  rcases h.2 with ⟨hv, _⟩ | ⟨g, cap, cur, hv, hg, hh, _⟩
  · rw [hv] at hk; cases hk
  · rw [hv] at hk
    have : g = k := Option.some.inj hk
    subst this
    exact ⟨cur, hh⟩
/-- A block of another type is another block. -/
theorem own_ne {e' : TypeId} {cs : Array Value} {b : Nat} {p : Nat × Nat} (h : w.ownsRow base e sz v n xs) (hb : w.heap[b]? = some (.cells cs e' p)) (hne : e ≠ e') : v.ownBlock ≠ some b := fun q => by
  obtain ⟨cur, hc⟩ := own_blk h q
  rw [hb] at hc
  cases hc
  exact hne rfl
theorem own_nem {es : Array MapEntry} {cl b : Nat} (h : w.ownsRow base e sz v n xs) (hb : w.heap[b]? = some (.map es cl)) : v.ownBlock ≠ some b := fun q => by
  obtain ⟨cur, hc⟩ := own_blk h q
  rw [hb] at hc
  cases hc
theorem own_apart {base' sz' n' : Nat} {e' : TypeId} {v' : Value} {xs' : List Value} (h : w.ownsRow base e sz v n xs) (h' : w.ownsRow base' e' sz' v' n' xs') (hne : e ≠ e') : ∀ k, v.ownBlock = some k → v'.ownBlock ≠ some k := fun k hk q => by
  obtain ⟨cur, hc⟩ := own_blk h hk
  exact own_ne h' hc (fun q => hne q.symm) q
/-- Kept where another block is written. -/
theorem own_kept {row : Option Nat} (h : w.ownsRow base e sz v n xs) (g : w.grownBy w' row) (hr : ∀ k, row = some k → v.ownBlock ≠ some k) : w'.ownsRow base e sz v n xs := by
  refine h.kept g ?_
  cases hv : v.ownBlock with
  | none => exact .inl rfl
  | some k => exact .inr (fun q => hr k q.symm hv)
theorem own_cap {A : Option Addr} {c : Nat} (h : w.ownsRow base e sz (.slice A n c) n xs) : n ≤ c := by
  rcases h.2 with ⟨hv, hn⟩ | ⟨g, cap, cur, hv, hg, hh, h3, _⟩
  · omega
  · cases hv
    exact h3
theorem own_cut' {A : Option Addr} {c r : Nat} {st : List Nat} (h : w.ownsRow base 3 1 (.slice A n c) n (i64s st)) (hr : r ≤ n) (hn : n = st.length) : w.ownsRow base 3 1 (.slice A r c) r (i64s (st.take r)) := by
  cases A with
  | none =>
    obtain ⟨h1, h2⟩ := h
    rcases h2 with ⟨h2, h3⟩ | ⟨g', cap', cur, hv, _⟩
    · cases h2
      have : r = 0 := by omega
      subst this
      exact ⟨by rw [List.take_zero]; rfl, .inl ⟨rfl, rfl⟩⟩
    · cases hv
  | some a =>
    obtain ⟨g, off, sp⟩ := a
    have : off = 0 ∧ sp = none := by
      rcases h.2 with ⟨hv, _⟩ | ⟨g', cap', cur, hv, _⟩
      · cases hv
      · cases hv; exact ⟨rfl, rfl⟩
    obtain ⟨rfl, rfl⟩ := this
    exact own_cut h hr hn
end
/-- Numbers appended to a row that has none yet. -/
theorem wp_app_its {w : World} {o : Oper} {a : Act} {K : Act → World → Prop} {Q : Exit → Act → World → Prop} (s x : Operand)
    (ho : o.op = .call { callee := .builtin .append, args := #[s, x], argTypes := #[30, 30] }) (base : Nat) (v : Value) (hs : a.eval s = v) (hown : w.ownsRow base 3 1 v 0 []) (A : Option Addr) (c : Nat) (xs : List Int) (n : Nat) (hn : xs.length = n)
    (hx : a.eval x = .slice A n c) (hI : Its w w.heap.size A xs) (hl : xs.length ≤ 1000000) (hbase : base ≤ w.heap.size)
    (h : ∀ A' c' w', w'.ownsRow base 3 1 (.slice A' n c') n (ints xs) → w.grownBy w' v.ownBlock → ((Value.slice A' n c').ownBlock = v.ownBlock ∨ (Value.slice A' n c').ownBlock = some w.heap.size) → K (a.put o.dst (.slice A' n c')) w') : o.wp Tryd.prog a w K Q := by
  subst hn
  obtain ⟨i0, hi0, hz0, hz1, hz2⟩ := info_parts int_info
  by_cases he : xs = []
  · subst he
    obtain ⟨B, k, rfl, hB⟩ : ∃ B k, v = .slice B 0 k ∧ (B = none → 0 = 0 ∧ k = 0) := by
      rcases hown.2 with ⟨hv, hn⟩ | ⟨g, cap, cur, hv, hg, hh, h1, h2, h3, h4⟩
      · exact ⟨none, 0, hv, fun _ => ⟨rfl, rfl⟩⟩
      · exact ⟨_, cap, hv, nofun⟩
    have hr : (Builtin.append_ #[30, 30] o.type #[.slice B 0 k, .slice A 0 c]).run Tryd.prog w = .ok (.slice B 0 k) w := by
      have ht := Tryd.underlying30
      cases B with
      | none =>
        obtain ⟨-, rfl⟩ := hB rfl
        cases A <;> simp [Builtin.append_, run_underlying ht, sizeOf, typeInfo, hi0, Builtin.lenOf, Builtin.firstCells, loadCells, loadCellsFrom]
      | some b =>
        cases A <;> simp [Builtin.append_, run_underlying ht, sizeOf, typeInfo, hi0, Builtin.lenOf, Builtin.firstCells, loadCells, loadCellsFrom, storeCells]
    have hx' : a.eval x = .slice A 0 c := hx
    unfold Oper.wp execOp
    simp only [ho, resolve, invoke, builtin, Sem.run_bind, Sem.run_pure, Result.andThen_ok, List.map_toArray, List.map_cons, List.map_nil, hs, hx', hr]
    exact h B k w hown ⟨rfl, rfl, rfl, Nat.le_refl _, fun _ _ _ => rfl⟩ (.inl rfl)
  · obtain ⟨g, off, rfl, hg, hc⟩ := hI he
    refine wp_append_both w s x 30 ho base 3 i0 _ 1 8 Tryd.underlying30 hi0 hz0 hz1 hz2 rfl (by omega) v 0 [] hs hown ⟨g, off, none⟩ xs.length c (ints xs) hx (by rw [ints_len]; omega) (fun j u hu => ?_) (ints_ones xs) (by simp only [maxLen]; omega) (by omega) hbase ?_
    · unfold ints at hu
      rw [List.getElem?_map] at hu
      cases hj : xs[j]? with
      | none => rw [hj] at hu; cases hu
      | some y =>
        rw [hj] at hu
        have := hc j (List.getElem?_eq_some_iff.1 hj).1
        rw [List.getD_eq_getElem?_getD, hj] at this
        cases hu
        rw [plain_add]
        exact this
    · intro v' w' h1 _ h3 h4
      rw [List.nil_append, Nat.zero_add] at h1
      obtain ⟨A', c', rfl⟩ := own_form h1
      exact h A' c' w' h1 h3 h4

/-! ### The expander -/
/-- What is yet to come of a walk. -/
structure WkE where
  nm : ByteArray
  A : Option Addr
  c : Nat
  rest : List Gd
def wkL (e : WkE) : List Value := [.string e.nm, .slice e.A e.rest.length e.c]
def wksC (l : List WkE) : List Value := l.flatMap wkL
abbrev exC (bt bo : Nat) (wv nv rv : Value) : Array Value := #[.map (some bt), .map (some bo), wv, nv, rv]
/-- The kids of a node that was put: a row of their own, apart from the row of those that have no parent. -/
def KidR (w : World) (B : Nat) (rv : Value) (x : NR) : Prop := w.ownsRow B 3 1 (.slice x.2.1 x.1.l.length x.2.2) x.1.l.length (ints x.1.l) ∧ ∀ k, (Value.slice x.2.1 x.1.l.length x.2.2).ownBlock = some k → rv.ownBlock ≠ some k
section
variable {B : Nat} {w w' : World} {b bt bo nt no : Nat} {f g : ByteArray → Option Value} {wv nv rv : Value} {wl : List WkE} {l : List NR} {rt : List Nat}
end
theorem _root_.Go.Proofs.YtcidimjjclanmaaDoor.RowA.set {w : World} {g : Nat} {t : TypeId} {cs : Array Value} (r : RowA w g t cs) (k : Nat) (v : Value) : RowA (w.setCell ⟨g, k, none⟩ v) g t (cs.setIfInBounds k v) := by
  unfold RowA at r ⊢
  simp [World.setCell, Array.getElem?_modify, r]
theorem _root_.Go.Proofs.YtcidimjjclanmaaDoor.RowA.far {w : World} {g : Nat} {t : TypeId} {cs : Array Value} (r : RowA w g t cs) {a : Addr} (ha : g ≠ a.block) (v : Value) : RowA (w.setCell a v) g t cs := (Below.heap_setCell w a v g ha).trans r
theorem bel_set {B : Nat} {a w : World} (h : Below B a w) (p : Addr) (v : Value) (hp : B ≤ p.block) : Below B a (w.setCell p v) :=
  ⟨h.os, h.tape, h.output, by simpa [World.setCell] using h.size, fun k hk => (Below.heap_setCell w p v k (by omega)).trans (h.block k hk)⟩
theorem bel_none {w u : World} (h : w.grownBy u none) : Below w.heap.size w u := ⟨h.os, h.tape, h.output, h.size, fun k hk => h.block k hk nofun⟩
theorem bel_row {B : Nat} {a w u : World} {row : Option Nat} (h : Below B a w) (hB : B ≤ w.heap.size) (hg : w.grownBy u row) (hr : ∀ k, row = some k → B ≤ k) : Below B a u :=
  ⟨hg.os.trans h.os, hg.tape.trans h.tape, hg.output.trans h.output, Nat.le_trans h.size hg.size, fun k hk => (hg.block k (by omega) (fun q => by have := hr k q.symm; omega)).trans (h.block k hk)⟩
theorem own_set {u : World} {base : Nat} {e : TypeId} {sz n : Nat} {z : Value} {xs : List Value} (h : u.ownsRow base e sz z n xs) {a : Addr} (hb : z.ownBlock ≠ some a.block) (y : Value) : (u.setCell a y).ownsRow base e sz z n xs := by
  obtain ⟨h1, h2⟩ := h
  refine ⟨h1, ?_⟩
  rcases h2 with h2 | ⟨g, cap, cur, hv, hg, hh, r⟩
  · exact .inl h2
  · exact .inr ⟨g, cap, cur, hv, hg, (Below.heap_setCell _ _ _ _ (fun q => hb (by rw [hv, ← q]; rfl))).trans hh, r⟩
theorem MapV.set {w : World} {b n : Nat} {f : ByteArray → Option Value} (h : MapV w b n f) {a : Addr} (hb : b ≠ a.block) (y : Value) : MapV (w.setCell a y) b n f := h.keep (Below.heap_setCell _ _ _ _ hb)
theorem MapV.far {w : World} {b n : Nat} {f : ByteArray → Option Value} (h : MapV w b n f) {base : Nat} {e : TypeId} {sz m : Nat} {z : Value} {xs : List Value} (ho : w.ownsRow base e sz z m xs) : z.ownBlock ≠ some b := by
  obtain ⟨es, cl, hb⟩ := h.blk
  exact own_nem ho hb
theorem MapV.ne {w : World} {b n g : Nat} {f : ByteArray → Option Value} {t : TypeId} {cs : Array Value} (h : MapV w b n f) (r : RowA w g t cs) : b ≠ g := fun q => by
  obtain ⟨es, cl, hb⟩ := h.blk
  unfold RowA at r
  rw [← q, hb] at r
  cases r
theorem own_neR {w : World} {base : Nat} {e e' : TypeId} {sz n b : Nat} {v : Value} {xs : List Value} {cs : Array Value} (h : w.ownsRow base e sz v n xs) (hb : RowA w b e' cs) (hne : e ≠ e') : v.ownBlock ≠ some b := own_ne h hb hne
theorem own_sb {u : World} {base : Nat} {e : TypeId} {sz n b k : Nat} {z : Value} {xs : List Value} (h : u.ownsRow base e sz z n xs) (hb : z.ownBlock ≠ some b) (y : Value) : (u.setCell ⟨b, k, none⟩ y).ownsRow base e sz z n xs := own_set h hb y
theorem MapV.sb {w : World} {b n c k : Nat} {f : ByteArray → Option Value} (h : MapV w b n f) (hb : b ≠ c) (y : Value) : MapV (w.setCell ⟨c, k, none⟩ y) b n f := h.set hb y
/-- Where a row may lie now. -/
def Lies (w : World) (v z : Value) : Prop := z.ownBlock = v.ownBlock ∨ ∃ k, z.ownBlock = some k ∧ w.heap.size ≤ k
theorem Lies.ne {w : World} {v z : Value} {base : Nat} {e : TypeId} {sz n : Nat} {y : Value} {xs : List Value} (h : Lies w v z) (ho : w.ownsRow base e sz y n xs) (hn : ∀ k, y.ownBlock = some k → v.ownBlock ≠ some k) : ∀ k, y.ownBlock = some k → z.ownBlock ≠ some k := fun k hk q => by
  rcases h with h | ⟨j, h1, h2⟩
  · exact hn k hk (h ▸ q)
  · rw [h1] at q
    cases q
    have := (ho.lt k hk).2
    omega
section
variable {B : Nat} {w u : World} {b bt bo nt no : Nat} {f g : ByteArray → Option Value} {wv nv rv z : Value} {wl wl' : List WkE} {l : List NR} {rt rt' : List Nat} {n : Nat}
end
end Go.Proofs.YtcidimjjclanmaaDoor.Sy

/- The landed expander: a node is put. -/
namespace Go.Proofs.YtcidimjjclanmaaDoor.Sy.Ap
open Go.RowKit
set_option maxRecDepth 100000
set_option linter.unusedVariables false

def withG (x : Gd) (ks : List Int) : Gd := ⟨x.op, x.s, ks, x.lo, x.hi, x.nm⟩
/-! ### A region that appends one element to a row of a struct, in whatever order -/
def AppP (w : World) (B : Nat) (e : TypeId) (sz : Nat) (v : Value) (n : Nat) (xs : List Value) (z : Value) (u : World) : Prop := u.ownsRow B e sz z (n + 1) xs ∧ (z.ownBlock = v.ownBlock ∨ ∃ k, z.ownBlock = some k ∧ w.heap.size ≤ k)
structure AppS (w : World) (B b q : Nat) (tr : TypeId) (cr bx : Array Value) (e : TypeId) (sz : Nat) (v : Value) (n : Nat) (xs ys : List Value) (sl : Nat) (a : Act) (u : World) : Prop where
  box : RowA u q 43 bx
  row : RowA u b tr cr
  grow : w.grownBy u v.ownBlock
  own : u.ownsRow B e sz v n xs
  app : ∀ z, a.tmps[sl]? = some z → z = undef ∨ AppP w B e sz v n (xs ++ ys) z u
def nS (sl : Nat) (d : Option Nat) : Bool := !(d == some sl)
def EbS (sl : Nat) (v : Value) (d : Option Nat) (u u' : World) : Prop := if nS sl d = true then Below u.heap.size u u' else u.grownBy u' v.ownBlock
theorem eby {sl : Nat} {v : Value} {d : Option Nat} {u u' : World} (hd : nS sl d = true) (h : Below u.heap.size u u') : EbS sl v d u u' := by
  unfold EbS; rw [if_pos hd]; exact h
theorem ebw {sl : Nat} {v : Value} {d : Option Nat} {u u' : World} (hd : nS sl d = false) (h : u.grownBy u' v.ownBlock) : EbS sl v d u u' := by
  unfold EbS; rw [if_neg (by rw [hd]; exact Bool.false_ne_true)]; exact h
theorem grown_below {w u u' : World} {row : Option Nat} (h : w.grownBy u row) (hb : Below u.heap.size u u') : w.grownBy u' row :=
  ⟨hb.os.trans h.os, hb.tape.trans h.tape, hb.output.trans h.output, Nat.le_trans h.size hb.size, fun k hk hr => (hb.block k (Nat.lt_of_lt_of_le hk h.size)).trans (h.block k hk hr)⟩
theorem grown_trans {w u u' : World} {row : Option Nat} (h : w.grownBy u row) (hb : u.grownBy u' row) : w.grownBy u' row :=
  ⟨hb.os.trans h.os, hb.tape.trans h.tape, hb.output.trans h.output, Nat.le_trans h.size hb.size, fun k hk hr => (hb.block k (Nat.lt_of_lt_of_le hk h.size) hr).trans (h.block k hk hr)⟩
section
variable {w u u' u1 : World} {B b q : Nat} {tr : TypeId} {cr bx : Array Value} {e : TypeId} {sz : Nat} {v v' : Value} {n : Nat} {xs ys : List Value} {sl : Nat} {a : Act}
theorem AppS.below (h : AppS w B b q tr cr bx e sz v n xs ys sl a u) (hb : Below u.heap.size u u') : AppS w B b q tr cr bx e sz v n xs ys sl a u' :=
  ⟨h.box.below hb h.box.lt, h.row.below hb h.row.lt, grown_below h.grow hb, own_below h.own hb (Nat.le_refl _), fun z hz => by
    rcases h.app z hz with h1 | ⟨h1, h2⟩
    · exact .inl h1
    · exact .inr ⟨own_below h1 hb (Nat.le_refl _), h2⟩⟩
theorem AppS.put (h : AppS w B b q tr cr bx e sz v n xs ys sl a u) {d : Option Nat} (he : nS sl d = true) (z : Value) : AppS w B b q tr cr bx e sz v n xs ys sl (a.put d z) u := by
  have e8 : (a.put d z).tmps[sl]? = a.tmps[sl]? := by
    cases d with
    | none => rfl
    | some d => rw [put_tmps, Array.getElem?_setIfInBounds_ne (fun q => by subst q; simp [nS] at he)]
  exact ⟨h.box, h.row, h.grow, h.own, fun y hy => h.app y (e8 ▸ hy)⟩
theorem own_not (h : u.ownsRow B e sz v n xs) : v ≠ undef := fun q => by
  obtain ⟨A1, c1, h2⟩ := own_form h
  rw [h2] at q
  cases q
theorem AppS.app_ (hvb : v.ownBlock ≠ some b) (hvq : v.ownBlock ≠ some q) (hS : AppS w B b q tr cr bx e sz v n xs ys sl a u)
    (h1 : u1.ownsRow B e sz v' (n + 1) (xs ++ ys)) (h2 : u1.ownsRow B e sz v n xs) (h3 : u.grownBy u1 v.ownBlock) (h4 : v'.ownBlock = v.ownBlock ∨ v'.ownBlock = some u.heap.size) : AppS w B b q tr cr bx e sz v n xs ys sl (a.put (some sl) v') u1 := by
  refine ⟨(h3.block _ hS.box.lt (fun e => hvq e.symm)).trans hS.box, (h3.block _ hS.row.lt (fun e => hvb e.symm)).trans hS.row, grown_trans hS.grow h3, h2, fun z hz => .inr ?_⟩
  rw [put_tmps, Array.getElem?_setIfInBounds] at hz
  simp only [if_true] at hz
  split at hz
  · cases hz
    refine ⟨h1, ?_⟩
    rcases h4 with h4 | h4
    · exact .inl h4
    · exact .inr ⟨_, h4, hS.grow.size⟩
  · cases hz
/-- A new row of one element. -/
def NewR (w : World) (v : Value) (e : TypeId) (cs : Array Value) (z : Value) (u : World) : Prop := ∃ g, z = .slice (some ⟨g, 0, none⟩) 1 1 ∧ v.ownBlock ≠ some g ∧ w.heap.size ≤ g ∧ RowA u g e cs
theorem NewR.stab {cs : Array Value} {z : Value} {d : Option Nat} (h : NewR w v e cs z u) (hE : EbS sl v d u u') : NewR w v e cs z u' := by
  obtain ⟨g, e, hgv, hg, r⟩ := h
  refine ⟨g, e, hgv, hg, ?_⟩
  unfold EbS at hE
  split at hE
  · exact r.below hE r.lt
  · exact (hE.block g r.lt (fun q => hgv q.symm)).trans r
end
/- The row of those that have no parent is cut, and gets one more; the row of nodes gets one more. -/
theorem ob_eq (A : Option Addr) (n c n' c' : Nat) : (Value.slice A n c).ownBlock = (Value.slice A n' c').ownBlock := by cases A <;> rfl
end Go.Proofs.YtcidimjjclanmaaDoor.Sy.Ap

/- The landed expander: a name is entered, and left. -/
namespace Go.Proofs.YtcidimjjclanmaaDoor.Sy.Ap
open Go.RowKit
set_option maxRecDepth 100000
set_option linter.unusedVariables false

theorem wksC_snoc (l : List WkE) (e : WkE) : wksC l ++ wkL e = wksC (l ++ [e]) := by simp [wksC]
theorem wksC_len (l : List WkE) : (wksC l).length = l.length * 2 := by
  induction l with
  | nil => rfl
  | cons e r ih =>
    have : wksC (e :: r) = wkL e ++ wksC r := rfl
    rw [this, List.length_append, ih, List.length_cons]
    show 2 + _ = _
    omega
section
variable {B : Nat} {w : World} {b bt bo nt no : Nat} {f g : ByteArray → Option Value} {wv nv rv : Value} {wl : List WkE} {l : List NR} {rt : List Nat}
end
end Go.Proofs.YtcidimjjclanmaaDoor.Sy.Ap

/- The landed expander: a walk is left; a node is taken. -/
namespace Go.Proofs.YtcidimjjclanmaaDoor.Sy.Ap
open Go.RowKit
set_option maxRecDepth 100000
set_option linter.unusedVariables false

theorem own_cutS {w : World} {base : Nat} {e : TypeId} {sz n r c : Nat} {A : Option Addr} {xs : List Value} (h : w.ownsRow base e sz (.slice A n c) n xs) (hr : r ≤ n) : w.ownsRow base e sz (.slice A r c) r (xs.take (r * sz)) := by
  obtain ⟨h1, h2⟩ := h
  have hle : r * sz ≤ n * sz := Nat.mul_le_mul_right _ hr
  refine ⟨by rw [List.length_take, h1]; omega, ?_⟩
  rcases h2 with ⟨h2, h3⟩ | ⟨g, cap, cur, hv, hg, hh, h3, h4, h5, h6⟩
  · cases h2
    have : r = 0 := by omega
    subst this
    exact .inl ⟨rfl, rfl⟩
  · cases hv
    refine .inr ⟨g, c, cur, rfl, hg, hh, by omega, h4, h5, ?_⟩
    rw [← h6, List.take_take]
    congr 1
    omega
theorem wksC_take (wl : List WkE) (e : WkE) : (wksC (wl ++ [e])).take (wl.length * 2) = wksC wl := by
  rw [← wksC_snoc, ← wksC_len, List.take_left]
theorem wksC_last (wl : List WkE) (e : WkE) (j : Nat) (hj : j < 2) : (wksC (wl ++ [e]))[wl.length * 2 + j]? = (wkL e)[j]? := by
  rw [← wksC_snoc, List.getElem?_append_right (by rw [wksC_len]; omega), wksC_len]
  congr 1
  omega
namespace Lv
def Eb (_ : Option Nat) (u u' : World) : Prop := Below u.heap.size u u'
theorem eby {d : Option Nat} {u u' : World} (_ : true = true) (h : Below u.heap.size u u') : Eb d u u' := h
end Lv

/-- What becomes of a node. -/
def TakeR (B : Nat) (w : World) (b bt bo nt : Nat) (f : ByteArray → Option Value) (wv nv rv : Value) (wl : List WkE) (l : List NR) (rt : List Nat) (er : Int) (e : Ending) (w' : World) : Prop := e = .returned (.int .i64 er) ∧ Below B w w'
section
variable {B : Nat} {w : World} {b bt bo nt no : Nat} {f g : ByteArray → Option Value} {wv nv rv : Value} {wl : List WkE} {l : List NR} {rt : List Nat}
end
end Go.Proofs.YtcidimjjclanmaaDoor.Sy.Ap

/- The landed expander: walks within each other, by plain lists and in memory. -/
namespace Go.Proofs.YtcidimjjclanmaaDoor.Sy.Ap
open Go.RowKit
set_option maxRecDepth 100000
set_option linter.unusedVariables false

/-! ### Plain lists -/
/-- Walks within each other, the innermost first. -/
def res (all : List Nat → Bool) : List (List Nd × List Df) → X → Except Nat X
  | [], x => .ok x
  | (r, D) :: st, x => match exF all D r x with | .error e => .error e | .ok x' => res all st x'
/-- How many rounds some nodes take at most. -/
def cost (D : List Df) (l : List Nd) : Nat :=
  match l with
  | [] => 0
  | n :: r => 1 + (if n.op = 6 then (match h : findD D n.name with | some t => cost (remD D n.name) t + 1 | none => 0) else 0) + cost D r
termination_by (D.length, l.length)
decreasing_by
  · exact Prod.Lex.left _ _ (remD_lt h)
  · exact Prod.Lex.right _ (by simp)
theorem cost_lt (D : List Df) (n : Nd) (r : List Nd) : cost D r < cost D (n :: r) := by
  rw [cost]
  omega
theorem cost_in {D : List Df} {n : Nd} {r t : List Nd} (h6 : n.op = 6) (h : findD D n.name = some t) : cost (remD D n.name) t + 1 + cost D r < cost D (n :: r) := by
  have e : cost D (n :: r) = 1 + (cost (remD D n.name) t + 1) + cost D r := by
    rw [cost.eq_2, if_pos h6]
    split
    · rename_i t' h'
      rw [h] at h'
      cases h'
      rfl
    · rename_i h'
      rw [h] at h'
      cases h'
  rw [e]
  omega
def costs : List (List Nd × List Df) → Nat
  | [] => 0
  | (r, D) :: st => cost D r + 1 + costs st
section
variable {all : List Nat → Bool} {D : List Df} {n : Nd} {r t : List Nd} {st : List (List Nd × List Df)} {x : X}
theorem res_leave : res all (([], D) :: st) x = res all st x := by rw [res, exF_nil]
theorem res_enter (h6 : n.op = 6) (h : findD D n.name = some t) : res all ((n :: r, D) :: st) x = res all ((t, remD D n.name) :: (r, D) :: st) x := by
  rw [res, exF_some h6 h, res]
  cases exF all (remD D n.name) t x with
  | error e => rfl
  | ok x' => rfl
theorem res_bad (h6 : n.op = 6) (h : findD D n.name = none) : res all ((n :: r, D) :: st) x = .error (if all n.name then 61 else 60) := by rw [res, exF_none h6 h]
theorem res_long (h6 : n.op ≠ 6) (h : 1024 ≤ x.out.length) : res all ((n :: r, D) :: st) x = .error 3 := by rw [res, exF_long h6 h]
theorem res_put (h6 : n.op ≠ 6) (h : ¬ 1024 ≤ x.out.length) : res all ((n :: r, D) :: st) x = res all ((r, D) :: st) (putX n x) := by rw [res, exF_put h6 h, res]
end

/-! ### In memory -/
/-- A walk: as memory has it, what is yet to come, what the names that are not being walked stand for. -/
abbrev FR := WkE × List Nd × List Df
def Small (gs : List Gd) : Prop := ∀ g ∈ gs, g.nm.size ≤ maxLen ∧ g.l.length ≤ maxLen
structure Frm (w : World) (B : Nat) (e : WkE) (ns : List Nd) : Prop where
  nds : Nds w B e.A e.rest
  gn : GN e.rest ns
  cap : e.rest.length ≤ e.c
  shp : Shp ns
  sml : Small e.rest
theorem Frm.below {w w' : World} {B : Nat} {e : WkE} {ns : List Nd} (h : Frm w B e ns) (hb : Below B w w') : Frm w' B e ns := ⟨h.nds.below hb, h.gn, h.cap, h.shp, h.sml⟩
/-- Walks within each other, the innermost first; g: the names that are being walked. -/
inductive Stk (w : World) (B : Nat) (D0 : List Df) : (ByteArray → Option Value) → List FR → Prop
  | nil : Stk w B D0 (fun _ => none) []
  | base {e : WkE} {ns : List Nd} : e.nm.size = 0 → Frm w B e ns → Stk w B D0 (fun _ => none) [(e, ns, D0)]
  | step {g : ByteArray → Option Value} {e e' : WkE} {ns ns' t : List Nd} {D' : List Df} {fs : List FR} : Stk w B D0 g ((e', ns', D') :: fs) → findD D' (bs e.nm) = some t → g e.nm = none → e.nm.size ≤ maxLen → Frm w B e ns → Stk w B D0 (fun k => if k = e.nm then some (.agg #[]) else g k) ((e, ns, remD D' (bs e.nm)) :: (e', ns', D') :: fs)
section
variable {w w' : World} {B : Nat} {D0 : List Df} {g : ByteArray → Option Value} {fs : List FR}
theorem Stk.keep (h : Stk w B D0 g fs) (hb : Below B w w') : Stk w' B D0 g fs := by
  induction h with
  | nil => exact .nil
  | base h1 h2 => exact .base h1 (h2.below hb)
  | step h1 h2 h3 h4 h5 ih => exact .step ih h2 h3 h4 (h5.below hb)
/-- What a name stands for, by what is being walked. -/
theorem Stk.find (h : Stk w B D0 g fs) : ∀ e ns D r, fs = (e, ns, D) :: r → ∀ s, (g s = none ∧ findD D (bs s) = findD D0 (bs s)) ∨ (g s = some (.agg #[]) ∧ findD D (bs s) = none ∧ (findD D0 (bs s)).isSome = true) := by
  induction h with
  | nil => intro e ns D r q; cases q
  | base h1 h2 => intro e ns D r q s; cases q; exact .inl ⟨rfl, rfl⟩
  | @step g e e' ns ns' t D' fs h1 h2 h3 h4 h5 ih =>
    intro e2 ns2 D2 r2 q s
    cases q
    rcases ih _ _ _ _ rfl s with ⟨q1, q2⟩ | ⟨q1, q2, q3⟩
    · by_cases hs : s = e.nm
      · subst hs
        refine .inr ⟨if_pos rfl, by rw [findD_rem, if_pos rfl], ?_⟩
        rw [← q2, h2]
        rfl
      · refine .inl ⟨(if_neg hs).trans q1, ?_⟩
        rw [findD_rem, if_neg (fun q => hs (bs_inj q))]
        exact q2
    · have hs : s ≠ e.nm := fun q => by subst q; rw [h3] at q1; cases q1
      refine .inr ⟨(if_neg hs).trans q1, ?_, q3⟩
      rw [findD_rem, if_neg (fun q => hs (bs_inj q))]
      exact q2
theorem Stk.len (h : Stk w B D0 g fs) : ∀ e ns D r, fs = (e, ns, D) :: r → D.length + fs.length ≤ D0.length + 1 := by
  induction h with
  | nil => intro e ns D r q; cases q
  | base h1 h2 => intro e ns D r q; cases q; exact Nat.le_refl _
  | @step g e e' ns ns' t D' fs h1 h2 h3 h4 h5 ih =>
    intro e2 ns2 D2 r2 q
    cases q
    have := ih _ _ _ _ rfl
    have := remD_lt h2
    simp only [List.length_cons] at *
    omega
theorem Stk.len' (h : Stk w B D0 g fs) : fs.length ≤ D0.length + 1 := by
  cases fs with
  | nil => exact Nat.zero_le _
  | cons f r =>
    obtain ⟨e, ns, D⟩ := f
    have := h.len _ _ _ _ rfl
    omega
theorem Stk.top {e : WkE} {ns : List Nd} {D : List Df} {r : List FR} (h : Stk w B D0 g ((e, ns, D) :: r)) : Frm w B e ns ∧ e.nm.size ≤ maxLen := by
  cases h with
  | base h1 h2 => exact ⟨h2, by omega⟩
  | step h1 h2 h3 h4 h5 => exact ⟨h5, h4⟩
/-- The innermost walk goes on. -/
theorem Stk.turn {e e2 : WkE} {ns ns2 : List Nd} {D : List Df} {r : List FR} (h : Stk w B D0 g ((e, ns, D) :: r)) (hn : e2.nm = e.nm) (hf : Frm w B e2 ns2) : Stk w B D0 g ((e2, ns2, D) :: r) := by
  obtain ⟨nm2, A2, c2, rest2⟩ := e2
  obtain ⟨nm, A, c, rest⟩ := e
  simp only at hn
  subst hn
  cases h with
  | base h1 h2 => exact .base h1 hf
  | step h1 h2 h3 h4 h5 => exact .step (e := ⟨nm2, A2, c2, rest2⟩) h1 h2 h3 h4 hf
/-- The innermost walk is left. -/
theorem Stk.pop {e : WkE} {ns : List Nd} {D : List Df} {r : List FR} (h : Stk w B D0 g ((e, ns, D) :: r)) : Stk w B D0 (fun k => if k = e.nm then none else g k) r ∧ (r ≠ [] → (g e.nm).isSome = true) := by
  cases h with
  | base h1 h2 =>
    refine ⟨?_, fun q => absurd rfl q⟩
    have : (fun k => if k = e.nm then none else (fun _ => none : ByteArray → Option Value) k) = (fun _ => none : ByteArray → Option Value) := by funext k; simp
    rw [this]
    exact .nil
  | @step g' e e' ns ns' t D' fs h1 h2 h3 h4 h5 =>
    refine ⟨?_, fun _ => by simp⟩
    have : (fun k => if k = e.nm then none else (fun k => if k = e.nm then some (.agg #[]) else g' k : ByteArray → Option Value) k) = g' := by
      funext k
      by_cases hk : k = e.nm
      · subst hk; simp [h3]
      · simp [hk]
    rw [this]
    exact h1
end
/-- A cell of the last walk is written. -/
theorem own_put {w : World} {base : Nat} {e : TypeId} {sz n gw cw j : Nat} {xs : List Value} (h : w.ownsRow base e sz (.slice (some ⟨gw, 0, none⟩) n cw) n xs) (hj : j < xs.length) (v : Value) : (w.setCell ⟨gw, j, none⟩ v).ownsRow base e sz (.slice (some ⟨gw, 0, none⟩) n cw) n (xs.set j v) := by
  obtain ⟨h1, h2⟩ := h
  refine ⟨by rw [List.length_set]; exact h1, ?_⟩
  rcases h2 with ⟨h2, h3⟩ | ⟨g, cap, cur, hv, hg, hh, h3, h4, h5, h6⟩
  · cases h2
  · cases hv
    refine .inr ⟨gw, cw, cur.setIfInBounds j v, rfl, hg, ?_, h3, h4, by rw [Array.size_setIfInBounds]; exact h5, ?_⟩
    · simp [World.setCell, Array.getElem?_modify, hh]
    · rw [Array.toList_setIfInBounds, List.take_set, h6]
theorem wksC_set (wl : List WkE) (e e2 : WkE) (hn : e2.nm = e.nm) : (wksC (wl ++ [e])).set (wl.length * 2 + 1) (.slice e2.A e2.rest.length e2.c) = wksC (wl ++ [e2]) := by
  rw [← wksC_snoc, ← wksC_snoc, List.set_append_right _ _ (by rw [wksC_len]; omega), wksC_len]
  have : wl.length * 2 + 1 - wl.length * 2 = 1 := by omega
  rw [this]
  unfold wkL
  rw [hn]
  rfl
theorem nds_tail {w : World} {B b o : Nat} {g : Gd} {rest : List Gd} (h : Nds w B (some ⟨b, o, none⟩) (g :: rest)) : Nds w B (some ⟨b, o + 9, none⟩) rest := fun hne => by
  obtain ⟨b', o', e, hb, ha⟩ := h (by simp)
  cases e
  refine ⟨b, o + 9, rfl, hb, fun i hi => ?_⟩
  have := ha (i + 1) (by simp; omega)
  rw [show o + (i + 1) * 9 = o + 9 + i * 9 from by omega] at this
  exact this
end Go.Proofs.YtcidimjjclanmaaDoor.Sy.Ap

/- The landed expander: expand. -/
namespace Go.Proofs.YtcidimjjclanmaaDoor.Sy.Ap
open Go.RowKit
set_option maxRecDepth 100000
set_option linter.unusedVariables false

/-- The map of what names stand for, by plain lists. -/
structure TrM (w : World) (B : Nat) (D0 : List Df) (f : ByteArray → Option Value) : Prop where
  none : ∀ s, f s = none → findD D0 (bs s) = none
  some : ∀ s v, f s = some v → ∃ A c gs t, v = .slice A gs.length c ∧ Nds w B A gs ∧ gs.length ≤ c ∧ GN gs t ∧ findD D0 (bs s) = some t ∧ TreeN t ∧ Small gs
theorem TrM.keep {w w' : World} {B : Nat} {D0 : List Df} {f : ByteArray → Option Value} (h : TrM w B D0 f) (hb : Below B w w') : TrM w' B D0 f :=
  ⟨h.none, fun s v hv => by
    obtain ⟨A, c, gs, t, h1, h2, h3⟩ := h.some s v hv
    exact ⟨A, c, gs, t, h1, h2.below hb, h3⟩⟩
def flat (fs : List FR) : List Nd := fs.flatMap (·.2.1)
section
variable {B : Nat} {w wr w' : World} {b bt bo nt no : Nat} {f g : ByteArray → Option Value} {D0 : List Df} {RES : Except Nat X} {k : Nat} {fs : List FR} {x : X} {wv nv rv : Value} {wl : List WkE} {l : List NR}
theorem flat_cons (e : WkE) (ns : List Nd) (D : List Df) (r : List FR) : flat ((e, ns, D) :: r) = ns ++ flat r := rfl
theorem gn_cons {g0 : Gd} {gs : List Gd} {ns : List Nd} (h : GN (g0 :: gs) ns) : ∃ n ns', ns = n :: ns' ∧ GN1 g0 n ∧ GN gs ns' := by
  cases ns with
  | nil => have := h.1; simp at this
  | cons n ns' =>
    refine ⟨n, ns', rfl, h.2 0 (by simp), ?_, fun i hi => ?_⟩
    · have := h.1; simpa using this
    · have := h.2 (i + 1) (by simp; omega)
      simpa using this
end
end Go.Proofs.YtcidimjjclanmaaDoor.Sy.Ap

/- The landed expander: expand, walked. -/
namespace Go.Proofs.YtcidimjjclanmaaDoor.Sy.Ap
open Go.RowKit
set_option maxRecDepth 100000
set_option linter.unusedVariables false

theorem res_one {all : List Nat → Bool} {D : List Df} {l : List Nd} {x : X} : res all [(l, D)] x = exF all D l x := by
  rw [res]
  cases exF all D l x with
  | error e => rfl
  | ok x' => rfl
section
variable {B : Nat} {w wr w' : World} {b bt bo nt no : Nat} {f g : ByteArray → Option Value} {D0 : List Df} {RES : Except Nat X} {k : Nat} {fs : List FR} {x : X} {wv nv rv : Value} {wl : List WkE} {l : List NR}
end
end Go.Proofs.YtcidimjjclanmaaDoor.Sy.Ap

/- The landed expander: expand's loop. -/
namespace Go.Proofs.YtcidimjjclanmaaDoor.Sy.Ap
open Go.RowKit
set_option maxRecDepth 100000
set_option linter.unusedVariables false

end Go.Proofs.YtcidimjjclanmaaDoor.Sy.Ap

/- The landed Expand. -/
namespace Go.Proofs.YtcidimjjclanmaaDoor.Sy.Ap
open Go.RowKit
set_option maxRecDepth 100000
set_option linter.unusedVariables false

def df0 : Df := ([], [])
/-- Defs as plain lists. -/
structure GD (ds : List DG) (D : List Df) : Prop where
  len : ds.length = D.length
  at_ : ∀ i, i < ds.length → bs (ds.getD i dg0).1 = (D.getD i df0).1 ∧ GN (ds.getD i dg0).2 (D.getD i df0).2
  trs : TreesD D
theorem gn_tree {gs : List Gd} (h : RightG gs) : ∃ ns, GN gs ns ∧ TreeN ns := by
  obtain ⟨ns, h1, h2, h3, h4, h5⟩ := h
  exact ⟨ns, h1, h2, h3, h4, h5⟩
theorem tree_rg {gs : List Gd} {ns : List Nd} (h : GN gs ns) (ht : TreeN ns) : RightG gs := ⟨ns, h, ht.shp, ht.pos, ht.few, ht.frs⟩
theorem gd_of {ds : List DG} (h : RightDs ds) : ∃ D, GD ds D := by
  obtain ⟨h1, h2⟩ := h
  clear h2
  induction ds with
  | nil => exact ⟨[], rfl, fun i hi => absurd hi (Nat.not_lt_zero _), fun d hd => absurd hd List.not_mem_nil⟩
  | cons d r ih =>
    obtain ⟨D, hD⟩ := ih (fun x hx => h1 x (by simp [hx]))
    obtain ⟨ns, hn, ht⟩ := gn_tree (h1 d (by simp)).2
    refine ⟨(bs d.1, ns) :: D, by simp [hD.len], fun i hi => ?_, fun x hx => ?_⟩
    · cases i with
      | zero => exact ⟨rfl, hn⟩
      | succ i =>
        have := hD.at_ i (by simpa using hi)
        simpa using this
    · rcases List.mem_cons.1 hx with q | q
      · subst q; exact ht
      · exact hD.trs x q
theorem GD.mem {ds : List DG} {D : List Df} (h : GD ds D) {d : DG} (hd : d ∈ ds) : ∃ t, (bs d.1, t) ∈ D ∧ GN d.2 t := by
  obtain ⟨i, hi, rfl⟩ := List.getElem_of_mem hd
  have hi2 : i < D.length := by rw [← h.len]; exact hi
  have h1 := h.at_ i hi
  have e1 : ds.getD i dg0 = ds[i] := by rw [List.getD_eq_getElem?_getD, List.getElem?_eq_getElem hi]; rfl
  have e2 : D.getD i df0 = D[i] := by rw [List.getD_eq_getElem?_getD, List.getElem?_eq_getElem hi2]; rfl
  rw [e1, e2] at h1
  exact ⟨D[i].2, by rw [h1.1]; exact List.getElem_mem hi2, h1.2⟩
theorem GD.back {ds : List DG} {D : List Df} (h : GD ds D) {x : Df} (hx : x ∈ D) : ∃ d ∈ ds, bs d.1 = x.1 := by
  obtain ⟨i, hi, rfl⟩ := List.getElem_of_mem hx
  have hi2 : i < ds.length := by rw [h.len]; exact hi
  have h1 := h.at_ i hi2
  have e1 : ds.getD i dg0 = ds[i] := by rw [List.getD_eq_getElem?_getD, List.getElem?_eq_getElem hi2]; rfl
  have e2 : D.getD i df0 = D[i] := by rw [List.getD_eq_getElem?_getD, List.getElem?_eq_getElem hi]; rfl
  rw [e1, e2] at h1
  exact ⟨ds[i], List.getElem_mem hi2, h1.1⟩
theorem GD.apart {ds : List DG} {D : List Df} (h : GD ds D) (hr : RightDs ds) : D.Pairwise fun a b => a.1 ≠ b.1 := by
  rw [List.pairwise_iff_getElem]
  intro i j hi hj hij q
  have hi2 : i < ds.length := by rw [h.len]; exact hi
  have hj2 : j < ds.length := by rw [h.len]; exact hj
  have h1 := (h.at_ i hi2).1
  have h2 := (h.at_ j hj2).1
  have e1 : ds.getD i dg0 = ds[i] := by rw [List.getD_eq_getElem?_getD, List.getElem?_eq_getElem hi2]; rfl
  have e2 : D.getD i df0 = D[i] := by rw [List.getD_eq_getElem?_getD, List.getElem?_eq_getElem hi]; rfl
  have e3 : ds.getD j dg0 = ds[j] := by rw [List.getD_eq_getElem?_getD, List.getElem?_eq_getElem hj2]; rfl
  have e4 : D.getD j df0 = D[j] := by rw [List.getD_eq_getElem?_getD, List.getElem?_eq_getElem hj]; rfl
  rw [e1, e2] at h1
  rw [e3, e4] at h2
  exact (List.pairwise_iff_getElem.1 hr.2) i j hi2 hj2 hij (bs_inj (h1.trans (q.trans h2.symm)))
theorem trm_of {w : World} {b n B : Nat} {ds : List DG} {D : List Df} {f : ByteArray → Option Value} (h : MapT w b n B ds f) (hG : GD ds D) (hr : RightDs ds) (hok : DOk ds) : TrM w B D f := by
  have hp := hG.apart hr
  refine ⟨fun s hs => ?_, fun s v hv => ?_⟩
  · cases hf : findD D (bs s) with
    | none => rfl
    | some t =>
      obtain ⟨d, h1, h2⟩ := hG.back (findD_mem hf)
      exact absurd (bs_inj h2) ((h.none s).1 hs d h1)
  · obtain ⟨d, h1, h2, A, c, h3, h4, h5⟩ := h.some s v hv
    obtain ⟨t, h6, h7⟩ := hG.mem h1
    subst h2
    exact ⟨A, c, d.2, t, h3, h4, h5, h7, (findD_iff hp _ _).2 h6, hG.trs _ h6, hok.nds d h1⟩
theorem exF_err_ (all : List Nat → Bool) : ∀ (k : Nat) (D : List Df), D.length < k → ∀ (l : List Nd) (x : X) (er : Nat), exF all D l x = .error er → 1 ≤ er := by
  intro k
  induction k with
  | zero => intro D hk; omega
  | succ k ihk =>
    intro D hk l
    induction l with
    | nil => intro x er h; rw [exF_nil] at h; cases h
    | cons n r ih =>
      intro x er h
      by_cases h6 : n.op = 6
      · cases hf : findD D n.name with
        | none =>
          rw [exF_none h6 hf] at h
          cases h
          split <;> omega
        | some t =>
          rw [exF_some h6 hf] at h
          cases hx : exF all (remD D n.name) t x with
          | error e =>
            rw [hx] at h
            cases h
            exact ihk _ (by have := remD_lt hf; omega) t x er hx
          | ok x' =>
            rw [hx] at h
            exact ih x' er h
      · by_cases hl : 1024 ≤ x.out.length
        · rw [exF_long h6 hl] at h
          cases h
          omega
        · rw [exF_put h6 hl] at h
          exact ih _ er h
theorem exF_err {all : List Nat → Bool} {D : List Df} {l : List Nd} {x : X} {er : Nat} (h : exF all D l x = .error er) : 1 ≤ er := exF_err_ all (D.length + 1) D (by omega) l x er h
/-- What Expand tells of trees. -/
def XpR (w : World) (R : Except Nat (List Nd)) (e : Ending) (w' : World) : Prop :=
  Below w.heap.size w w' ∧ match R with
    | .error er => e = .returned (.tuple #[.slice none 0 0, .int .i64 (er : Int)])
    | .ok o => ∃ A c go, e = .returned (.tuple #[.slice A go.length c, .int .i64 0]) ∧ Nds w' w'.heap.size A go ∧ GN go o ∧ go.length ≤ c
end Go.Proofs.YtcidimjjclanmaaDoor.Sy.Ap

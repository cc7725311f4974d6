/- Maps keyed by strings, told by a function; Defs in memory; what names stand for (the landed meanings, Right). -/
import Derived.Test.YtgppanbikfobbaaAb
import Derived.Test.YtgppanbikfobbaaM4
import Derived.Test.YtgppanbikfobbaaSc
import Derived.Maps.OwnSet
namespace Go.Proofs.Ytgppanbikfobbaa.Sy
open Go.RowKit
set_option maxRecDepth 100000
set_option linter.unusedVariables false

/-! ### Maps -/
def heldE (v : Value) : Option (DataW Value × List MemPlace) := some (.held v, [])
def keyS (s : ByteArray) : Lit := .string s.data.toList
theorem keyS_inj {s t : ByteArray} (h : keyS s = keyS t) : s = t := by
  unfold keyS at h
  injection h with h
  cases s; cases t
  congr
  exact Array.toList_inj.1 h
theorem str_key : Maps.Keyed Try.prog 9 := Maps.string_keyed Try.underlying9
def cntO (o : Option Value) : Nat := if o.isSome then 1 else 0
/-- Block b is a map that has these values at these keys, and no others. -/
def MapV (w : World) (b n : Nat) (f : ByteArray → Option Value) : Prop :=
  ∃ D : DataW Value, w.ownsMap Try.prog 9 heldE b n D ∧ ∀ s : ByteArray, Maps.has D (keyS s) = (f s).isSome ∧ ∀ v z, f s = some v → D.atKey (keyS s) z = .held v
section
variable {w w' : World} {b n : Nat} {f : ByteArray → Option Value}
theorem mapV_new (w : World) : MapV (w.alloc (.map #[] 0)) w.heap.size 0 (fun _ => none) :=
  ⟨.map [], World.ownsMap_made w Try.prog 9 heldE, fun s => ⟨rfl, fun v z h => by cases h⟩⟩
theorem MapV.lt (h : MapV w b n f) : b < w.heap.size := by
  obtain ⟨D, h, _⟩ := h
  exact h.lt
theorem MapV.blk (h : MapV w b n f) : ∃ es clock, w.heap[b]? = some (.map es clock) := by
  obtain ⟨D, ⟨es, clock, h, _⟩, _⟩ := h
  exact ⟨es, clock, h⟩
theorem MapV.keep (h : MapV w b n f) (hb : w'.heap[b]? = w.heap[b]?) : MapV w' b n f := by
  obtain ⟨D, ⟨es, clock, h1, h2⟩, h3⟩ := h
  exact ⟨D, ⟨es, clock, hb.trans h1, h2⟩, h3⟩
theorem MapV.below {B : Nat} (h : MapV w b n f) (hb : Below B w w') (hB : b < B) : MapV w' b n f := h.keep (hb.block b hB)
theorem MapV.grown {row : Option Nat} (h : MapV w b n f) (hg : w.grownBy w' row) (hr : some b ≠ row) : MapV w' b n f := h.keep (hg.block b h.lt hr)
theorem MapV.alloc (h : MapV w b n f) (o : Obj) : MapV (w.alloc o) b n f := h.keep (Below.heap_alloc w o b h.lt)
theorem MapV.congr {g : ByteArray → Option Value} (h : MapV w b n f) (e : ∀ s, f s = g s) : MapV w b n g := by
  have : f = g := funext e
  exact this ▸ h
end
section
variable {w : World} {ops : Array Oper} {rest : List Oper} {o : Oper} {a : Act} {Q : Exit → Act → World → Prop}
/-- 'v, ok := m[k]'. -/
theorem wp_look {m x : Operand} (t e : TypeId) (hg : o.guard = none) (hop : o.op = Op.lookup t m x true) (ht : Try.prog.underlying t = some (.map 9 e)) {z : Value} (hz : (zeroValue e).run Try.prog w = .ok z w) (b n : Nat) (f : ByteArray → Option Value)
    (hm : a.eval m = .map (some b)) (h : MapV w b n f) (s : ByteArray) (hx : a.eval x = .string s) (hs : s.size ≤ maxLen)
    (hK : wpList Try.prog ops Q rest (a.put o.dst (.tuple #[(f s).getD z, .bool (f s).isSome])) w) : wpList Try.prog ops Q (o :: rest) a w := by
  obtain ⟨D, h1, h2⟩ := h
  refine wpList_lookup_own_ok w hg m x t hop 9 e str_key ht heldE hz (.held z) [] rfl b n D hm h1 (.string s) (keyS s) hx (WideMaps.keyOf_string_mk Try.underlying9 hs) ?_
  intro v ps hv
  have hv2 : (DataW.held v : DataW Value) = D.atKey (keyS s) (.held z) := by
    unfold heldE at hv
    injection hv with hv
    exact (congrArg Prod.fst hv)
  obtain ⟨h3, h4⟩ := h2 s
  rw [h3]
  cases hf : f s with
  | none =>
    rw [hf] at h3
    rw [Maps.atKey_of_not_has h3] at hv2
    cases hv2
    rw [hf] at hK
    exact hK
  | some u =>
    rw [h4 u _ hf] at hv2
    cases hv2
    rw [hf] at hK
    exact hK
/-- 'm[k] = v'. -/
theorem wp_mput {m x y : Operand} (t e : TypeId) (hg : o.guard = none) (hop : o.op = Op.mapUpdate t m x y) (ht : Try.prog.underlying t = some (.map 9 e)) (b n : Nat) (f : ByteArray → Option Value)
    (hm : a.eval m = .map (some b)) (h : MapV w b n f) (hn : n < maxLen) (s : ByteArray) (v : Value) (hx : a.eval x = .string s) (hv : a.eval y = v) (hs : s.size ≤ maxLen)
    (hK : ∀ w', MapV w' b (n + 1) (fun k => if k = s then some v else f k) → w.mapTurned w' b → wpList Try.prog ops Q rest (a.put o.dst undef) w') : wpList Try.prog ops Q (o :: rest) a w := by
  obtain ⟨D, h1, h2⟩ := h
  have hkey : keyOf Try.prog 9 (.string s) = some (keyS s) := WideMaps.keyOf_string_mk Try.underlying9 hs
  refine wpList_mapUpdate_in w hg m x y t hop 9 e str_key ht heldE b n D hm h1 hn (.string s) v (keyS s) hx hv hkey (.held v) [] rfl ?_
  intro w' h3 h4
  refine hK w' ⟨_, h3, fun k => ?_⟩ h4
  by_cases hk : k = s
  · subst hk
    refine ⟨?_, fun u z hu => ?_⟩
    · rw [Maps.has_put_same h1.isMap (str_key.key hkey)]
      simp
    · simp at hu
      subst hu
      exact Maps.atKey_put_same h1.isMap (str_key.key hkey) _ _
  · have hne : keyS k ≠ keyS s := fun q => hk (keyS_inj q)
    rw [Maps.has_put_other hne]
    simp only [if_neg hk]
    refine ⟨(h2 k).1, fun u z hu => ?_⟩
    rw [Maps.atKey_put_other hne]
    exact (h2 k).2 u z hu
/-- 'delete(m, k)'. -/
theorem wp_mdel {m x : Operand} (t e : TypeId) (hg : o.guard = none) (hop : o.op = Op.call { callee := Callee.builtin Builtin.delete, args := #[m, x], argTypes := #[t, 9] }) (ht : Try.prog.underlying t = some (.map 9 e)) (b n : Nat) (f : ByteArray → Option Value)
    (hm : a.eval m = .map (some b)) (h : MapV w b n f) (s : ByteArray) (hx : a.eval x = .string s) (hs : s.size ≤ maxLen)
    (hK : ∀ w', MapV w' b (n - cntO (f s)) (fun k => if k = s then none else f k) → w.mapTurned w' b → wpList Try.prog ops Q rest (a.put o.dst (.tuple #[])) w') : wpList Try.prog ops Q (o :: rest) a w := by
  obtain ⟨D, h1, h2⟩ := h
  refine wpList_delete_own w hg m x t 9 hop e str_key ht heldE b n D hm h1 (.string s) (keyS s) hx (WideMaps.keyOf_string_mk Try.underlying9 hs) ?_
  intro w' h3 h4
  have h5 : w'.ownsMap Try.prog 9 heldE b (n - cntO (f s)) (D.del (keyS s)) := by
    have e1 := Maps.size_del (k := keyS s) (h1.tidy str_key)
    have e2 := h1.size_le
    rw [(h2 s).1] at e1
    unfold cntO
    obtain ⟨es, cl, q1, q2, q3, q4⟩ := h3
    refine ⟨es, cl, q1, q2, ?_, q4⟩
    have e3 : es.size = Maps.size (D.del (keyS s)) := by rw [q4]; simp [Maps.size, length_sorted]
    omega
  refine hK w' ⟨_, h5, fun k => ?_⟩ h4
  by_cases hk : k = s
  · subst hk
    refine ⟨?_, fun u z hu => ?_⟩
    · rw [Maps.has_del_same]
      simp
    · simp at hu
  · have hne : keyS k ≠ keyS s := fun q => hk (keyS_inj q)
    rw [Maps.has_del_other hne]
    simp only [if_neg hk]
    refine ⟨(h2 k).1, fun u z hu => ?_⟩
    rw [Maps.atKey_del_other hne]
    exact (h2 k).2 u z hu
end

/-! ### Defs in memory -/
abbrev DG := ByteArray × List Gd
def dg0 : DG := (ByteArray.empty, [])
def dfL (d : DG) (A : Option Addr) (c : Nat) : List Value := [.string d.1, .slice A d.2.length c]
theorem dfL_info (d : DG) (A : Option Addr) (c : Nat) : (Try.prog.info? 35).map (·.size) = some (dfL d A c).length := by
  show _ = some 2
  kernel_rfl
theorem dfL_infoA (d : DG) (A : Option Addr) (c : Nat) : (Try.prog.info? 35).map (·.size) = some (dfL d A c).toArray.size := dfL_info d A c
theorem dfL_one (d : DG) (A : Option Addr) (c : Nat) : (dfL d A c).toArray.all (·.oneCell') = true := by simp [dfL, Value.oneCell']
abbrev zeroDC : Array Value := #[.string { data := #[] }, .slice none 0 0]
/-- A Def lies in block b from off on. -/
def DfC (w : World) (B b off : Nat) (d : DG) : Prop := ∃ A c, Nds w B A d.2 ∧ w.rangeAt b off (dfL d A c) ∧ d.2.length ≤ c
/-- The slice at A reads as the Defs ds. -/
def Dfs (w : World) (B : Nat) (A : Option Addr) (ds : List DG) : Prop :=
  ds ≠ [] → ∃ b off, A = some ⟨b, off, none⟩ ∧ b < B ∧ ∀ i, i < ds.length → DfC w B b (off + i * 2) (ds.getD i dg0)
section
variable {w w' : World} {B B' : Nat} {A : Option Addr} {ds : List DG}
theorem Dfs.keep (h : Dfs w B A ds) (hc : ∀ p : Addr, p.block < B → w'.cell? p = w.cell? p) : Dfs w' B A ds := fun hx => by
  obtain ⟨b, off, e, hb, ha⟩ := h hx
  refine ⟨b, off, e, hb, fun i hi => ?_⟩
  obtain ⟨A1, c1, h1, h2, h3⟩ := ha i hi
  exact ⟨A1, c1, h1.keep hc, fun j v hv => (hc _ hb).trans (h2 j v hv), h3⟩
theorem Dfs.below (h : Dfs w B A ds) (hb : Below B w w') : Dfs w' B A ds := h.keep fun _ hp => hb.cell hp
theorem Dfs.more (h : Dfs w B A ds) (hB : B ≤ B') : Dfs w B' A ds := fun hx => by
  obtain ⟨b, off, e, hb, ha⟩ := h hx
  exact ⟨b, off, e, by omega, fun i hi => by
    obtain ⟨A1, c1, h1, h2, h3⟩ := ha i hi
    exact ⟨A1, c1, h1.more hB, h2, h3⟩⟩
theorem Dfs.at_ (h : Dfs w B A ds) {k : Nat} (hk : k < ds.length) : ∃ b off, A = some ⟨b, off, none⟩ ∧ b < B ∧ DfC w B b (off + k * 2) (ds.getD k dg0) := by
  obtain ⟨b, off, e, hb, ha⟩ := h (fun e => by subst e; simp at hk)
  exact ⟨b, off, e, hb, ha k hk⟩
end
/-- How great Defs are at most. -/
structure DOk (ds : List DG) : Prop where
  len : ds.length ≤ 1000
  nm : ∀ d ∈ ds, d.1.size ≤ maxLen
  few : ∀ d ∈ ds, d.2.length ≤ 2000
  nds : ∀ d ∈ ds, ∀ g ∈ d.2, g.nm.size ≤ maxLen ∧ g.l.length ≤ maxLen
theorem getD_mem {ds : List DG} {k : Nat} (hk : k < ds.length) : ds.getD k dg0 ∈ ds := by
  rw [List.getD_eq_getElem?_getD, List.getElem?_eq_getElem hk]
  exact List.getElem_mem hk
/-- P6.1's Right. -/
def RightDs (ds : List DG) : Prop := (∀ d ∈ ds, nameB (bs d.1) = true ∧ RightG d.2) ∧ ds.Pairwise fun a b => a.1 ≠ b.1
theorem RightDs.take {ds : List DG} (h : RightDs ds) (k : Nat) : RightDs (ds.take k) :=
  ⟨fun d hd => h.1 d (List.mem_of_mem_take hd), h.2.sublist (List.take_sublist _ _)⟩
theorem take_snoc {ds : List DG} {k : Nat} (hk : k < ds.length) : ds.take (k + 1) = ds.take k ++ [ds.getD k dg0] := by
  rw [List.take_add_one, List.getElem?_eq_getElem hk, List.getD_eq_getElem?_getD, List.getElem?_eq_getElem hk]
  rfl
theorem RightDs.snoc {ds : List DG} {d : DG} (h : RightDs ds) (h1 : nameB (bs d.1) = true) (h2 : RightG d.2) (h3 : ∀ x ∈ ds, x.1 ≠ d.1) : RightDs (ds ++ [d]) := by
  refine ⟨fun x hx => ?_, List.pairwise_append.2 ⟨h.2, List.pairwise_singleton _ _, fun a ha b hb => ?_⟩⟩
  · rcases List.mem_append.1 hx with q | q
    · exact h.1 x q
    · obtain rfl := List.mem_singleton.1 q
      exact ⟨h1, h2⟩
  · obtain rfl := List.mem_singleton.1 hb
    exact h3 a ha
/-- A map of what these names stand for. -/
structure MapT (w : World) (b n B : Nat) (ds : List DG) (f : ByteArray → Option Value) : Prop where
  map : MapV w b n f
  none : ∀ s, f s = none ↔ ∀ d ∈ ds, d.1 ≠ s
  some : ∀ s v, f s = some v → ∃ d ∈ ds, d.1 = s ∧ ∃ A c, v = .slice A d.2.length c ∧ Nds w B A d.2 ∧ d.2.length ≤ c
theorem MapT.keep {w w' : World} {b n B : Nat} {ds : List DG} {f : ByteArray → Option Value} (h : MapT w b n B ds f) (hb : w'.heap[b]? = w.heap[b]?) (hc : ∀ p : Addr, p.block < B → w'.cell? p = w.cell? p) : MapT w' b n B ds f :=
  ⟨h.map.keep hb, h.none, fun s v hv => by
    obtain ⟨d, h1, h2, A, c, h3, h4, h5⟩ := h.some s v hv
    exact ⟨d, h1, h2, A, c, h3, h4.keep hc, h5⟩⟩
theorem mapT_new (w : World) (B : Nat) : MapT (w.alloc (.map #[] 0)) w.heap.size 0 B [] (fun _ => Option.none) :=
  ⟨mapV_new w, fun s => ⟨fun _ d hd => absurd hd List.not_mem_nil, fun _ => rfl⟩, fun s v h => by cases h⟩
theorem MapT.put {w w' : World} {b n B : Nat} {ds : List DG} {f : ByteArray → Option Value} {d : DG} {A : Option Addr} {c : Nat} (h : MapT w b n B ds f) (hm : MapV w' b (n + 1) (fun k => if k = d.1 then Option.some (.slice A d.2.length c) else f k)) (hc : ∀ p : Addr, p.block < B → w'.cell? p = w.cell? p) (hN : Nds w B A d.2) (hca : d.2.length ≤ c) : MapT w' b (n + 1) B (ds ++ [d]) (fun k => if k = d.1 then Option.some (.slice A d.2.length c) else f k) := by
  refine ⟨hm, fun s => ?_, fun s v hv => ?_⟩
  · by_cases hs : s = d.1
    · subst hs
      simp only [if_true]
      exact ⟨fun q => (by cases q), fun q => absurd rfl (q d (by simp))⟩
    · simp only [if_neg hs]
      rw [h.none]
      constructor
      · intro q x hx
        rcases List.mem_append.1 hx with r | r
        · exact q x r
        · obtain rfl := List.mem_singleton.1 r
          exact fun e => hs e.symm
      · exact fun q x hx => q x (List.mem_append_left _ hx)
  · by_cases hs : s = d.1
    · subst hs
      simp at hv
      exact ⟨d, by simp, rfl, A, c, hv.symm, hN.keep hc, hca⟩
    · simp only [if_neg hs] at hv
      obtain ⟨x, h1, h2, A1, c1, h3, h4, h5⟩ := h.some s v hv
      exact ⟨x, List.mem_append_left _ h1, h2, A1, c1, h3, h4.keep hc, h5⟩
theorem turned_below {w w' : World} {b B : Nat} (h : w.mapTurned w' b) (hB : B ≤ b) : Below B w w' :=
  have g := h.grown
  ⟨g.os, g.tape, g.output, g.size, fun k hk => by
    rcases Nat.lt_or_ge k w.heap.size with q | q
    · exact g.block k q (fun e => by cases e; omega)
    · obtain ⟨es, cl, es', cl', h1, rfl⟩ := h
      have : b < w.heap.size := (Array.getElem?_eq_some_iff.1 h1).1
      omega⟩
end Go.Proofs.Ytgppanbikfobbaa.Sy

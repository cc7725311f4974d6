/- The head of layer 5's laws: the document's example. -/
import Derived.Test.YtghjkbjpdjlddaaDoorDg
import Derived.Test.YtghjkbjpdjlddaaDoorHg
namespace Go.Proofs.YtghjkbjpdjlddaaDoor.Sy.Pn
open Go.RowKit
set_option maxRecDepth 100000
set_option linter.unusedVariables false

/-- Two nodes whose sets have the same bytes. -/
structure NE1 (n m : Nd) : Prop where
  op : n.op = m.op
  s : ∀ b, b < 256 → n.s b = m.s b
  l : n.l = m.l
  lo : n.lo = m.lo
  hi : n.hi = m.hi
  name : n.name = m.name
theorem map_inj_int {a b : List Nat} (h : (a.map fun k : Nat => (k : Int)) = b.map fun k : Nat => (k : Int)) : a = b := by
  have := congrArg (List.map Int.toNat) h
  rwa [map_id_back, map_id_back] at this
theorem ne_of {g : Gd} {n m : Nd} (h : GN1 g n) (h' : GN1 g m) : NE1 n m :=
  ⟨by have := h.op; rw [h'.op] at this; omega, fun b hb => (h.s b hb).symm.trans (h'.s b hb), map_inj_int (h.l.symm.trans h'.l), h.lo.symm.trans h'.lo, h.hi.symm.trans h'.hi, h.nm.symm.trans h'.nm⟩
def NE (ns ms : List Nd) : Prop := ns.length = ms.length ∧ ∀ i, NE1 (ns.getD i nd0) (ms.getD i nd0)
theorem NE1.refl (n : Nd) : NE1 n n := ⟨rfl, fun _ _ => rfl, rfl, rfl, rfl, rfl⟩
theorem nes_of {gs : List Gd} {ns ms : List Nd} (h : GN gs ns) (h' : GN gs ms) : NE ns ms := by
  refine ⟨h.1.symm.trans h'.1, fun i => ?_⟩
  by_cases hi : i < gs.length
  · exact ne_of (h.2 i hi) (h'.2 i hi)
  · have e1 : ns.getD i nd0 = nd0 := by rw [List.getD_eq_getElem?_getD, List.getElem?_eq_none (by rw [← h.1]; omega)]; rfl
    have e2 : ms.getD i nd0 = nd0 := by rw [List.getD_eq_getElem?_getD, List.getElem?_eq_none (by rw [← h'.1]; omega)]; rfl
    rw [e1, e2]
    exact NE1.refl _
theorem headT_congr {n m : Nd} (h : NE1 n m) {f g : Nat → List Nat} (hf : f = g) : headT f n = headT g m := by
  subst hf
  unfold headT
  rw [h.op, h.l, h.lo, h.hi, h.name, setT_congr h.s]
theorem nodeT_congr {ns ms : List Nd} (h : NE ns ms) : ∀ (f : Nat) (n m : Nd), NE1 n m → nodeT ns f n = nodeT ms f m
  | 0, _, _, _ => rfl
  | f + 1, n, m, hn => by
    rw [nodeT_succ, nodeT_succ]
    refine headT_congr hn ?_
    funext i
    unfold kidT
    have h1 := h.2 (m.l.getD i 0)
    rw [hn.l, hn.op, h1.op, nodeT_congr h f _ _ h1]
theorem treeT_congr {ns ms : List Nd} (h : NE ns ms) : treeT ns = treeT ms := by
  unfold treeT
  rw [h.1]
  exact nodeT_congr h _ _ _ (h.2 _)
theorem setT_one : ∀ c, c < 256 → setT (oneS c) = byteT c := by decide +kernel
theorem rn_lens {gs : List Gd} {ns : List Nd} (h : RN gs ns) : ∀ g ∈ gs, g.nm.size ≤ maxLen ∧ g.l.length ≤ maxLen := fun g hg => by
  obtain ⟨i, hi, rfl⟩ := List.getElem_of_mem hg
  have hl := h.gn.1
  have e1 : gs[i] = gs.getD i gd0 := by rw [List.getD_eq_getElem?_getD, List.getElem?_eq_getElem hi]; rfl
  have hg := h.gn.2 i hi
  have hs := shape_name (shp_at h.shp (i := i) (by omega))
  obtain ⟨n, e, hn, hF⟩ := forest_kids h.tree i (Nat.zero_le _) (by omega)
  have := forest_len hF
  rw [e1]
  unfold maxLen
  refine ⟨?_, ?_⟩
  · rw [← bs_len, hg.nm]; omega
  · rw [hg.l, List.length_map, getD_of hn]
    have := h.len
    omega
/-- What Parse tells is a tree. -/
theorem rn_parse {s : ByteArray} {ns : List Nd} {gs : List Gd} (hp : parse (bs s) = .ok ns) (hg : GN gs ns) : RN gs ns := by
  obtain ⟨h1, h2, h3, h4, h5⟩ := parse_tree (bs_lt s) hp
  exact ⟨hg, h1, h2, h3, h4⟩
/-- Tree of a tree. -/
theorem tree_rn (A : Option Addr) (c : Nat) (gs : List Gd) (ns : List Nd) (w : World) (hx : Nds w w.heap.size A gs) (h : RN gs ns) (hT : TV w) :
    Calls Tryd.prog 10 #[.slice A gs.length c] w fun e w' => e = .returned (.tuple #[.string (txt (treeT ns)), .bool true]) ∧ Below w.heap.size w w' := by
  refine (tree_any A c gs w hx (by have := h.gn.1; have := h.len; omega) (rn_lens h) hT).mono ?_
  rintro e w' ⟨⟨ms, hm, rfl⟩ | ⟨hn, _⟩, hb⟩
  · exact ⟨by rw [treeT_congr (nes_of hm.gn h.gn)], hb⟩
  · exact absurd h.right hn
abbrev exA : ByteArray := { data := #[40, 97, 124, 41, 98, 123, 50, 44, 50, 125] }
abbrev exN : List Nd := [ndBytes (oneS 97), ndEmpty, ndAlt [0, 1], ndBytes (oneS 98), ndRep 3 2 2, ndCat [2, 4]]
theorem ex_parse : parse (bs exA) = .ok exN := rfl
theorem ex_smp : Rf.Smp exA := by
  have hb : bs exA = [40, 97, 124, 41, 98, 123, 50, 44, 50, 125] := rfl
  refine ⟨fun i hi => ?_, fun i hi h => ?_, fun i h => ?_, by decide⟩
  · have : ∀ i, i < 10 → specialB (at_ (bs exA) i) = false ∨ at_ (bs exA) i = 40 ∨ at_ (bs exA) i = 41 ∨ at_ (bs exA) i = 124 ∨ at_ (bs exA) i = 42 ∨ at_ (bs exA) i = 43 ∨ at_ (bs exA) i = 63 ∨ at_ (bs exA) i = 123 ∨ at_ (bs exA) i = 125 := by decide
    exact this i hi
  · have : ∀ i, i < 10 → at_ (bs exA) i = 123 → dig (bs exA) (i + 1) = true := by decide
    exact this i hi h
  · have : ∀ i, i < 10 → dig (bs exA) i = true → dig (bs exA) (i + 1) = false := by decide
    exact this i (Rf.dig_at h).1 h
theorem ex_text : treeT exN = [40, 97, 124, 41, 98, 123, 50, 125] := by
  have h1 := setT_one 97 (by omega)
  have h2 := setT_one 98 (by omega)
  have e1 : byteT 97 = [97] := rfl
  have e2 : byteT 98 = [98] := rfl
  have d2 : digs 2 = [50] := digs_small (by omega)
  simp [treeT, exN, nodeT, headT, kidsT, wrapT, encB, timesT, ndBytes, ndEmpty, ndAlt, ndRep, ndCat, List.range_succ, h1, h2, e1, e2, d2]
set_option maxHeartbeats 1000000 in
theorem shown5_any (w : World) (hT : TV w) : Calls Tryd.prog 12 #[] w fun e w' => e = .returned (.bool true) ∧ Below w.heap.size w w' := by
  have hpa := Rf.refparse_any exA ex_smp exN ex_parse w
  have HE : Hid (txt (treeT exN) = { data := #[40, 97, 124, 41, 98, 123, 50, 125] }) := by show _ = _; rw [ex_text]; rfl
  go_enter Tryd.func12, Tryd.ntmps12
  go_wp2_with fail
  refine hpa.mono ?_
  rintro e w1 ⟨A, c, gs, rfl, hN, hG, b1⟩
  have hT1 := hT.below b1
  have htr := tree_rn A c gs exN w1 hN (rn_parse ex_parse hG) hT1
  rw [HE.out] at htr
  have HB1 := hidd b1
  clear hpa hN hG b1 hT1
  go_wp2_with fail
  refine htr.mono ?_
  rintro e w2 ⟨rfl, b2⟩
  have HB2 := hidd (HB1.out.trans (b2.mono HB1.out.size))
  clear htr b2
  go_wp2
  go_ret
  exact ⟨rfl, HB2.out⟩
end Go.Proofs.YtghjkbjpdjlddaaDoor.Sy.Pn

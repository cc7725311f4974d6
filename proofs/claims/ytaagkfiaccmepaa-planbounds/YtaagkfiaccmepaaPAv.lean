/- Bounds above most that are others: plain. -/
import Derived.Test.YtaagkfiaccmepaaPId
import Derived.Test.YtaagkfiaccmepaaPJr
import Derived.Test.YtaagkfiaccmepaaPJo
namespace Go.Proofs.Ytaagkfiaccmepaa.Sy.Pl
open Go.RowKit Go.Proofs.Ytaagkfiaccmepaa.Sy.Ap Go.Proofs.Ytaagkfiaccmepaa.Sy.Lg
set_option maxRecDepth 100000
set_option linter.unusedVariables false

/-- A node with another bound. -/
def withHi (n : Nd) (h : Int) : Nd := ⟨n.op, n.s, n.l, n.lo, h, n.name⟩
def upB (ns : List Nd) (m : Nat) (n : Nd) : Bool := n.op == 5 && (ns.getD (n.l.getD 0 0) nd00).op == 2 && decide ((m : Int) < n.hi)
def upN (ns : List Nd) (m b : Nat) (n : Nd) : Nd := if upB ns m n then withHi n (min (n.hi + b) 4096) else n
/-- The first k nodes, their bounds above m greater. -/
def yN (ns : List Nd) (m : Nat) (by_ : Nat → Nat) (k : Nat) : List Nd := (List.range k).map fun i => upN ns m (by_ i) (ns.getD i nd0)
section
variable {ns : List Nd} {m : Nat} {by_ : Nat → Nat}
theorem yN_succ (k : Nat) : yN ns m by_ (k + 1) = yN ns m by_ k ++ [upN ns m (by_ k) (ns.getD k nd0)] := by
  unfold yN
  rw [List.range_succ, List.map_append, List.map_cons, List.map_nil]
theorem yN_len (k : Nat) : (yN ns m by_ k).length = k := by unfold yN; rw [List.length_map, List.length_range]
theorem yN_at {i : Nat} {n n2 : Nd} (h : ns[i]? = some n) (h2 : (yN ns m by_ ns.length)[i]? = some n2) : n2 = upN ns m (by_ i) n := by
  have hi : i < ns.length := (List.getElem?_eq_some_iff.1 h).1
  unfold yN at h2
  rw [List.getElem?_map, List.getElem?_range hi] at h2
  have e : ns.getD i nd0 = n := by rw [List.getD_eq_getElem?_getD, h]; rfl
  rw [← e]
  exact (Option.some.inj h2).symm
theorem upN_same (b : Nat) (n : Nd) : (upN ns m b n).op = n.op ∧ (upN ns m b n).s = n.s ∧ (upN ns m b n).l = n.l ∧ (upN ns m b n).lo = n.lo ∧ (upN ns m b n).name = n.name := by
  unfold upN
  split <;> exact ⟨rfl, rfl, rfl, rfl, rfl⟩
theorem up_iff {n : Nd} : upB ns m n = true ↔ n.op = 5 ∧ (ns.getD (n.l.getD 0 0) nd00).op = 2 ∧ (m : Int) < n.hi := by
  unfold upB
  simp only [Bool.and_eq_true, beq_iff_eq, decide_eq_true_eq, and_assoc]
theorem upN_hi (b : Nat) {n : Nd} (h4 : n.op = 5 → n.hi ≤ 4096) : (upN ns m b n).hi = n.hi ∨ (n.op = 5 ∧ (m : Int) < n.hi ∧ n.hi ≤ (upN ns m b n).hi ∧ (upN ns m b n).hi ≤ 4096 ∧ (ns.getD (n.l.getD 0 0) nd00).op = 2) := by
  unfold upN
  split
  · rename_i h
    obtain ⟨h1, h2, h3⟩ := up_iff.1 h
    refine .inr ⟨h1, h3, ?_, ?_, h2⟩
    · show n.hi ≤ min (n.hi + b) 4096
      have := h4 h1
      omega
    · show min (n.hi + b) 4096 ≤ 4096
      omega
  · exact .inl rfl
theorem forest_as {ms : List Nd} (h : ∀ (i : Nat) (n : Nd), ns[i]? = some n → ∃ n2, ms[i]? = some n2 ∧ n2.l = n.l) {a b : Nat} {ks : List Nat} (f : Forest ns a b ks) : Forest ms a b ks := by
  induction f with
  | nil a => exact Forest.nil a
  | @snoc a b c ks n h1 hn h2 i1 i2 =>
    obtain ⟨n2, e1, e2⟩ := h _ _ hn
    exact Forest.snoc i1 e1 (by rw [e2]; exact i2)
theorem y_tree (ht : TreeN ns) (hp : PlainN ns) (hm : 1 ≤ m) : TreeN (yN ns m by_ ns.length) ∧ PlainN (yN ns m by_ ns.length) ∧ SimT m ns (yN ns m by_ ns.length) := by
  have hb : ∀ n ∈ ns, n.op = 5 → n.hi ≤ 4096 := fun n hn h5 => by
    obtain ⟨-, -, -, h⟩ := rep_one (ht.shp n hn) h5
    rcases h with h | h
    · omega
    · exact h.2.1
  have hmem : ∀ n2 ∈ yN ns m by_ ns.length, ∃ i n, ns[i]? = some n ∧ n ∈ ns ∧ n2 = upN ns m (by_ i) n := fun n2 hn2 => by
    unfold yN at hn2
    obtain ⟨i, hi, rfl⟩ := List.mem_map.1 hn2
    have hi := List.mem_range.1 hi
    have e : ns.getD i nd0 = ns[i] := by rw [List.getD_eq_getElem?_getD, List.getElem?_eq_getElem hi]; rfl
    exact ⟨i, ns[i], List.getElem?_eq_getElem hi, List.getElem_mem hi, by rw [e]⟩
  refine ⟨⟨fun n2 hn2 => ?_, by rw [yN_len]; exact ht.pos, by rw [yN_len]; exact ht.few, ?_⟩, fun n2 hn2 => ?_, ⟨⟨by rw [yN_len], fun i n n2 h1 h2 => ?_⟩, fun n n2 hn h5 i h1 h2 hne => ?_⟩⟩
  · obtain ⟨i, n, h1, h2, rfl⟩ := hmem n2 hn2
    have hs := ht.shp n h2
    unfold upN
    split
    · rename_i hu
      obtain ⟨h5, -, h3⟩ := up_iff.1 hu
      obtain ⟨q1, q2, q3, q4⟩ := rep_one hs h5
      unfold shapeB at hs ⊢
      rw [if_neg (by omega), if_neg (by omega), if_neg (by omega), if_pos h5] at hs
      have h5' : (withHi n (min (n.hi + (by_ i : Nat)) 4096)).op = 5 := h5
      rw [if_neg (by omega), if_neg (by omega), if_neg (by omega), if_pos h5']
      simp only [Bool.and_eq_true, Bool.or_eq_true, decide_eq_true_eq, beq_iff_eq] at hs ⊢
      refine ⟨hs.1, .inr ?_⟩
      show (1 ≤ min (n.hi + (by_ i : Nat)) 4096 ∧ min (n.hi + (by_ i : Nat)) 4096 ≤ 4096) ∧ n.lo ≤ min (n.hi + (by_ i : Nat)) 4096
      have := hb n h2 h5
      have := q4.resolve_left (by omega)
      omega
    · exact hs
  · rw [yN_len]
    refine forest_as (fun i n hn => ?_) ht.frs
    have hi : i < ns.length := (List.getElem?_eq_some_iff.1 hn).1
    obtain ⟨n9, e⟩ : ∃ n9, (yN ns m by_ ns.length)[i]? = some n9 := ⟨_, List.getElem?_eq_getElem (by rw [yN_len]; exact hi)⟩
    refine ⟨n9, e, ?_⟩
    rw [yN_at hn e]
    exact (upN_same _ n).2.2.1
  · obtain ⟨i, n, h1, h2, rfl⟩ := hmem n2 hn2
    rw [(upN_same _ n).1]
    exact hp n h2
  · have hn : n ∈ ns := List.mem_of_getElem? h1
    rw [yN_at h1 h2]
    obtain ⟨e1, e2, e3, e4, e5⟩ := upN_same (ns := ns) (m := m) (by_ i) n
    refine ⟨e1, e2, e3, e4, e5, ?_⟩
    rcases upN_hi (ns := ns) (m := m) (by_ i) (hb n hn) with q | q
    · exact .inl q
    · exact .inr ⟨q.1, q.2.1, q.2.2.1⟩
  · rw [yN_at h1 h2] at hne
    rcases upN_hi (ns := ns) (m := m) (by_ i) (hb n hn) with q | q
    · exact absurd q hne
    · exact q.2.2.2.2
/-- Two plans that differ in bounds above m alone count as many. -/
theorem sim_cnt {o p : List Nd} (h : Sim m o p) (hm : 1 ≤ m) : ctN o = ctN p := by
  unfold ctN
  rw [h.len]
  refine List.countP_congr fun i hi => ?_
  have hi := List.mem_range.1 hi
  have hi2 : i < p.length := by rw [h.len]; exact hi
  have hs := h.at_ i o[i] p[i] (List.getElem?_eq_getElem hi) (List.getElem?_eq_getElem hi2)
  have e1 : o.getD i nd0 = o[i] := by rw [List.getD_eq_getElem?_getD, List.getElem?_eq_getElem hi]; rfl
  have e2 : p.getD i nd0 = p[i] := by rw [List.getD_eq_getElem?_getD, List.getElem?_eq_getElem hi2]; rfl
  rw [e1, e2]
  have hk : (o.getD (o[i].l.getD 0 0) nd00).op = (p.getD (o[i].l.getD 0 0) nd00).op := by
    generalize o[i].l.getD 0 0 = j
    rcases Nat.lt_or_ge j o.length with r | r
    · have r2 : j < p.length := by rw [h.len]; exact r
      have := (h.at_ j o[j] p[j] (List.getElem?_eq_getElem r) (List.getElem?_eq_getElem r2)).op
      rw [List.getD_eq_getElem?_getD, List.getElem?_eq_getElem r, List.getD_eq_getElem?_getD, List.getElem?_eq_getElem r2]
      exact this.symm
    · rw [List.getD_eq_getElem?_getD, List.getElem?_eq_none r, List.getD_eq_getElem?_getD, List.getElem?_eq_none (by rw [h.len]; exact r)]
  have hd : decide (2 ≤ o[i].hi) = decide (2 ≤ p[i].hi) := by
    rcases hs.hi with q | q
    · rw [q]
    · rw [decide_eq_true (by omega), decide_eq_true (by omega)]
  have he : ctB o o[i] = ctB p p[i] := by
    unfold ctB
    rw [hs.op, hs.l, hs.lo, hk, hd]
  rw [he]
end
end Go.Proofs.Ytaagkfiaccmepaa.Sy.Pl

namespace Go.Proofs.Ytaagkfiaccmepaa.Sy.Pl
open Go.RowKit Go.Proofs.Ytaagkfiaccmepaa.Sy.Ap Go.Proofs.Ytaagkfiaccmepaa.Sy.Lg
set_option maxRecDepth 100000
set_option linter.unusedVariables false

/-- The slice at A reads as numbers of 16 bits. -/
def U16s (w : World) (B : Nat) (A : Option Addr) (xs : List Int) : Prop :=
  (∀ x ∈ xs, 0 ≤ x) ∧ (xs ≠ [] → ∃ g off, A = some ⟨g, off, none⟩ ∧ g < B ∧ ∀ i, i < xs.length → w.cell? ⟨g, off + i, none⟩ = some (.int .u16 (xs.getD i 0)))
/-- By how much the bound of node i is made greater. -/
def byF (xs : List Int) (i : Nat) : Nat := if i < xs.length then (Int.tmod (xs.getD i 0) 2049).toNat else 0
/-- The other tree's first k nodes, as memory has them. -/
structure YS (w : World) (gs : List Gd) (ns : List Nd) (m : Nat) (xs : List Int) (k : Nat) (v : Value) (u : World) : Prop where
  bel : Below w.heap.size w u
  rows : ∃ l : List NR, l.length = k ∧ u.ownsRow w.heap.size 39 9 v k (nodesC l) ∧ GN (l.map (·.1)) (yN ns m (byF xs) k) ∧ ∀ x ∈ l, Its u w.heap.size x.2.1 x.1.l
theorem YS.start (w : World) (gs : List Gd) (ns : List Nd) (m : Nat) (xs : List Int) : YS w gs ns m xs 0 (.slice none 0 0) w :=
  ⟨Below.refl _ _, [], rfl, World.ownsRow_nil _ _ _ _, ⟨rfl, fun i hi => absurd hi (Nat.not_lt_zero _)⟩, fun x hx => absurd hx List.not_mem_nil⟩
/-- A node with another bound, as memory has it. -/
def hiG (g : Gd) (h : Int) : Gd := ⟨g.op, g.s, g.l, g.lo, h, g.nm⟩
theorem YS.next {w : World} {gs : List Gd} {ns : List Nd} {m : Nat} {xs : List Int} {k : Nat} {v v' : Value} {wr u u' : World} (hbel : Below w.heap.size w wr) {l : List NR} (hl : l.length = k) (hown : wr.ownsRow w.heap.size 39 9 v k (nodesC l)) (hgn : GN (l.map (·.1)) (yN ns m (byF xs) k)) (hk : ∀ x ∈ l, Its wr w.heap.size x.2.1 x.1.l) (hb : Below wr.heap.size wr u) {g : Gd} {A : Option Addr} {c : Nat} (hg : GN1 g (upN ns m (byF xs k) (ns.getD k nd0))) (hI : Its wr w.heap.size A g.l)
    (hgr : u.grownBy u' v.ownBlock) (ho : u'.ownsRow w.heap.size 39 9 v' (k + 1) (nodesC l ++ gdL g A c)) : YS w gs ns m xs (k + 1) v' u' := by
  have ho1 := own_below hown hb (Nat.le_refl _)
  have b1 : Below w.heap.size w u := hbel.trans (hb.mono hbel.size)
  have b2 : Below w.heap.size u u' := bel_row (Below.refl _ _) b1.size hgr (fun q hq => (ho1.lt q hq).1)
  refine ⟨b1.trans b2, l ++ [(g, A, c)], by rw [List.length_append, hl]; rfl, ?_, ?_, fun x hx => ?_⟩
  · rw [nodesC_snoc l (g, A, c)] at ho
    exact ho
  · rw [List.map_append, yN_succ]
    exact gn_snoc hgn hg
  · rcases List.mem_append.1 hx with q | q
    · exact (((hk x q).below (hb.mono hbel.size))).below b2
    · rw [List.mem_singleton] at q
      subst q
      exact (hI.below (hb.mono hbel.size)).below b2
theorem YS.size {w : World} {gs : List Gd} {ns : List Nd} {m : Nat} {xs : List Int} {k : Nat} {v : Value} {u : World} (h : YS w gs ns m xs k v u) : w.heap.size ≤ u.heap.size := h.bel.size
theorem YS.form {w : World} {gs : List Gd} {ns : List Nd} {m : Nat} {xs : List Int} {k : Nat} {v : Value} {u : World} (h : YS w gs ns m xs k v u) : ∃ A c, v = .slice A k c := by
  obtain ⟨l, -, h2, -⟩ := h.rows
  exact own_form h2
theorem YS.nds {w : World} {gs : List Gd} {ns : List Nd} {m : Nat} {xs : List Int} {k : Nat} {v : Value} {u : World} (h : YS w gs ns m xs k v u) : ∃ A c gy, v = .slice A k c ∧ gy.length = k ∧ Nds u u.heap.size A gy ∧ GN gy (yN ns m (byF xs) k) := by
  obtain ⟨l, h1, h2, h3, h4⟩ := h.rows
  subst h1
  obtain ⟨A, c, e, hN, -⟩ := own_nds h2 (fun x hx => (h4 x hx).more h.bel.size)
  exact ⟨A, c, l.map (·.1), e, List.length_map .., hN, h3⟩
theorem upN_no {ns : List Nd} {m b : Nat} {n : Nd} (h : ¬ (n.op = 5 ∧ (ns.getD (n.l.getD 0 0) nd00).op = 2 ∧ (m : Int) < n.hi)) : upN ns m b n = n := by
  unfold upN
  rw [if_neg (fun q => h (up_iff.1 q))]
theorem upN_yes {ns : List Nd} {m b : Nat} {n : Nd} (h : n.op = 5 ∧ (ns.getD (n.l.getD 0 0) nd00).op = 2 ∧ (m : Int) < n.hi) : upN ns m b n = withHi n (min (n.hi + b) 4096) := by
  unfold upN
  rw [if_pos (up_iff.2 h)]
end Go.Proofs.Ytaagkfiaccmepaa.Sy.Pl

namespace Go.Proofs.Ytaagkfiaccmepaa.Sy.Ap
open Go.RowKit
set_option maxRecDepth 100000
set_option linter.unusedVariables false

abbrev bA : ByteArray := { data := #[98] }
section
variable {P : Program} {ops : Array Oper} {rest : List Oper} {o : Oper} {a : Act} {w : World} {Q : Exit → Act → World → Prop}
end
end Go.Proofs.Ytaagkfiaccmepaa.Sy.Ap

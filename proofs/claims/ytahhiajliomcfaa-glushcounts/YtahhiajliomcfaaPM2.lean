/- M2: what were Na Nb Nc Nd Ne Nf Ng Ni Nj. -/
import Derived.Test.YtahhiajliomcfaaPM1
import Derived.Test.YtahhiajliomcfaaPVv
import Derived.Deep.MidRow
import Derived.Deep.DeepCutAuto
import Derived.Deep.QuietTactic
import Derived.BigQuiet

/- Nodes in memory; the reference's Same. -/
namespace Go.Proofs.Ytahhiajliomcfaa.Sy
open Go.RowKit

/-- A string's bytes. -/
def bs (b : ByteArray) : List Nat := b.data.toList.map (·.toNat)
/-- A node as memory has it: any numbers, any bytes. -/
structure Gd where
  op : Int
  s : Nat → Bool
  l : List Int
  lo : Int
  hi : Int
  nm : ByteArray
def gd0 : Gd := ⟨0, noB, [], 0, 0, ByteArray.empty⟩
def gdL (g : Gd) (A : Option Addr) (c : Nat) : List Value :=
  [.int .u8 g.op, .int .u64 (W g.s 0), .int .u64 (W g.s 1), .int .u64 (W g.s 2), .int .u64 (W g.s 3), .slice A g.l.length c, .int .i64 g.lo, .int .i64 g.hi, .string g.nm]
theorem gdL_info (g : Gd) (A : Option Addr) (c : Nat) : (Try.prog.info? 42).map (·.size) = some (gdL g A c).length := by
  show _ = some 9
  kernel_rfl
theorem gdL_infoA (g : Gd) (A : Option Addr) (c : Nat) : (Try.prog.info? 42).map (·.size) = some (gdL g A c).toArray.size := gdL_info g A c
theorem gdL_one (g : Gd) (A : Option Addr) (c : Nat) : (gdL g A c).toArray.all (·.oneCell') = true := by simp [gdL, Value.oneCell']

/-- The slice at A reads as the numbers xs. -/
def Its (w : World) (B : Nat) (A : Option Addr) (xs : List Int) : Prop :=
  xs ≠ [] → ∃ g off, A = some ⟨g, off, none⟩ ∧ g < B ∧ ∀ i, i < xs.length → w.cell? ⟨g, off + i, none⟩ = some (.int .i64 (xs.getD i 0))
/-- A node lies in block b from off on. -/
def NdC (w : World) (B b off : Nat) (g : Gd) : Prop := ∃ A c, Its w B A g.l ∧ w.rangeAt b off (gdL g A c)
/-- The slice at A reads as the nodes gs. -/
def Nds (w : World) (B : Nat) (A : Option Addr) (gs : List Gd) : Prop :=
  gs ≠ [] → ∃ b off, A = some ⟨b, off, none⟩ ∧ b < B ∧ ∀ i, i < gs.length → NdC w B b (off + i * 9) (gs.getD i gd0)
section
variable {w w' : World} {B B' : Nat} {A : Option Addr} {xs : List Int} {gs : List Gd}
theorem Its.keep (h : Its w B A xs) (hc : ∀ p : Addr, p.block < B → w'.cell? p = w.cell? p) : Its w' B A xs := fun hx => by
  obtain ⟨g, off, e, hg, ha⟩ := h hx
  exact ⟨g, off, e, hg, fun i hi => (hc _ hg).trans (ha i hi)⟩
theorem Its.more (h : Its w B A xs) (hB : B ≤ B') : Its w B' A xs := fun hx => by
  obtain ⟨g, off, e, hg, ha⟩ := h hx
  exact ⟨g, off, e, by omega, ha⟩
theorem Its.at_ (h : Its w B A xs) {k : Nat} (hk : k < xs.length) : ∃ g off, A = some ⟨g, off, none⟩ ∧ g < B ∧ w.cell? ⟨g, off + k, none⟩ = some (.int .i64 (xs.getD k 0)) := by
  obtain ⟨g, off, e, hg, ha⟩ := h (fun e => by subst e; simp at hk)
  exact ⟨g, off, e, hg, ha k hk⟩
theorem NdC.keep {b off : Nat} {g : Gd} (h : NdC w B b off g) (hb : b < B) (hc : ∀ p : Addr, p.block < B → w'.cell? p = w.cell? p) : NdC w' B b off g := by
  obtain ⟨A, c, h1, h2⟩ := h
  exact ⟨A, c, h1.keep hc, fun j v hv => (hc _ hb).trans (h2 j v hv)⟩
theorem Nds.keep (h : Nds w B A gs) (hc : ∀ p : Addr, p.block < B → w'.cell? p = w.cell? p) : Nds w' B A gs := fun hx => by
  obtain ⟨b, off, e, hb, ha⟩ := h hx
  exact ⟨b, off, e, hb, fun i hi => (ha i hi).keep hb hc⟩
theorem Nds.below (h : Nds w B A gs) (hb : Below B w w') : Nds w' B A gs := h.keep fun _ hp => hb.cell hp
theorem Nds.more (h : Nds w B A gs) (hB : B ≤ B') : Nds w B' A gs := fun hx => by
  obtain ⟨b, off, e, hb, ha⟩ := h hx
  exact ⟨b, off, e, by omega, fun i hi => by
    obtain ⟨A, c, h1, h2⟩ := ha i hi
    exact ⟨A, c, h1.more hB, h2⟩⟩
theorem Nds.at_ (h : Nds w B A gs) {k : Nat} (hk : k < gs.length) : ∃ b off, A = some ⟨b, off, none⟩ ∧ b < B ∧ NdC w B b (off + k * 9) (gs.getD k gd0) := by
  obtain ⟨b, off, e, hb, ha⟩ := h (fun e => by subst e; simp at hk)
  exact ⟨b, off, e, hb, ha k hk⟩
end

/-- The cells of a node in a block of its own. -/
theorem node_cells {w : World} {b : Nat} {g : Gd} {A : Option Addr} {c : Nat} (r : RowA w b 42 (gdL g A c).toArray) :
    w.cell? ⟨b, 0, none⟩ = some (.int .u8 g.op) ∧ w.cell? ⟨b, 1, none⟩ = some (.int .u64 (W g.s 0)) ∧ w.cell? ⟨b, 2, none⟩ = some (.int .u64 (W g.s 1)) ∧ w.cell? ⟨b, 3, none⟩ = some (.int .u64 (W g.s 2)) ∧ w.cell? ⟨b, 4, none⟩ = some (.int .u64 (W g.s 3)) ∧
    w.cell? ⟨b, 5, none⟩ = some (.slice A g.l.length c) ∧ w.cell? ⟨b, 6, none⟩ = some (.int .i64 g.lo) ∧ w.cell? ⟨b, 7, none⟩ = some (.int .i64 g.hi) ∧ w.cell? ⟨b, 8, none⟩ = some (.string g.nm) :=
  ⟨r.at_ rfl, r.at_ rfl, r.at_ rfl, r.at_ rfl, r.at_ rfl, r.at_ rfl, r.at_ rfl, r.at_ rfl, r.at_ rfl⟩
abbrev zeroC : Array Value := #[.int .u8 0, .int .u64 0, .int .u64 0, .int .u64 0, .int .u64 0, .slice none 0 0, .int .i64 0, .int .i64 0, .string { data := #[] }]

end Go.Proofs.Ytahhiajliomcfaa.Sy

/- What Parse owes (ParseC); the document's examples by it. -/
namespace Go.Proofs.Ytahhiajliomcfaa.Sy
open Go.RowKit

theorem bs_inj {a b : ByteArray} (h : bs a = bs b) : a = b := by
  unfold bs at h
  have h2 : a.data.toList = b.data.toList := by
    have : ∀ (l m : List UInt8), l.map (·.toNat) = m.map (·.toNat) → l = m := by
      intro l
      induction l with
      | nil => intro m hm; cases m with | nil => rfl | cons _ _ => simp at hm
      | cons x r ih =>
        intro m hm
        cases m with
        | nil => simp at hm
        | cons y t =>
          simp only [List.map_cons, List.cons.injEq] at hm
          rw [UInt8.toNat_inj.1 hm.1, ih t hm.2]
    exact this _ _ h
  cases a; cases b
  congr
  exact Array.toList_inj.1 h2

/-- The node n as memory has it. -/
structure GN1 (g : Gd) (n : Nd) : Prop where
  op : g.op = n.op
  s : ∀ b, b < 256 → g.s b = n.s b
  l : g.l = n.l.map fun k : Nat => (k : Int)
  lo : g.lo = n.lo
  hi : g.hi = n.hi
  nm : bs g.nm = n.name
def nd0 : Nd := ⟨0, noS, [], 0, 0, []⟩
def GN (gs : List Gd) (ns : List Nd) : Prop := gs.length = ns.length ∧ ∀ i, i < gs.length → GN1 (gs.getD i gd0) (ns.getD i nd0)
/-- Nodes in a new row. -/
def nodesC (l : List (Gd × Option Addr × Nat)) : List Value := l.flatMap fun x => gdL x.1 x.2.1 x.2.2
theorem gdL_len (g : Gd) (A : Option Addr) (c : Nat) : (gdL g A c).length = 9 := rfl
theorem nodesC_at : ∀ (l : List (Gd × Option Addr × Nat)) (i j : Nat) (x : Gd × Option Addr × Nat), l[i]? = some x → j < 9 → (nodesC l)[i * 9 + j]? = (gdL x.1 x.2.1 x.2.2)[j]?
  | [], _, _, _, h, _ => by simp at h
  | y :: r, 0, j, x, h, hj => by
    simp at h
    subst h
    unfold nodesC
    rw [List.flatMap_cons, Nat.zero_mul, Nat.zero_add, List.getElem?_append_left (by rw [gdL_len]; exact hj)]
  | y :: r, i + 1, j, x, h, hj => by
    have := nodesC_at r i j x (by simpa using h) hj
    unfold nodesC at this ⊢
    rw [List.flatMap_cons, List.getElem?_append_right (by rw [gdL_len]; omega), gdL_len, show (i + 1) * 9 + j - 9 = i * 9 + j from by omega]
    exact this
theorem Its.below {w w' : World} {B : Nat} {A : Option Addr} {xs : List Int} (h : Its w B A xs) (hb : Below B w w') : Its w' B A xs := h.keep fun _ hp => hb.cell hp

theorem ret_node {fn : Func} {R : Ending → World → Prop} {a : Act} {w : World} {t b : Nat} {g : Gd} {A : Option Addr} {c : Nat} (hr : fn.results = #[.cell t 42]) (ht : a.tmps.getD t undef = .pointer (some ⟨b, 0, none⟩))
    (h : RowA w b 42 (gdL g A c).toArray) (hd : a.defers = []) (hR : R (.returned (.agg (gdL g A c).toArray)) w) : bodyPost Try.prog fn R .ret a w :=
  bodyPost_ret (v := .agg (gdL g A c).toArray) (results_cell_row hr a.tmps w b 42 (gdL g A c).toArray (0, 0) _ ht h Try.underlying42 rfl (gdL_infoA g A c)) hd hR
def oneG (c : Nat) : Gd := ⟨2, oneS c, [], 0, 0, ⟨#[]⟩⟩
theorem one_words (c : Int) (i : Nat) : W (inB [c]) i = W (oneS c.toNat) i := by
  congr 1
  funext x
  simp [inB, oneS]
theorem bts_one (w : World) (c : Int) (h0 : 0 ≤ c) (h1 : c ≤ 255) : Bts (w.alloc (.cells #[.int .u8 c] 5)) (w.alloc (.cells #[.int .u8 c] 5)).heap.size (some ⟨w.heap.size, 0, none⟩) [c] := by
  refine ⟨by simp; omega, fun _ => ⟨_, 0, rfl, by simp, fun i hi => ?_⟩⟩
  have : i = 0 := by simp at hi; omega
  subst this
  rw [World.cell?_alloc_new]
  rfl

def catG (op : Int) (l : List Int) : Gd := ⟨op, noB, l, 0, 0, ⟨#[]⟩⟩
def repG (k : Int) (lo hi : Int) : Gd := ⟨5, noB, [k], lo, hi, ⟨#[]⟩⟩
theorem gn_one (c : Nat) : GN1 (oneG c) (ndBytes (oneS c)) := ⟨rfl, fun _ _ => rfl, rfl, rfl, rfl, rfl⟩
theorem gn_cat (l : List Nat) : GN1 (catG 3 (l.map fun k : Nat => (k : Int))) (ndCat l) := ⟨rfl, fun _ _ => rfl, rfl, rfl, rfl, rfl⟩
theorem gn_alt (l : List Nat) : GN1 (catG 4 (l.map fun k : Nat => (k : Int))) (ndAlt l) := ⟨rfl, fun _ _ => rfl, rfl, rfl, rfl, rfl⟩
theorem gn_rep (k : Nat) (lo hi : Int) : GN1 (repG k lo hi) (ndRep k lo hi) := ⟨rfl, fun _ _ => rfl, rfl, rfl, rfl, rfl⟩

end Go.Proofs.Ytahhiajliomcfaa.Sy

/- The document's examples by what Parse owes. -/
namespace Go.Proofs.Ytahhiajliomcfaa.Sy
open Go.RowKit

end Go.Proofs.Ytahhiajliomcfaa.Sy

/- The law SyntaxTree, by what Parse and Right owe. -/
namespace Go.Proofs.Ytahhiajliomcfaa.Sy
open Go.RowKit

theorem bs_len (b : ByteArray) : (bs b).length = b.size := by
  unfold bs
  rw [List.length_map]
  rfl
theorem bs_lt (b : ByteArray) : ∀ c ∈ bs b, c < 256 := by
  intro c hc
  unfold bs at hc
  obtain ⟨x, _, rfl⟩ := List.mem_map.1 hc
  exact x.toNat_lt
/-- Nodes that are a tree: P4.1. -/
def RightG (gs : List Gd) : Prop := ∃ ns, GN gs ns ∧ Shp ns ∧ 1 ≤ ns.length ∧ ns.length ≤ 1024 ∧ Forest ns 0 ns.length [ns.length - 1]
end Go.Proofs.Ytahhiajliomcfaa.Sy

/- The law SyntaxGroup, by what Parse owes. -/
namespace Go.Proofs.Ytahhiajliomcfaa.Sy
open Go.RowKit

theorem at_bs (x : ByteArray) (k : Nat) (h : k < x.size) : at_ (bs x) k = x[k].toNat := by
  unfold at_ bs
  rw [List.getD_eq_getElem?_getD, List.getElem?_map, Array.getElem?_toList]
  rw [Array.getElem?_eq_getElem (show k < x.data.size from h)]
  rfl
theorem Forest.len {ns : List Nd} {a b : Nat} {ks : List Nat} (h : Forest ns a b ks) : ks.length ≤ b - a := by
  induction h with
  | nil => exact Nat.zero_le _
  | snoc h1 _ h2 i1 _ =>
    have := h1.le
    have := h2.le
    rw [List.length_append, List.length_singleton]
    omega
theorem Forest.all {ns : List Nd} {a b : Nat} {ks : List Nat} (h : Forest ns a b ks) : ∀ i, a ≤ i → i < b → ∃ n b', ns[i]? = some n ∧ Forest ns b' i n.l := by
  induction h with
  | nil => intro i h1 h2; omega
  | @snoc a b c ks n h1 hn h2 i1 i2 =>
    intro i g1 g2
    rcases Nat.lt_or_ge i b with h | h
    · exact i1 i g1 h
    · rcases Nat.lt_or_ge i c with h3 | h3
      · exact i2 i h h3
      · have : i = c := by omega
        subst this
        exact ⟨n, b, hn, h2⟩
theorem kids_few {ns : List Nd} {ks : List Nat} (h : Forest ns 0 ns.length ks) : ∀ n ∈ ns, n.l.length ≤ ns.length := by
  intro n hn
  obtain ⟨i, hi, rfl⟩ := List.getElem_of_mem hn
  obtain ⟨m, b, h1, h2⟩ := h.all i (Nat.zero_le _) hi
  rw [List.getElem?_eq_getElem hi] at h1
  cases h1
  have := h2.len
  omega
theorem gn_few {gs : List Gd} {ns : List Nd} {ks : List Nat} (hg : GN gs ns) (h : Forest ns 0 ns.length ks) (hn : ns.length ≤ 1024) : ∀ g ∈ gs, g.l.length ≤ 1000000 := by
  intro g hgm
  obtain ⟨i, hi, rfl⟩ := List.getElem_of_mem hgm
  have h1 := (hg.2 i hi).l
  have hi2 : i < ns.length := by rw [← hg.1]; exact hi
  rw [List.getD_eq_getElem?_getD, List.getElem?_eq_getElem hi, List.getD_eq_getElem?_getD, List.getElem?_eq_getElem hi2] at h1
  simp only [Option.getD_some] at h1
  rw [h1, List.length_map]
  have := kids_few h _ (List.getElem_mem hi2)
  omega

end Go.Proofs.Ytahhiajliomcfaa.Sy

/- The law SyntaxBounds, by what Parse owes. -/
namespace Go.Proofs.Ytahhiajliomcfaa.Sy
open Go.RowKit

end Go.Proofs.Ytahhiajliomcfaa.Sy

/- The law SyntaxName, by what Parse and Name owe. -/
namespace Go.Proofs.Ytahhiajliomcfaa.Sy
open Go.RowKit

def refG (b : ByteArray) : Gd := ⟨6, noB, [], 0, 0, b⟩
end Go.Proofs.Ytahhiajliomcfaa.Sy

/- The reference's Name. -/
namespace Go.Proofs.Ytahhiajliomcfaa.Sy
open Go.RowKit

def okAt (s : List Nat) (j : Nat) : Bool := letterB (at_ s j) || (decide (0 < j) && digitB (at_ s j))
theorem nameAt_iff : ∀ (l : List Nat) (i : Nat), nameAt i l = true ↔ ∀ j, j < l.length → (letterB (l.getD j 0) || (decide (0 < i + j) && digitB (l.getD j 0))) = true
  | [], i => by simp [nameAt]
  | c :: r, i => by
    rw [nameAt, Bool.and_eq_true, nameAt_iff r (i + 1)]
    constructor
    · rintro ⟨h1, h2⟩ j hj
      cases j with
      | zero => exact h1
      | succ j =>
        have := h2 j (by simpa using hj)
        rw [show i + 1 + j = i + (j + 1) from by omega] at this
        exact this
    · intro h
      refine ⟨h 0 (by simp), fun j hj => ?_⟩
      have := h (j + 1) (by simpa using hj)
      rw [show i + (j + 1) = i + 1 + j from by omega] at this
      exact this
theorem name_all {s : List Nat} (h : ∀ j, j < s.length → okAt s j = true) : nameB s = (decide (1 ≤ s.length) && decide (s.length ≤ 32)) := by
  have : nameAt 0 s = true := (nameAt_iff s 0).2 fun j hj => by
    have := h j hj
    unfold okAt at_ at this
    rw [Nat.zero_add]
    exact this
  unfold nameB
  rw [this, Bool.and_true]
theorem name_not {s : List Nat} {j : Nat} (hj : j < s.length) (h : okAt s j = false) : nameB s = false := by
  have : nameAt 0 s = false := by
    cases hn : nameAt 0 s with
    | false => rfl
    | true =>
      have := (nameAt_iff s 0).1 hn j hj
      rw [Nat.zero_add] at this
      unfold okAt at_ at h
      rw [h] at this
      cases this
  unfold nameB
  rw [this, Bool.and_false]

set_option maxHeartbeats 400000 in
theorem rdigit_any (c : Nat) (w : World) : Calls Try.prog 79 #[.int .u8 (c : Int)] w fun e w' => e = .returned (.bool (digitB c)) ∧ w' = w := by
  by_cases h1 : 48 ≤ c
  · have h1i : (48 : Int) ≤ (c : Int) := by omega
    by_cases h2 : c ≤ 57
    · have HV : Hid (digitB c = true) := by show _ = _; simp [digitB, h1, h2]
      have h2i : (c : Int) ≤ 57 := by omega
      go_enter Try.func79, Try.ntmps79
      go_wp2
      go_ret
      exact ⟨by rw [HV.out]; rfl, rfl⟩
    · have HV : Hid (digitB c = false) := by show _ = _; simp [digitB]; omega
      have h2i : ¬ (c : Int) ≤ 57 := by omega
      go_enter Try.func79, Try.ntmps79
      go_wp2
      go_ret
      exact ⟨by rw [HV.out]; rfl, rfl⟩
  · have HV : Hid (digitB c = false) := by show _ = _; simp [digitB]; omega
    have h1i : ¬ (48 : Int) ≤ (c : Int) := by omega
    go_enter Try.func79, Try.ntmps79
    go_wp2
    go_ret
    exact ⟨by rw [HV.out]; rfl, rfl⟩
set_option maxHeartbeats 400000 in
theorem rletter_any (c : Nat) (w : World) : Calls Try.prog 78 #[.int .u8 (c : Int)] w fun e w' => e = .returned (.bool (letterB c)) ∧ w' = w := by
  by_cases h1 : 97 ≤ c
  · have h1i : (97 : Int) ≤ (c : Int) := by omega
    by_cases h2 : c ≤ 122
    · have h2i : (c : Int) ≤ 122 := by omega
      have HV : Hid (letterB c = true) := by show _ = _; simp [letterB]; omega
      go_enter Try.func78, Try.ntmps78
      go_wp2
      go_ret
      exact ⟨by rw [HV.out]; rfl, rfl⟩
    · have h2i : ¬ (c : Int) ≤ 122 := by omega
      have h3i : (65 : Int) ≤ (c : Int) := by omega
      have h4i : ¬ (c : Int) ≤ 90 := by omega
      have h5i : ((c : Int) == 95) = false := by simp; omega
      have HV : Hid (letterB c = false) := by show _ = _; simp [letterB]; omega
      go_enter Try.func78, Try.ntmps78
      go_wp2
      go_ret
      exact ⟨by rw [HV.out]; rfl, rfl⟩
  · have h1i : ¬ (97 : Int) ≤ (c : Int) := by omega
    by_cases h3 : 65 ≤ c
    · have h3i : (65 : Int) ≤ (c : Int) := by omega
      by_cases h4 : c ≤ 90
      · have h4i : (c : Int) ≤ 90 := by omega
        have HV : Hid (letterB c = true) := by show _ = _; simp [letterB]; omega
        go_enter Try.func78, Try.ntmps78
        go_wp2
        go_ret
        exact ⟨by rw [HV.out]; rfl, rfl⟩
      · have h4i : ¬ (c : Int) ≤ 90 := by omega
        by_cases h5 : c = 95
        · subst h5
          go_enter Try.func78, Try.ntmps78
          go_wp2
          go_ret
          exact ⟨rfl, rfl⟩
        · have h5i : ((c : Int) == 95) = false := by simp; omega
          have HV : Hid (letterB c = false) := by show _ = _; simp [letterB]; omega
          go_enter Try.func78, Try.ntmps78
          go_wp2
          go_ret
          exact ⟨by rw [HV.out]; rfl, rfl⟩
    · have h3i : ¬ (65 : Int) ≤ (c : Int) := by omega
      have h5i : ((c : Int) == 95) = false := by simp; omega
      have HV : Hid (letterB c = false) := by show _ = _; simp [letterB]; omega
      go_enter Try.func78, Try.ntmps78
      go_wp2
      go_ret
      exact ⟨by rw [HV.out]; rfl, rfl⟩

set_option maxRecDepth 100000 in
set_option maxHeartbeats 1000000 in
theorem rname_any (s : ByteArray) (w : World) (hs : s.size ≤ maxLen) : Calls Try.prog 69 #[.string s] w fun e w' => e = .returned (.bool (nameB (bs s))) ∧ w' = w := by
  unfold maxLen at hs
  have hbl := bs_len s
  go_enter Try.func69, Try.ntmps69
  go_wp2
  go_loopw [3] (fun i wr => wr = w ∧ ∃ k : Nat, k ≤ s.size ∧ i = .int .i64 k ∧ ∀ j, j < k → okAt (bs s) j = true) (fun i _ => s.size - (intOf i).toNat)
  case atStart => exact ⟨rfl, 0, Nat.zero_le _, rfl, fun j hj => by omega⟩
  case round =>
    obtain ⟨rfl, k, hk0, rfl, hok⟩ := hrel
    by_cases hlt : k < s.size
    · have hki : (k : Int) < (s.size : Int) := by omega
      have hak := at_bs s k hlt
      have hl1 := fun w => rletter_any (s[k].toNat) w
      have hd1 := fun w => rdigit_any (s[k].toNat) w
      have HNX : Hid (okAt (bs s) k = true → ∀ j, j < k + 1 → okAt (bs s) j = true) := fun h j hj => by
        rcases Nat.lt_or_ge j k with h2 | h2
        · exact hok j h2
        · rw [show j = k from by omega]; exact h
      have HNO : Hid (okAt (bs s) k = false → nameB (bs s) = false) := fun h => name_not (by rw [hbl]; exact hlt) h
      have HOK : Hid (okAt (bs s) k = (letterB s[k].toNat || (decide (0 < k) && digitB s[k].toNat))) := by show _ = _; unfold okAt; rw [hak]
      clear hok hak
      generalize letterB s[k].toNat = lt at *
      generalize digitB s[k].toNat = dg at *
      go_wp2_with fail
      refine (hl1 _).mono ?_
      rintro e w2 ⟨rfl, rfl⟩
      cases lt with
      | true =>
        go_wp2
        exact ⟨⟨trivial, k + 1, by omega, rfl, HNX.out (by rw [HOK.out]; rfl)⟩, by simp [intOf]; omega⟩
      | false =>
        by_cases hz : k = 0
        · subst hz
          go_wp2
          go_ret
          exact ⟨by rw [HNO.out (by rw [HOK.out]; rfl)]; rfl, rfl⟩
        · have hzi : ((k : Int) == 0) = false := by simp; omega
          have hzd : decide (0 < k) = true := decide_eq_true (by omega)
          rw [hzd] at HOK
          clear hzd
          go_wp2_with fail
          refine (hd1 _).mono ?_
          rintro e w2 ⟨rfl, rfl⟩
          cases dg with
          | true =>
            go_wp2
            exact ⟨⟨trivial, k + 1, by omega, rfl, HNX.out (by rw [HOK.out]; rfl)⟩, by simp [intOf]; omega⟩
          | false =>
            go_wp2
            go_ret
            exact ⟨by rw [HNO.out (by rw [HOK.out]; rfl)]; rfl, rfl⟩
    · have hk : k = s.size := by omega
      subst hk
      have HV := hidd (name_all (s := bs s) (fun j hj => hok j (by rw [hbl] at hj; exact hj)))
      rw [hbl] at HV
      clear hok hbl
      by_cases h1 : 1 ≤ s.size
      · have h1i : (1 : Int) ≤ (s.size : Int) := by omega
        by_cases h2 : s.size ≤ 32
        · have h2i : decide ((s.size : Int) ≤ 32) = true := decide_eq_true (by omega)
          rw [decide_eq_true h1, decide_eq_true h2] at HV
          go_wp2
          go_ret
          exact ⟨by rw [HV.out]; rfl, rfl⟩
        · have h2i : decide ((s.size : Int) ≤ 32) = false := decide_eq_false (by omega)
          rw [decide_eq_true h1, decide_eq_false h2] at HV
          go_wp2
          go_ret
          exact ⟨by rw [HV.out]; rfl, rfl⟩
      · have h1i : ¬ (1 : Int) ≤ (s.size : Int) := by omega
        rw [decide_eq_false h1] at HV
        go_wp2
        go_ret
        exact ⟨by rw [HV.out]; rfl, rfl⟩

end Go.Proofs.Ytahhiajliomcfaa.Sy

/- The reference's shape. -/
namespace Go.Proofs.Ytahhiajliomcfaa.Sy
open Go.RowKit

theorem eqB_empty (p : Nat → Bool) : eqB p noB = emptyS p := by
  cases h : emptyS p with
  | true =>
    refine eqB_true fun b hb => ?_
    unfold emptyS at h
    rw [List.all_eq_true] at h
    have := h b (List.mem_range.2 hb)
    simpa [noB] using this
  | false =>
    unfold emptyS at h
    rw [List.all_eq_false] at h
    obtain ⟨b, hb, hp⟩ := h
    have hb := List.mem_range.1 hb
    have hp : p b = true := by simpa using hp
    unfold eqB
    rw [decide_eq_false_iff_not]
    rintro ⟨h0, h1, h2, h3⟩
    have key : ∀ i, i < 4 → W p i = W noB i := fun i hi => by
      have : i = 0 ∨ i = 1 ∨ i = 2 ∨ i = 3 := by omega
      rcases this with rfl | rfl | rfl | rfl <;> assumption
    have := W_inj (key (b / 64) (by omega)) (b % 64) (by omega)
    rw [show 64 * (b / 64) + b % 64 = b from by omega, hp] at this
    cases this
theorem set_zero (p : Nat → Bool) (w : World) : (binOp .neq 40 (.agg #[.int .u64 (W (p) 0), .int .u64 (W (p) 1), .int .u64 (W (p) 2), .int .u64 (W (p) 3)]) (.agg #[.int .u64 0, .int .u64 0, .int .u64 0, .int .u64 0])).run Try.prog w = .ok (.bool (!emptyS p)) w := by
  have := set_neq p noB w
  rw [W_zero, W_zero, W_zero, W_zero, eqB_empty] at this
  exact this

/-- Has a node just what its kind has? In memory's own numbers. -/
def hiOk (g : Gd) : Bool := g.hi == -1 || (decide (1 ≤ g.hi) && decide (g.hi ≤ 4096) && decide (g.lo ≤ g.hi))
def shapeV (op : Int) (e b m : Bool) (L : Nat) (rp nb : Bool) : Bool :=
  if op = 1 then e && !b && !m && decide (L = 0)
  else if op = 2 then !e && !b && !m && decide (L = 0)
  else if op = 3 ∨ op = 4 then e && !b && !m && decide (2 ≤ L)
  else if op = 5 then e && !m && decide (L = 1) && rp
  else if op = 6 then e && !b && nb && decide (L = 0)
  else false
def shapeG (g : Gd) : Bool := shapeV g.op (emptyS g.s) (!(g.lo == 0) || !(g.hi == 0)) (!g.nm.toList.isEmpty) g.l.length (decide (0 ≤ g.lo) && decide (g.lo ≤ 4096) && hiOk g) (nameB (bs g.nm))

set_option maxRecDepth 100000 in
set_option maxHeartbeats 2000000 in
theorem shape_any (g : Gd) (A : Option Addr) (c : Nat) (w : World) (hs : g.nm.size ≤ maxLen) (hl : g.l.length ≤ maxLen) :
    Calls Try.prog 53 #[.agg (gdL g A c).toArray] w fun e w' => e = .returned (.bool (shapeG g)) ∧ Below w.heap.size w w' := by
  have R := RowA.new w 42 (gdL g A c).toArray
  have D : Below w.heap.size w (w.alloc (.cells (gdL g A c).toArray 42)) := (Below.refl _ _).alloc (Nat.le_refl _) _
  obtain ⟨a0, a1, a2, a3, a4, a5, a6, a7, a8⟩ := node_cells R
  have hz := set_zero g.s
  have HG : Hid (shapeG g = shapeV g.op (emptyS g.s) (!(g.lo == 0) || !(g.hi == 0)) (!g.nm.toList.isEmpty) g.l.length (decide (0 ≤ g.lo) && decide (g.lo ≤ 4096) && hiOk g) (nameB (bs g.nm))) := rfl
  clear R
  go_enter Try.func53, Try.ntmps53
  go_upto_region 1 with fail
  generalize hw1 : w.alloc (.cells (gdL g A c).toArray 42) = w1 at *
  clear hw1
  go_upto_region 2 with fail
  go_cut [4] (fun s4 wx => s4 = .bool (!(g.lo == 0) || !(g.hi == 0)) ∧ w1 = wx)
  case first =>
    by_cases h1 : g.lo = 0
    · by_cases h2 : g.hi = 0
      · go_wp2
        go_meet
        exact ⟨by simp [h1, h2], rfl⟩
      · have h2b : (g.hi != 0) = true := by simpa using h2
        go_wp2
        go_meet
        exact ⟨by simp [h1, h2], rfl⟩
    · have h1b : (g.lo != 0) = true := by simpa using h1
      go_wp2
      go_meet
      exact ⟨by simp [h1], rfl⟩
  case rest =>
    obtain ⟨rfl, rfl⟩ := hcut
    have HN := hidd (rname_any g.nm w1 hs)
    unfold maxLen at hl
    go_upto_region 5 with fail
    generalize hrp : (decide (0 ≤ g.lo) && decide (g.lo ≤ 4096) && hiOk g) = rp at *
    generalize nameB (bs g.nm) = nb at *
    generalize emptyS g.s = e at *
    generalize (!(g.lo == 0) || !(g.hi == 0)) = b at *
    generalize g.nm.toList.isEmpty = mm at *
    generalize g.l.length = L at *
    generalize g.op = op at *
    clear hz a0 a1 a2 a3 a4
    by_cases o1 : op = 1
    · subst o1
      clear hrp HN
      cases e <;> cases b <;> cases mm <;> (go_wp2; go_ret; exact ⟨by rw [HG.out]; first | rfl | exact ret_bool (by rw [Bool.eq_iff_iff]; simp [shapeV]; try omega), D⟩)
    · by_cases o2 : op = 2
      · subst o2
        clear hrp HN
        cases e <;> cases b <;> cases mm <;> (go_wp2; go_ret; exact ⟨by rw [HG.out]; first | rfl | exact ret_bool (by rw [Bool.eq_iff_iff]; simp [shapeV]; try omega), D⟩)
      · by_cases o3 : op = 3
        · subst o3
          clear hrp HN
          cases e <;> cases b <;> cases mm <;> (go_wp2; go_ret; exact ⟨by rw [HG.out]; first | rfl | exact ret_bool (by rw [Bool.eq_iff_iff]; simp [shapeV]; try omega), D⟩)
        · by_cases o4 : op = 4
          · subst o4
            clear hrp HN
            cases e <;> cases b <;> cases mm <;> (go_wp2; go_ret; exact ⟨by rw [HG.out]; first | rfl | exact ret_bool (by rw [Bool.eq_iff_iff]; simp [shapeV]; try omega), D⟩)
          · have n1 : (op == 1) = false := by simpa using o1
            have n2 : (op == 2) = false := by simpa using o2
            have n3 : (op == 3) = false := by simpa using o3
            have n4 : (op == 4) = false := by simpa using o4
            by_cases o5 : op = 5
            · subst o5
              clear HN
              go_upto_region 13 with fail
              go_cut [6] (fun s6 wx => s6 = .bool (hiOk g) ∧ w1 = wx)
              case first =>
                by_cases h1 : g.hi = -1
                · have HH : Hid (hiOk g = true) := by show _ = _; simp [hiOk, h1]
                  clear HG hrp
                  go_wp2
                  go_meet
                  exact ⟨by rw [HH.out], rfl⟩
                · have h1b : (g.hi == -1) = false := by simpa using h1
                  by_cases h2 : 1 ≤ g.hi
                  · by_cases h3 : g.hi ≤ 4096
                    · by_cases h4 : g.lo ≤ g.hi
                      · have HH : Hid (hiOk g = true) := by show _ = _; simp [hiOk, h2, h3, h4]
                        clear HG hrp
                        go_wp2
                        go_meet
                        exact ⟨by rw [HH.out], rfl⟩
                      · have HH : Hid (hiOk g = false) := by show _ = _; simp [hiOk, h1, h4]
                        clear HG hrp
                        go_wp2
                        go_meet
                        exact ⟨by rw [HH.out], rfl⟩
                    · have HH : Hid (hiOk g = false) := by show _ = _; simp [hiOk, h1, h3]
                      clear HG hrp
                      go_wp2
                      go_meet
                      exact ⟨by rw [HH.out], rfl⟩
                  · have HH : Hid (hiOk g = false) := by show _ = _; simp [hiOk, h1, h2]
                    clear HG hrp
                    go_wp2
                    go_meet
                    exact ⟨by rw [HH.out], rfl⟩
              case rest =>
                obtain ⟨rfl, rfl⟩ := hcut
                generalize hiOk g = q at *
                subst hrp
                cases e with
                | false => cases mm <;> (go_wp2; go_ret; exact ⟨by rw [HG.out]; first | rfl | exact ret_bool (by rw [Bool.eq_iff_iff]; simp [shapeV]; try omega), D⟩)
                | true =>
                  cases mm with
                  | false => (go_wp2; go_ret; exact ⟨by rw [HG.out]; first | rfl | exact ret_bool (by rw [Bool.eq_iff_iff]; simp [shapeV]; try omega), D⟩)
                  | true =>
                    by_cases hL : L = 1
                    · subst hL
                      by_cases h1 : 0 ≤ g.lo
                      · by_cases h2 : g.lo ≤ 4096
                        · have HF : Hid (shapeV 5 true b (!true) 1 (decide (0 ≤ g.lo) && decide (g.lo ≤ 4096) && q) nb = q) := by show _ = _; simp [shapeV, h1, h2]
                          go_wp2
                          go_ret
                          exact ⟨by rw [HG.out, HF.out]; rfl, D⟩
                        · have HF : Hid (shapeV 5 true b (!true) 1 (decide (0 ≤ g.lo) && decide (g.lo ≤ 4096) && q) nb = false) := by show _ = _; simp [shapeV, h2]
                          go_wp2
                          go_ret
                          exact ⟨by rw [HG.out, HF.out]; rfl, D⟩
                      · have HF : Hid (shapeV 5 true b (!true) 1 (decide (0 ≤ g.lo) && decide (g.lo ≤ 4096) && q) nb = false) := by show _ = _; simp [shapeV, h1]
                        go_wp2
                        go_ret
                        exact ⟨by rw [HG.out, HF.out]; rfl, D⟩
                    · have hLi : ((L : Int) == 1) = false := by simp; omega
                      have HF : Hid (shapeV 5 true b (!true) L (decide (0 ≤ g.lo) && decide (g.lo ≤ 4096) && q) nb = false) := by show _ = _; simp [shapeV, hL]
                      go_wp2
                      go_ret
                      exact ⟨by rw [HG.out, HF.out]; rfl, D⟩
            · have n5 : (op == 5) = false := by simpa using o5
              by_cases o6 : op = 6
              · subst o6
                clear hrp
                cases e with
                | false => cases b <;> (go_wp2; go_ret; exact ⟨by rw [HG.out]; first | rfl | exact ret_bool (by rw [Bool.eq_iff_iff]; simp [shapeV]; try omega), D⟩)
                | true =>
                  cases b with
                  | true => (go_wp2; go_ret; exact ⟨by rw [HG.out]; first | rfl | exact ret_bool (by rw [Bool.eq_iff_iff]; simp [shapeV]; try omega), D⟩)
                  | false =>
                    go_wp2_with fail
                    refine HN.out.mono ?_
                    rintro e2 w2 ⟨rfl, rfl⟩
                    clear HN
                    cases nb <;> (go_wp2; go_ret; exact ⟨by rw [HG.out]; first | rfl | exact ret_bool (by rw [Bool.eq_iff_iff]; simp [shapeV]; try omega), D⟩)
              · have n6 : (op == 6) = false := by simpa using o6
                have HF : Hid (shapeV op e b (!mm) L rp nb = false) := by show _ = _; simp [shapeV, o1, o2, o3, o4, o5, o6]
                clear hrp HN o1 o2 o3 o4 o5 o6
                go_wp2
                go_ret
                exact ⟨by rw [HG.out, HF.out]; rfl, D⟩

end Go.Proofs.Ytahhiajliomcfaa.Sy

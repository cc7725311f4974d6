/- The landed plan of a tree: Tree tells what planN does. -/
import Derived.Test.YtdaaigkmlbpbgaaPJn
import Derived.Test.YtdaaigkmlbpbgaaPVv
import Derived.Test.YtdaaigkmlbpbgaaPM2
import Derived.Test.YtdaaigkmlbpbgaaPM1
namespace Go.Proofs.Ytdaaigkmlbpbgaa.Sy.Pl
open Go.RowKit Go.Proofs.Ytdaaigkmlbpbgaa.Sy.Ap Go.Proofs.Ytdaaigkmlbpbgaa.Sy.Lg
set_option maxRecDepth 100000
set_option linter.unusedVariables false

set_option maxHeartbeats 1000000 in
theorem tree_ok (A : Option Addr) (c : Nat) (gs : List Gd) (ns : List Nd) (most : Nat) (m1 : 1 ≤ most) (m2 : most ≤ 4096) (w : World) (hN : Nds w w.heap.size A gs) (hg : GN gs ns) (ht : TreeN ns) (hp : PlainN ns) :
    Calls Try.prog 10 #[.slice A gs.length c, .int .i64 (most : Int)] w fun e w' => TrR (planN ns most) w e w' := by
  have hl : gs.length ≤ 2000 := by have := hg.1; have := ht.few; omega
  have hn := nameless_any A c gs w hN hl (gn_sm hg ht)
  have HP := hidd (plain_of hg ht hp)
  have hpos := ht.pos
  have hlen := hg.1
  have HC : Hid (∀ (B b : Nat), PC B b A c gs (most : Int) (pl ns most (ns.length - 1)) (ns.length - 1)) := fun B b => planC m1 hg ht hp (ns.length - 1) (by omega)
  have HN := hidd hN
  obtain ⟨k, hk⟩ : ∃ k, ns.length - 1 = k := ⟨_, rfl⟩
  have hlk : gs.length = k + 1 := by omega
  have HPN : Hid (planN ns most = pl ns most k []) := by show _ = _; unfold planN; rw [hk]
  rw [hk] at HC
  have HST : Hid (∀ (u : World), RowA u w.heap.size 47 #[.slice A (k + 1) c, .int .i64 (most : Int), .slice none 0 0, .slice none 0 0] → True) := fun _ _ => trivial
  have HLK := hidd hlk
  rw [hlk] at hn ⊢
  obtain ⟨RES, hRES⟩ : ∃ RES, planN ns most = RES := ⟨_, rfl⟩
  rw [hRES] at HPN ⊢
  have hki : ((k + 1 : Nat) : Int) - 1 = (k : Int) := by omega
  have hk9 : k ≤ 2000 := by omega
  clear hl hg ht hp hN hpos hlen hk hlk hRES HST
  generalize k + 1 = n at *
  go_enter Try.func10, Try.ntmps10
  go_wp2_with fail
  refine hn.mono ?_
  rintro e w1 ⟨z, rfl, hz, b1⟩
  have hzt : z = true := hz.2 HP.out
  subst hzt
  have HB := hidd b1
  clear hn b1 hz HP
  have m3 : ¬ ((most : Int) < 1) := by omega
  have m4 : ¬ ((4096 : Int) < (most : Int)) := by omega
  have R1 := RowA.new w1 47 #[.slice A n c, .int .i64 (most : Int), .slice none 0 0, .slice none 0 0]
  have hW1 : Below w1.heap.size w1 (w1.alloc (.cells #[.slice A n c, .int .i64 (most : Int), .slice none 0 0, .slice none 0 0] 47)) := (Below.refl _ _).alloc (Nat.le_refl _) _
  go_upto_region 4 with fail
  generalize w1.alloc (.cells #[.slice A n c, .int .i64 (most : Int), .slice none 0 0, .slice none 0 0] 47) = w2 at *
  have hS : St (fun _ => False) w1.heap.size w1.heap.size A c gs (most : Int) w2 [] [] := by
    refine ⟨.slice none 0 0, .slice none 0 0, [], ⟨?_, World.ownsRow_nil _ _ _ _, World.ownsRow_nil _ _ _ _, fun x hx => absurd hx List.not_mem_nil, Nat.le_refl _⟩, ⟨rfl, fun i hi => absurd hi (Nat.not_lt_zero _)⟩, Nat.le_refl _, Nat.zero_le _, fun q h => h.elim⟩
    rw [HLK.out]
    exact R1
  have hc := HC.out w1.heap.size w1.heap.size (fun _ => False) w2 [] [] hS (((HN.out.below HB.out).more HB.out.size).below hW1)
  have HB2 := hidd (HB.out.trans (hW1.mono HB.out.size))
  have HW := hidd HB.out.size
  clear hS R1 hW1 HC HN HB m3 m4
  generalize hq : pl ns most k [] = R at *
  clear hq
  go_wp2_with fail
  refine hc.mono ?_
  rintro e w3 ⟨b3, h3⟩
  have HB3 := hidd (HB2.out.trans (b3.bel.mono HW.out))
  clear b3 hc HB2 HW
  cases R with
  | none =>
    obtain rfl := h3
    go_wp2
    go_ret2
    rw [HPN.out]
    exact ⟨HB3.out, rfl⟩
  | some o =>
    obtain ⟨rfl, nv, rv, l, p, gn, r1, r2, r3⟩ := h3
    obtain ⟨A5, c5, rfl, N5, hc5⟩ := p.nds
    obtain ⟨d0, d1, d2, d3⟩ := p.cells
    have HN5 := hidd N5
    have HG5 := hidd gn
    have HC5 := hidd hc5
    obtain ⟨m, hm⟩ : ∃ m, l.length = m := ⟨_, rfl⟩
    have HM : Hid ((l.map (·.1)).length = m) := by show _ = _; rw [List.length_map, hm]
    rw [hm] at d2 HC5
    clear N5 gn hc5 p r1 r2 r3 hm d0 d1 d3
    go_wp2
    go_ret2
    rw [HPN.out]
    refine ⟨HB3.out, A5, c5, l.map (·.1), ?_, HN5.out, HG5.out, by rw [HM.out]; exact HC5.out⟩
    rw [HM.out]
    rfl
end Go.Proofs.Ytdaaigkmlbpbgaa.Sy.Pl

namespace Go.Proofs.Ytdaaigkmlbpbgaa.Sy
set_option linter.unusedVariables false

def hexD (n : Nat) : Nat := if n < 10 then 48 + n else 87 + n
/-- A byte as it stands in a pattern. -/
def byteT (c : Nat) : List Nat :=
  if c = 10 then [92, 110] else if c = 9 then [92, 116] else if c = 13 then [92, 114]
  else if c < 32 ∨ 126 < c then [92, 120, hexD (c / 16), hexD (c % 16)]
  else if specialB c || c == 45 then [92, c] else [c]
def spanT (x : Int × Int) : List Nat := if x.1 < x.2 then byteT x.1.toNat ++ 45 :: byteT x.2.toNat else byteT x.1.toNat
def spn (p : Nat → Bool) : List (Int × Int) := spansL (lstB p 256)
def eqDot (p : Nat → Bool) : Bool := (List.range 256).all fun x => p x == dotS x
/-- A set as it stands in a pattern. -/
def setT (p : Nat → Bool) : List Nat :=
  if (spn p).length = 1 ∧ ((spn p).getD 0 (0, 0)).1 = ((spn p).getD 0 (0, 0)).2 then byteT ((spn p).getD 0 (0, 0)).1.toNat
  else if eqDot p then [46] else 91 :: ((spn p).flatMap spanT ++ [93])
/-- Bounds as they stand in a pattern. -/
def timesT (lo hi : Int) : List Nat :=
  if lo = 0 ∧ hi = -1 then [42] else if lo = 1 ∧ hi = -1 then [43] else if lo = 0 ∧ hi = 1 then [63]
  else if lo = hi then 123 :: (digs lo.toNat ++ [125]) else if hi = -1 then 123 :: (digs lo.toNat ++ [44, 125]) else 123 :: (digs lo.toNat ++ 44 :: (digs hi.toNat ++ [125]))
/-- Does a kid stand in parentheses? -/
def encB (k parent : Nat) : Bool := k == 4 || ((k == 1 || k == 3) && !(parent == 4))
def wrapT (b : Bool) (t : List Nat) : List Nat := if b then 40 :: (t ++ [41]) else t
def kidsT (sep : List Nat) (g : Nat → List Nat) (n : Nat) : List Nat := (List.range n).flatMap fun i => (if 0 < i then sep else []) ++ g i
theorem kidsT_zero (sep : List Nat) (g : Nat → List Nat) : kidsT sep g 0 = [] := rfl
theorem kidsT_succ (sep : List Nat) (g : Nat → List Nat) (n : Nat) : kidsT sep g (n + 1) = kidsT sep g n ++ ((if 0 < n then sep else []) ++ g n) := by
  unfold kidsT
  rw [List.range_succ, List.flatMap_append]
  simp
theorem kidsT_len (sep : List Nat) (g : Nat → List Nat) {i n : Nat} (h : i ≤ n) : (kidsT sep g i).length ≤ (kidsT sep g n).length := by
  induction h with
  | refl => exact Nat.le_refl _
  | step _ ih => rw [kidsT_succ, List.length_append]; omega
/-- A node, by its kids' texts. -/
def headT (kid : Nat → List Nat) (n : Nd) : List Nat :=
  if n.op = 2 then setT n.s else if n.op = 6 then 123 :: (n.name ++ [125])
  else if n.op = 5 then kidsT [] kid n.l.length ++ timesT n.lo n.hi
  else if n.op = 3 then kidsT [] kid n.l.length else if n.op = 4 then kidsT [124] kid n.l.length else []
def nodeT (ns : List Nd) : Nat → Nd → List Nat
  | 0, _ => []
  | f + 1, n => headT (fun i => wrapT (encB (ns.getD (n.l.getD i 0) nd0).op n.op) (nodeT ns f (ns.getD (n.l.getD i 0) nd0))) n
def kidT (ns : List Nd) (f : Nat) (n : Nd) (i : Nat) : List Nat := wrapT (encB (ns.getD (n.l.getD i 0) nd0).op n.op) (nodeT ns f (ns.getD (n.l.getD i 0) nd0))
theorem nodeT_succ (ns : List Nd) (f : Nat) (n : Nd) : nodeT ns (f + 1) n = headT (kidT ns f n) n := rfl
/-- A tree as a pattern. -/
def treeT (ns : List Nd) : List Nat := nodeT ns ns.length (ns.getD (ns.length - 1) nd0)

/-! Bytes. -/
theorem byteT_fit : ∀ c, c < 256 → (∀ x ∈ byteT c, 32 ≤ x ∧ x ≤ 126) ∧ 1 ≤ (byteT c).length ∧ (byteT c).length ≤ 4 := by decide +kernel
theorem spn_at (p : Nat → Bool) : ∀ x ∈ spn p, 0 ≤ x.1 ∧ x.1 ≤ x.2 ∧ x.2 ≤ 255 := fun x hx => by
  obtain ⟨k, hk, e0⟩ := List.getElem_of_mem hx
  have h := span_at p k hk
  have e : (spn p).getD k (0, 0) = x := by rw [List.getD_eq_getElem?_getD, List.getElem?_eq_getElem hk, e0]; rfl
  change 0 ≤ ((spn p).getD k (0, 0)).1 ∧ ((spn p).getD k (0, 0)).1 ≤ ((spn p).getD k (0, 0)).2 ∧ ((spn p).getD k (0, 0)).2 ≤ 255 at h
  rw [e] at h
  exact h
theorem spn_len (p : Nat → Bool) : (spn p).length ≤ 256 := Nat.le_trans (spans_len _) (lst_len p 256)
theorem spanT_fit {x : Int × Int} (h0 : 0 ≤ x.1) (h1 : x.1 ≤ x.2) (h2 : x.2 ≤ 255) : (∀ y ∈ spanT x, y < 256) ∧ (spanT x).length ≤ 9 := by
  have a := byteT_fit x.1.toNat (by omega)
  have b := byteT_fit x.2.toNat (by omega)
  unfold spanT
  split
  · refine ⟨fun y hy => ?_, by simp; omega⟩
    simp only [List.mem_append, List.mem_cons] at hy
    rcases hy with h | rfl | h
    · have := a.1 y h; omega
    · omega
    · have := b.1 y h; omega
  · exact ⟨fun y hy => by have := a.1 y hy; omega, by omega⟩
theorem flat_len {α : Type} (f : α → List Nat) (m : Nat) : ∀ l : List α, (∀ x ∈ l, (f x).length ≤ m) → (l.flatMap f).length ≤ m * l.length
  | [], _ => by simp
  | x :: r, h => by
    have h1 := flat_len f m r (fun y hy => h y (by simp [hy]))
    have h2 := h x (by simp)
    simp only [List.flatMap_cons, List.length_append, List.length_cons, Nat.mul_add, Nat.mul_one]
    omega
theorem setT_fit (p : Nat → Bool) : (∀ x ∈ setT p, x < 256) ∧ (setT p).length ≤ 2400 := by
  unfold setT
  split
  · rename_i h
    have hm : (spn p).getD 0 (0, 0) ∈ spn p := by rw [List.getD_eq_getElem?_getD, List.getElem?_eq_getElem (by omega)]; exact List.getElem_mem _
    have := spn_at p _ hm
    have := byteT_fit ((spn p).getD 0 (0, 0)).1.toNat (by omega)
    exact ⟨fun x hx => by have := this.1 x hx; omega, by omega⟩
  · split
    · exact ⟨by simp, by simp⟩
    · refine ⟨fun x hx => ?_, ?_⟩
      · simp only [List.mem_cons, List.mem_append, List.mem_flatMap] at hx
        rcases hx with rfl | ⟨y, hy, hx⟩ | rfl | h
        · omega
        · have := spn_at p y hy
          exact (spanT_fit this.1 this.2.1 this.2.2).1 x hx
        · omega
        · cases h
      · have h1 := flat_len spanT 9 (spn p) (fun y hy => by have := spn_at p y hy; exact (spanT_fit this.1 this.2.1 this.2.2).2)
        have h2 := spn_len p
        rw [List.length_cons, List.length_append, List.length_singleton]
        omega
theorem digs_fit {n : Nat} (h : n ≤ 9999) : (∀ x ∈ digs n, x < 256) ∧ (digs n).length ≤ 4 := by
  refine ⟨fun x hx => ?_, digs_len h⟩
  have := (digs_all n).2.1 x hx
  unfold digitB at this
  simp at this
  omega
theorem timesT_fit {lo hi : Int} (h0 : lo ≤ 9999) (h1 : hi ≤ 9999) : (∀ x ∈ timesT lo hi, x < 256) ∧ (timesT lo hi).length ≤ 11 := by
  have a := digs_fit (n := lo.toNat) (by omega)
  have b := digs_fit (n := hi.toNat) (by omega)
  unfold timesT
  repeat' split
  all_goals refine ⟨fun x hx => ?_, by simp; try omega⟩
  all_goals simp at hx
  · omega
  · omega
  · omega
  · rcases hx with rfl | h | rfl
    · omega
    · exact a.1 x h
    · omega
  · rcases hx with rfl | h | rfl | rfl
    · omega
    · exact a.1 x h
    · omega
    · omega
  · rcases hx with rfl | h | rfl | h | rfl
    · omega
    · exact a.1 x h
    · omega
    · exact b.1 x h
    · omega
theorem setT_congr {p q : Nat → Bool} (h : ∀ b, b < 256 → p b = q b) : setT p = setT q := by
  have e1 : lstB p 256 = lstB q 256 := by
    unfold lstB
    rw [List.filter_congr (fun x hx => h x (List.mem_range.1 hx))]
  have e2 : eqDot p = eqDot q := by
    unfold eqDot
    rw [Bool.eq_iff_iff, List.all_eq_true, List.all_eq_true]
    exact ⟨fun g x hx => by rw [← h x (List.mem_range.1 hx)]; exact g x hx, fun g x hx => by rw [h x (List.mem_range.1 hx)]; exact g x hx⟩
  unfold setT spn
  rw [e1, e2]
/-! The text of a tree is no longer than its nodes' own parts together, and of bytes. -/
/-- A node's own part: all but its kids' texts. -/
theorem wrapT_fit {b : Bool} {t : List Nat} (h : ∀ x ∈ t, x < 256) : (∀ x ∈ wrapT b t, x < 256) ∧ (wrapT b t).length ≤ t.length + 2 := by
  unfold wrapT
  split
  · refine ⟨fun x hx => ?_, by simp⟩
    simp at hx
    rcases hx with rfl | hx | rfl
    · omega
    · exact h x hx
    · omega
  · exact ⟨h, by omega⟩
theorem kidsT_fit {sep : List Nat} (hs : ∀ x ∈ sep, x < 256) (h1 : sep.length ≤ 1) {g : Nat → List Nat} : ∀ n, (∀ i, i < n → ∀ x ∈ g i, x < 256) → (∀ x ∈ kidsT sep g n, x < 256)
  | 0, _ => by simp [kidsT_zero]
  | n + 1, h => fun x hx => by
    rw [kidsT_succ] at hx
    simp only [List.mem_append] at hx
    rcases hx with hx | hx | hx
    · exact kidsT_fit hs h1 n (fun i hi => h i (by omega)) x hx
    · split at hx
      · exact hs x hx
      · cases hx
    · exact h n (by omega) x hx
theorem shape_op5 {n : Nd} (h : shapeB n = true) : n.op = 5 → n.lo ≤ 4096 ∧ n.hi ≤ 4096 ∧ 0 ≤ n.lo ∧ (n.hi = -1 ∨ n.lo ≤ n.hi) := by
  intro h5
  unfold shapeB at h
  rw [h5] at h
  simp at h
  omega
theorem shape_name {n : Nd} (h : shapeB n = true) : n.name.length ≤ 32 := by
  unfold shapeB at h
  repeat' split at h
  all_goals simp [nameB] at h
  all_goals (try (obtain ⟨⟨⟨_, h⟩, _⟩, _⟩ := h))
  all_goals (try (obtain ⟨⟨_, h⟩, _⟩ := h))
  all_goals (try (obtain ⟨_, h⟩ := h))
  all_goals (first | omega | simp_all)
end Go.Proofs.Ytdaaigkmlbpbgaa.Sy

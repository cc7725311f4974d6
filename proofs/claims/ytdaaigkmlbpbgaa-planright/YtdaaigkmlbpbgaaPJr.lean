/- NormPlain: what Expand tells is plain, and stays. -/
import Derived.Test.YtdaaigkmlbpbgaaPJn
import Derived.Test.YtdaaigkmlbpbgaaPJq
import Derived.Test.YtdaaigkmlbpbgaaPJe
namespace Go.Proofs.Ytdaaigkmlbpbgaa.Sy.Ap
open Go.RowKit
set_option maxRecDepth 100000
set_option linter.unusedVariables false

theorem same_tree {A A' : Option Addr} {c c' : Nat} {gs gs' : List Gd} {ns : List Nd} {w : World} (hN : Nds w w.heap.size A gs) (hN' : Nds w w.heap.size A' gs') (hg : GN gs ns) (hg' : GN gs' ns) (ht : TreeN ns) :
    Calls Try.prog 14 #[.slice A gs.length c, .slice A' gs'.length c'] w fun e w' => e = .returned (.bool true) ∧ Below w.heap.size w w' :=
  same_any A A' c c' gs gs' w hN hN' (hg.leq hg') (by have := gn_few hg ht; omega) (fun g h => by have := gn_kids hg ht g h; omega)
end Go.Proofs.Ytdaaigkmlbpbgaa.Sy.Ap

namespace Go.Proofs.Ytdaaigkmlbpbgaa.Sy.Pl
open Go.RowKit Go.Proofs.Ytdaaigkmlbpbgaa.Sy.Ap Go.Proofs.Ytdaaigkmlbpbgaa.Sy.Lg
set_option maxRecDepth 100000
set_option linter.unusedVariables false

theorem few8_ (A : Option Addr) (c n : Nat) (w : World) (hc : n ≤ c) (hm : n ≤ maxLen) :
    Calls Try.prog 11 #[.slice A n c] w fun e w' => e = .returned (.slice A (min n 60) c) ∧ w' = w := by
  unfold maxLen at hm
  by_cases h : n ≤ 60
  · have e1 : min n 60 = n := by omega
    have e2 : min (n : Int) 60 = (n : Int) := by omega
    rw [e1]
    have hci : (n : Int) ≤ (c : Int) := by omega
    have hn0 : (0 : Int) ≤ (n : Int) := by omega
    clear h e1 hc
    go_enter Try.func11, Try.ntmps11
    go_wp2
    go_ret
    exact ⟨rfl, rfl⟩
  · have e1 : min n 60 = 60 := by omega
    have e2 : min (n : Int) 60 = 60 := by omega
    rw [e1]
    have hci : (60 : Int) ≤ (c : Int) := by omega
    have hcn : 60 ≤ c := by omega
    clear h e1 hc
    go_enter Try.func11, Try.ntmps11
    go_wp2
    go_ret
    exact ⟨rfl, rfl⟩
theorem few8_any (A : Option Addr) (c : Nat) (gs : List Gd) (w : World) (hc : gs.length ≤ c) (hm : gs.length ≤ maxLen) :
    Calls Try.prog 11 #[.slice A gs.length c] w fun e w' => e = .returned (.slice A (gs.take 60).length c) ∧ w' = w := by
  have := few8_ A c gs.length w hc hm
  rw [List.length_take, Nat.min_comm]
  exact this
/-- Tree, whatever the nodes: what it tells. -/
def TrQ (gs : List Gd) (most : Int) (w : World) (e : Ending) (w' : World) : Prop :=
  Below w.heap.size w w' ∧ ((e = .returned (.tuple #[.slice none 0 0, .int .i64 1]) ∧ ¬ (PlainG gs ∧ 1 ≤ most ∧ most ≤ 4096)) ∨
    (∃ (ns : List Nd) (m : Nat), most = (m : Int) ∧ 1 ≤ m ∧ m ≤ 4096 ∧ GN gs ns ∧ TreeN ns ∧ PlainN ns ∧ ((planN ns m = none ∧ e = .returned (.tuple #[.slice none 0 0, .int .i64 3])) ∨
      (∃ o A c go, planN ns m = some o ∧ e = .returned (.tuple #[.slice A go.length c, .int .i64 0]) ∧ Nds w' w'.heap.size A go ∧ GN go o ∧ go.length ≤ c))))
theorem tree_q (A : Option Addr) (c : Nat) (gs : List Gd) (most : Int) (w : World) (hN : Nds w w.heap.size A gs) (hl : gs.length ≤ 2000) (hsm : Small gs) :
    Calls Try.prog 10 #[.slice A gs.length c, .int .i64 most] w fun e w' => TrQ gs most w e w' := by
  by_cases h : PlainG gs ∧ 1 ≤ most ∧ most ≤ 4096
  · obtain ⟨hp, h1, h2⟩ := h
    obtain ⟨ns0, hg0, -⟩ := hp.2
    obtain ⟨ns, hg, ht, hpn⟩ := tree_of hg0 hp
    obtain ⟨m, rfl⟩ : ∃ m : Nat, most = m := ⟨most.toNat, by omega⟩
    refine (tree_ok A c gs ns m (by omega) (by omega) w hN hg ht hpn).mono ?_
    rintro e w' ⟨hb, h3⟩
    refine ⟨hb, .inr ⟨ns, m, rfl, by omega, by omega, hg, ht, hpn, ?_⟩⟩
    cases hq : planN ns m with
    | none =>
      rw [hq] at h3
      exact .inl ⟨rfl, h3⟩
    | some o =>
      rw [hq] at h3
      obtain ⟨A5, c5, go, e1, e2, e3, e4⟩ := h3
      exact .inr ⟨o, A5, c5, go, rfl, e1, e2, e3, e4⟩
  · refine (tree_bad A c gs most w hN hl hsm (fun q => by
      rcases Int.lt_or_le most 1 with r | r
      · exact .inl r
      · exact .inr (by
          rcases Int.lt_or_le 4096 most with r2 | r2
          · exact r2
          · exact absurd ⟨q, r, r2⟩ h))).mono ?_
    rintro e w' ⟨he, hb⟩
    exact ⟨hb, .inl ⟨he, h⟩⟩
theorem mod_most {x : Int} (h0 : 0 ≤ x) (n : Int) (hn : 1 ≤ n) : ∃ k : Nat, Int.tmod x n = (k : Int) ∧ (k : Int) < n := by
  have h1 := Int.tmod_nonneg n h0
  have h2 := Int.tmod_lt_of_pos x (b := n) (by omega)
  exact ⟨(Int.tmod x n).toNat, by omega, by omega⟩
end Go.Proofs.Ytdaaigkmlbpbgaa.Sy.Pl

namespace Go.Proofs.Ytdaaigkmlbpbgaa.Sy.Pl
open Go.RowKit Go.Proofs.Ytdaaigkmlbpbgaa.Sy.Ap Go.Proofs.Ytdaaigkmlbpbgaa.Sy.Lg
set_option maxRecDepth 100000
set_option linter.unusedVariables false

def starB (n : Nd) : Bool := n.op == 5 && n.lo == 0 && n.hi == -1
def ctB (ns : List Nd) (n : Nd) : Bool := n.op == 5 && (ns.getD (n.l.getD 0 0) nd00).op == 2 && decide (1 ≤ n.lo) && decide (2 ≤ n.hi)
/-- Is it a plan? -/
def Rp (ns : List Nd) : Prop := ∀ n ∈ ns, n.op = 5 → starB n = true ∨ ctB ns n = true
def RgtP (gs : List Gd) : Prop := ∃ ns, GN gs ns ∧ TreeN ns ∧ PlainN ns ∧ Rp ns
/-- The node k of a tree, as a call has it. -/
abbrev ndA (g : Gd) (kA : Option Addr) (mm kc : Nat) : Array Value := #[.int .u8 g.op, .int .u64 (W g.s 0), .int .u64 (W g.s 1), .int .u64 (W g.s 2), .int .u64 (W g.s 3), .slice kA mm kc, .int .i64 g.lo, .int .i64 g.hi, .string g.nm]
set_option maxHeartbeats 400000 in
theorem star_any (g : Gd) (kA : Option Addr) (mm kc : Nat) (w : World) : Calls Try.prog 29 #[.agg (ndA g kA mm kc)] w fun e w' => e = .returned (.bool (g.op == 5 && g.lo == 0 && g.hi == -1)) ∧ Below w.heap.size w w' := by
  have R := RowA.new w 38 (ndA g kA mm kc)
  have d0 : (w.alloc (.cells (ndA g kA mm kc) 38)).cell? ⟨w.heap.size, 0, none⟩ = some (.int .u8 g.op) := R.at_ rfl
  have d6 : (w.alloc (.cells (ndA g kA mm kc) 38)).cell? ⟨w.heap.size, 6, none⟩ = some (.int .i64 g.lo) := R.at_ rfl
  have d7 : (w.alloc (.cells (ndA g kA mm kc) 38)).cell? ⟨w.heap.size, 7, none⟩ = some (.int .i64 g.hi) := R.at_ rfl
  clear R
  by_cases h5 : g.op = 5
  · have h5b : (g.op == 5) = true := by simp [h5]
    by_cases h6 : g.lo = 0
    · have h6b : (g.lo == 0) = true := by simp [h6]
      go_enter Try.func29, Try.ntmps29
      go_wp2
      go_ret
      exact ⟨by simp [h5, h6], (Below.refl _ _).alloc (Nat.le_refl _) _⟩
    · have h6b : (g.lo == 0) = false := by simp [h6]
      go_enter Try.func29, Try.ntmps29
      go_wp2
      go_ret
      exact ⟨by simp [h6], (Below.refl _ _).alloc (Nat.le_refl _) _⟩
  · have h5b : (g.op == 5) = false := by simp [h5]
    go_enter Try.func29, Try.ntmps29
    go_wp2
    go_ret
    exact ⟨by simp [h5], (Below.refl _ _).alloc (Nat.le_refl _) _⟩
set_option maxHeartbeats 400000 in
/-- Of a node of a tree (that is no Rep, or whose kid is there). -/
theorem cnt_any (g : Gd) (kA : Option Addr) (mm kc : Nat) (b1 o1 n c : Nat) (x : Int) (w : World) (hk : g.op = 5 → ∃ gk ok k, kA = some ⟨gk, ok, none⟩ ∧ 0 < mm ∧ k < n ∧ gk < w.heap.size ∧ b1 < w.heap.size ∧ w.cell? ⟨gk, ok, none⟩ = some (.int .i64 ((k : Nat) : Int)) ∧ w.cell? ⟨b1, o1 + k * 9, none⟩ = some (.int .u8 x)) :
    Calls Try.prog 30 #[.agg (ndA g kA mm kc), .slice (some ⟨b1, o1, none⟩) n c] w fun e w' => e = .returned (.bool (g.op == 5 && x == 2 && decide (1 ≤ g.lo) && decide (2 ≤ g.hi))) ∧ Below w.heap.size w w' := by
  have R := RowA.new w 38 (ndA g kA mm kc)
  have hb : Below w.heap.size w (w.alloc (.cells (ndA g kA mm kc) 38)) := (Below.refl _ _).alloc (Nat.le_refl _) _
  have d0 : (w.alloc (.cells (ndA g kA mm kc) 38)).cell? ⟨w.heap.size, 0, none⟩ = some (.int .u8 g.op) := R.at_ rfl
  have d5 : (w.alloc (.cells (ndA g kA mm kc) 38)).cell? ⟨w.heap.size, 5, none⟩ = some (.slice kA mm kc) := R.at_ rfl
  have d6 : (w.alloc (.cells (ndA g kA mm kc) 38)).cell? ⟨w.heap.size, 6, none⟩ = some (.int .i64 g.lo) := R.at_ rfl
  have d7 : (w.alloc (.cells (ndA g kA mm kc) 38)).cell? ⟨w.heap.size, 7, none⟩ = some (.int .i64 g.hi) := R.at_ rfl
  clear R
  by_cases h5 : g.op = 5
  · have h5b : (g.op == 5) = true := by simp [h5]
    obtain ⟨gk, ok, k, rfl, hmm, hkn, hgk, hb1, q1, q2⟩ := hk h5
    have e1 := (hb.cell (p := ⟨gk, ok, none⟩) hgk).trans q1
    have e2 := (hb.cell (p := ⟨b1, o1 + k * 9, none⟩) hb1).trans q2
    have hki : (k : Int) < (n : Int) := by omega
    have hmi : (0 : Int) < (mm : Int) := by omega
    have HB := hidd hb
    clear hk q1 q2 hb
    by_cases h2 : x = 2
    · subst h2
      by_cases h6 : 1 ≤ g.lo
      · go_enter Try.func30, Try.ntmps30
        go_wp2
        go_ret
        exact ⟨by simp [h5, h6], HB.out⟩
      · go_enter Try.func30, Try.ntmps30
        go_wp2
        go_ret
        have h7 : decide (1 ≤ g.lo) = false := decide_eq_false (by omega)
        exact ⟨by rw [h7]; simp, HB.out⟩
    · have h2b : (x == 2) = false := by simp [h2]
      go_enter Try.func30, Try.ntmps30
      go_wp2
      go_ret
      exact ⟨by simp [h2], HB.out⟩
  · have h5b : (g.op == 5) = false := by simp [h5]
    go_enter Try.func30, Try.ntmps30
    go_wp2
    go_ret
    exact ⟨by simp [h5], hb⟩
/-- The nodes of a tree, as a call reads them: what isCounted owes of node k. -/
theorem cnt_nd {c : Nat} {gs : List Gd} {ns : List Nd} (hg : GN gs ns) (ht : TreeN ns) {k : Nat} (hk : k < gs.length) {b1 o1 : Nat} {w w' : World} (hx : Nds w w.heap.size (some ⟨b1, o1, none⟩) gs) (hb : Below w.heap.size w w') {kA : Option Addr} {kc : Nat} (hI : Its w w.heap.size kA (gs.getD k gd0).l) :
    Calls Try.prog 30 #[.agg (ndA (gs.getD k gd0) kA (gs.getD k gd0).l.length kc), .slice (some ⟨b1, o1, none⟩) gs.length c] w' fun e w'' => e = .returned (.bool (ctB ns (ns.getD k nd0))) ∧ Below w'.heap.size w' w'' := by
  have hkn : k < ns.length := by rw [← hg.1]; exact hk
  have h1 := hg.2 k hk
  have e0 : ns.getD k nd0 = ns[k] := by rw [List.getD_eq_getElem?_getD, List.getElem?_eq_getElem hkn]; rfl
  rw [e0] at h1 ⊢
  have hnk : ns[k]? = some ns[k] := List.getElem?_eq_getElem hkn
  have hlow := ht.low k _ hnk
  by_cases h5 : ns[k].op = 5
  · obtain ⟨hl1, -⟩ := rep_one (ht.shp _ (List.getElem_mem hkn)) h5
    obtain ⟨j, hj⟩ : ∃ j, ns[k].l = [j] := List.length_eq_one_iff.1 hl1
    have hjk : j < k := hlow.2 j (by rw [hj]; exact List.mem_singleton.2 rfl)
    have hjg : j < gs.length := by omega
    have hjop : (gs.getD j gd0).op = ((ns.getD j nd00).op : Int) := (hg.2 j hjg).op
    have hl : (gs.getD k gd0).l = [(j : Int)] := by rw [h1.l, hj]; rfl
    obtain ⟨gk, ok, rfl, hgk, hcell⟩ := hI (by rw [hl]; simp)
    have q1 := hcell 0 (by rw [hl]; simp)
    rw [hl] at q1
    have q1 : w.cell? ⟨gk, ok, none⟩ = some (.int .i64 (j : Int)) := q1
    obtain ⟨b2, o2, e2, hb2, A3, c3, -, r1⟩ := hx.at_ (k := j) hjg
    injection e2 with e2
    injection e2 with e3 e4
    subst e3 e4
    have q2 : w.cell? ⟨b1, o1 + j * 9, none⟩ = some (.int .u8 (gs.getD j gd0).op) := r1 0 _ rfl
    rw [hjop] at q2
    refine (cnt_any (gs.getD k gd0) (some ⟨gk, ok, none⟩) _ kc b1 o1 gs.length c ((ns.getD j nd00).op : Int) w' (fun _ => ⟨gk, ok, j, rfl, by rw [hl]; simp, hjg, Nat.lt_of_lt_of_le hgk hb.size, Nat.lt_of_lt_of_le hb2 hb.size, (hb.cell (by exact hgk)).trans q1, (hb.cell (by exact hb2)).trans q2⟩)).mono ?_
    rintro e w2 ⟨rfl, b2⟩
    refine ⟨?_, b2⟩
    have hh : ns[k].l.getD 0 0 = j := by rw [hj]; rfl
    unfold ctB
    have e : (((ns.getD j nd00).op : Int) == 2) = ((ns.getD j nd00).op == 2) := by
      rw [Bool.eq_iff_iff]
      simp only [beq_iff_eq]
      omega
    have e5 : ((gs.getD k gd0).op == 5) = true := by rw [h1.op, h5]; rfl
    have e6 : (ns[k].op == 5) = true := by rw [h5]; rfl
    rw [hh, e, e5, e6, h1.lo, h1.hi]
  · have h5' : (gs.getD k gd0).op ≠ 5 := by rw [h1.op]; omega
    refine (cnt_any (gs.getD k gd0) kA _ kc b1 o1 gs.length c 0 w' (fun q => absurd q h5')).mono ?_
    rintro e w2 ⟨rfl, b2⟩
    refine ⟨?_, b2⟩
    unfold ctB
    have e1 : ((gs.getD k gd0).op == 5) = false := beq_eq_false_iff_ne.2 h5'
    have e2 : (ns[k].op == 5) = false := by simp [h5]
    rw [e1, e2]
    rfl
end Go.Proofs.Ytdaaigkmlbpbgaa.Sy.Pl

/- The landed Right and Counted of plans. -/
import Derived.Test.YtahhiajliomcfaaPJn
namespace Go.Proofs.Ytahhiajliomcfaa.Sy.Pl
open Go.RowKit Go.Proofs.Ytahhiajliomcfaa.Sy.Ap Go.Proofs.Ytahhiajliomcfaa.Sy.Lg
set_option maxRecDepth 100000
set_option linter.unusedVariables false

def starB (n : Nd) : Bool := n.op == 5 && n.lo == 0 && n.hi == -1
def ctB (ns : List Nd) (n : Nd) : Bool := n.op == 5 && (ns.getD (n.l.getD 0 0) nd00).op == 2 && decide (1 ≤ n.lo) && decide (2 ≤ n.hi)
/-- Is it a plan? -/
def Rp (ns : List Nd) : Prop := ∀ n ∈ ns, n.op = 5 → starB n = true ∨ ctB ns n = true
def RgtP (gs : List Gd) : Prop := ∃ ns, GN gs ns ∧ TreeN ns ∧ PlainN ns ∧ Rp ns
/-- The node k of a tree, as a call has it. -/
abbrev ndA (g : Gd) (kA : Option Addr) (mm kc : Nat) : Array Value := #[.int .u8 g.op, .int .u64 (W g.s 0), .int .u64 (W g.s 1), .int .u64 (W g.s 2), .int .u64 (W g.s 3), .slice kA mm kc, .int .i64 g.lo, .int .i64 g.hi, .string g.nm]
set_option maxHeartbeats 400000 in
theorem star_any (g : Gd) (kA : Option Addr) (mm kc : Nat) (w : World) : Calls Try.prog 43 #[.agg (ndA g kA mm kc)] w fun e w' => e = .returned (.bool (g.op == 5 && g.lo == 0 && g.hi == -1)) ∧ Below w.heap.size w w' := by
  have R := RowA.new w 42 (ndA g kA mm kc)
  have d0 : (w.alloc (.cells (ndA g kA mm kc) 42)).cell? ⟨w.heap.size, 0, none⟩ = some (.int .u8 g.op) := R.at_ rfl
  have d6 : (w.alloc (.cells (ndA g kA mm kc) 42)).cell? ⟨w.heap.size, 6, none⟩ = some (.int .i64 g.lo) := R.at_ rfl
  have d7 : (w.alloc (.cells (ndA g kA mm kc) 42)).cell? ⟨w.heap.size, 7, none⟩ = some (.int .i64 g.hi) := R.at_ rfl
  clear R
  by_cases h5 : g.op = 5
  · have h5b : (g.op == 5) = true := by simp [h5]
    by_cases h6 : g.lo = 0
    · have h6b : (g.lo == 0) = true := by simp [h6]
      go_enter Try.func43, Try.ntmps43
      go_wp2
      go_ret
      exact ⟨by simp [h5, h6], (Below.refl _ _).alloc (Nat.le_refl _) _⟩
    · have h6b : (g.lo == 0) = false := by simp [h6]
      go_enter Try.func43, Try.ntmps43
      go_wp2
      go_ret
      exact ⟨by simp [h6], (Below.refl _ _).alloc (Nat.le_refl _) _⟩
  · have h5b : (g.op == 5) = false := by simp [h5]
    go_enter Try.func43, Try.ntmps43
    go_wp2
    go_ret
    exact ⟨by simp [h5], (Below.refl _ _).alloc (Nat.le_refl _) _⟩
set_option maxHeartbeats 400000 in
/-- Of a node of a tree (that is no Rep, or whose kid is there). -/
theorem cnt_any (g : Gd) (kA : Option Addr) (mm kc : Nat) (b1 o1 n c : Nat) (x : Int) (w : World) (hk : g.op = 5 → ∃ gk ok k, kA = some ⟨gk, ok, none⟩ ∧ 0 < mm ∧ k < n ∧ gk < w.heap.size ∧ b1 < w.heap.size ∧ w.cell? ⟨gk, ok, none⟩ = some (.int .i64 ((k : Nat) : Int)) ∧ w.cell? ⟨b1, o1 + k * 9, none⟩ = some (.int .u8 x)) :
    Calls Try.prog 44 #[.agg (ndA g kA mm kc), .slice (some ⟨b1, o1, none⟩) n c] w fun e w' => e = .returned (.bool (g.op == 5 && x == 2 && decide (1 ≤ g.lo) && decide (2 ≤ g.hi))) ∧ Below w.heap.size w w' := by
  have R := RowA.new w 42 (ndA g kA mm kc)
  have hb : Below w.heap.size w (w.alloc (.cells (ndA g kA mm kc) 42)) := (Below.refl _ _).alloc (Nat.le_refl _) _
  have d0 : (w.alloc (.cells (ndA g kA mm kc) 42)).cell? ⟨w.heap.size, 0, none⟩ = some (.int .u8 g.op) := R.at_ rfl
  have d5 : (w.alloc (.cells (ndA g kA mm kc) 42)).cell? ⟨w.heap.size, 5, none⟩ = some (.slice kA mm kc) := R.at_ rfl
  have d6 : (w.alloc (.cells (ndA g kA mm kc) 42)).cell? ⟨w.heap.size, 6, none⟩ = some (.int .i64 g.lo) := R.at_ rfl
  have d7 : (w.alloc (.cells (ndA g kA mm kc) 42)).cell? ⟨w.heap.size, 7, none⟩ = some (.int .i64 g.hi) := R.at_ rfl
  clear R
  by_cases h5 : g.op = 5
  · have h5b : (g.op == 5) = true := by simp [h5]
    obtain ⟨gk, ok, k, rfl, hmm, hkn, hgk, hb1, q1, q2⟩ := hk h5
    have e1 := (hb.cell (p := ⟨gk, ok, none⟩) hgk).trans q1
    have e2 := (hb.cell (p := ⟨b1, o1 + k * 9, none⟩) hb1).trans q2
    have hki : (k : Int) < (n : Int) := by omega
    have hmi : (0 : Int) < (mm : Int) := by omega
    have HB := hidd hb
    clear hk q1 q2 hb
    by_cases h2 : x = 2
    · subst h2
      by_cases h6 : 1 ≤ g.lo
      · go_enter Try.func44, Try.ntmps44
        go_wp2
        go_ret
        exact ⟨by simp [h5, h6], HB.out⟩
      · go_enter Try.func44, Try.ntmps44
        go_wp2
        go_ret
        have h7 : decide (1 ≤ g.lo) = false := decide_eq_false (by omega)
        exact ⟨by rw [h7]; simp, HB.out⟩
    · have h2b : (x == 2) = false := by simp [h2]
      go_enter Try.func44, Try.ntmps44
      go_wp2
      go_ret
      exact ⟨by simp [h2], HB.out⟩
  · have h5b : (g.op == 5) = false := by simp [h5]
    go_enter Try.func44, Try.ntmps44
    go_wp2
    go_ret
    exact ⟨by simp [h5], hb⟩
/-- The nodes of a tree, as a call reads them: what isCounted owes of node k. -/
theorem cnt_nd {c : Nat} {gs : List Gd} {ns : List Nd} (hg : GN gs ns) (ht : TreeN ns) {k : Nat} (hk : k < gs.length) {b1 o1 : Nat} {w w' : World} (hx : Nds w w.heap.size (some ⟨b1, o1, none⟩) gs) (hb : Below w.heap.size w w') {kA : Option Addr} {kc : Nat} (hI : Its w w.heap.size kA (gs.getD k gd0).l) :
    Calls Try.prog 44 #[.agg (ndA (gs.getD k gd0) kA (gs.getD k gd0).l.length kc), .slice (some ⟨b1, o1, none⟩) gs.length c] w' fun e w'' => e = .returned (.bool (ctB ns (ns.getD k nd0))) ∧ Below w'.heap.size w' w'' := by
  have hkn : k < ns.length := by rw [← hg.1]; exact hk
  have h1 := hg.2 k hk
  have e0 : ns.getD k nd0 = ns[k] := by rw [List.getD_eq_getElem?_getD, List.getElem?_eq_getElem hkn]; rfl
  rw [e0] at h1 ⊢
  have hnk : ns[k]? = some ns[k] := List.getElem?_eq_getElem hkn
  have hlow := ht.low k _ hnk
  by_cases h5 : ns[k].op = 5
  · obtain ⟨hl1, -⟩ := rep_one (ht.shp _ (List.getElem_mem hkn)) h5
    obtain ⟨j, hj⟩ : ∃ j, ns[k].l = [j] := List.length_eq_one_iff.1 hl1
    have hjk : j < k := hlow.2 j (by rw [hj]; exact List.mem_singleton.2 rfl)
    have hjg : j < gs.length := by omega
    have hjop : (gs.getD j gd0).op = ((ns.getD j nd00).op : Int) := (hg.2 j hjg).op
    have hl : (gs.getD k gd0).l = [(j : Int)] := by rw [h1.l, hj]; rfl
    obtain ⟨gk, ok, rfl, hgk, hcell⟩ := hI (by rw [hl]; simp)
    have q1 := hcell 0 (by rw [hl]; simp)
    rw [hl] at q1
    have q1 : w.cell? ⟨gk, ok, none⟩ = some (.int .i64 (j : Int)) := q1
    obtain ⟨b2, o2, e2, hb2, A3, c3, -, r1⟩ := hx.at_ (k := j) hjg
    injection e2 with e2
    injection e2 with e3 e4
    subst e3 e4
    have q2 : w.cell? ⟨b1, o1 + j * 9, none⟩ = some (.int .u8 (gs.getD j gd0).op) := r1 0 _ rfl
    rw [hjop] at q2
    refine (cnt_any (gs.getD k gd0) (some ⟨gk, ok, none⟩) _ kc b1 o1 gs.length c ((ns.getD j nd00).op : Int) w' (fun _ => ⟨gk, ok, j, rfl, by rw [hl]; simp, hjg, Nat.lt_of_lt_of_le hgk hb.size, Nat.lt_of_lt_of_le hb2 hb.size, (hb.cell (by exact hgk)).trans q1, (hb.cell (by exact hb2)).trans q2⟩)).mono ?_
    rintro e w2 ⟨rfl, b2⟩
    refine ⟨?_, b2⟩
    have hh : ns[k].l.getD 0 0 = j := by rw [hj]; rfl
    unfold ctB
    have e : (((ns.getD j nd00).op : Int) == 2) = ((ns.getD j nd00).op == 2) := by
      rw [Bool.eq_iff_iff]
      simp only [beq_iff_eq]
      omega
    have e5 : ((gs.getD k gd0).op == 5) = true := by rw [h1.op, h5]; rfl
    have e6 : (ns[k].op == 5) = true := by rw [h5]; rfl
    rw [hh, e, e5, e6, h1.lo, h1.hi]
  · have h5' : (gs.getD k gd0).op ≠ 5 := by rw [h1.op]; omega
    refine (cnt_any (gs.getD k gd0) kA _ kc b1 o1 gs.length c 0 w' (fun q => absurd q h5')).mono ?_
    rintro e w2 ⟨rfl, b2⟩
    refine ⟨?_, b2⟩
    unfold ctB
    have e1 : ((gs.getD k gd0).op == 5) = false := beq_eq_false_iff_ne.2 h5'
    have e2 : (ns[k].op == 5) = false := by simp [h5]
    rw [e1, e2]
    rfl
end Go.Proofs.Ytahhiajliomcfaa.Sy.Pl

namespace Go.Proofs.Ytahhiajliomcfaa.Sy.Pl
open Go.RowKit Go.Proofs.Ytahhiajliomcfaa.Sy.Ap Go.Proofs.Ytahhiajliomcfaa.Sy.Lg
set_option maxRecDepth 100000
set_option linter.unusedVariables false

/-- A repetition that no plan has. -/
def badB (ns : List Nd) (n : Nd) : Bool := n.op == 5 && !starB n && !ctB ns n
theorem rp_iff {ns : List Nd} : Rp ns ↔ ∀ k, k < ns.length → badB ns (ns.getD k nd0) = false := by
  constructor
  · intro h k hk
    have e : ns.getD k nd0 = ns[k] := by rw [List.getD_eq_getElem?_getD, List.getElem?_eq_getElem hk]; rfl
    have hm : ns.getD k nd0 ∈ ns := by rw [e]; exact List.getElem_mem hk
    unfold badB
    by_cases h5 : (ns.getD k nd0).op = 5
    · rcases h _ hm h5 with q | q
      · rw [q, Bool.not_true, Bool.and_false, Bool.false_and]
      · rw [q, Bool.not_true, Bool.and_false]
    · have : ((ns.getD k nd0).op == 5) = false := beq_eq_false_iff_ne.2 h5
      rw [this]; rfl
  · intro h n hn h5
    obtain ⟨k, hk, rfl⟩ := List.getElem_of_mem hn
    have := h k hk
    have e : ns.getD k nd0 = ns[k] := by rw [List.getD_eq_getElem?_getD, List.getElem?_eq_getElem hk]; rfl
    rw [e] at this
    unfold badB at this
    have h6 : (ns[k].op == 5) = true := by rw [h5]; rfl
    rw [h6] at this
    cases hs : starB ns[k] with
    | true => exact .inl rfl
    | false =>
      rw [hs] at this
      cases hc : ctB ns ns[k] with
      | true => exact .inr rfl
      | false => rw [hc] at this; cases this
section
variable {c : Nat} {gs : List Gd} {ns : List Nd}
set_option maxHeartbeats 400000 in
/-- What Right asks of a node: it is handed the node, and where the tree's slice lies. -/
theorem rg1_any (hg : GN gs ns) (ht : TreeN ns) {k q : Nat} (hk : k < gs.length) {b1 o1 : Nat} {w : World} (hx : Nds w q (some ⟨b1, o1, none⟩) gs) (hq : RowA w q 36 #[.slice (some ⟨b1, o1, none⟩) gs.length c]) {kA : Option Addr} {kc : Nat} (hI : Its w q kA (gs.getD k gd0).l) :
    Calls Try.prog 42 #[.agg (ndA (gs.getD k gd0) kA (gs.getD k gd0).l.length kc), .pointer (some ⟨q, 0, none⟩)] w fun e w' => e = .returned (.bool (badB ns (ns.getD k nd0))) ∧ Below w.heap.size w w' := by
  have hqs := hq.lt
  have hx2 := hx.more (Nat.le_of_lt hqs)
  have hI2 := hI.more (Nat.le_of_lt hqs)
  have HC : Hid (∀ u, Below w.heap.size w u → Calls Try.prog 44 #[.agg (ndA (gs.getD k gd0) kA (gs.getD k gd0).l.length kc), .slice (some ⟨b1, o1, none⟩) gs.length c] u fun e w'' => e = .returned (.bool (ctB ns (ns.getD k nd0))) ∧ Below u.heap.size u w'') := fun u hb => cnt_nd hg ht hk hx2 hb hI2
  have h1 := hg.2 k hk
  have HE : Hid ((gs.getD k gd0).op = ((ns.getD k nd0).op : Int) ∧ (gs.getD k gd0).lo = (ns.getD k nd0).lo ∧ (gs.getD k gd0).hi = (ns.getD k nd0).hi) := ⟨h1.op, h1.lo, h1.hi⟩
  have HSB : Hid (∀ z : Bool, z = ((gs.getD k gd0).op == 5 && (gs.getD k gd0).lo == 0 && (gs.getD k gd0).hi == -1) → z = starB (ns.getD k nd0)) := fun z hz => by
    rw [hz]
    unfold starB
    rw [HE.out.1, HE.out.2.1, HE.out.2.2]
    have : (((ns.getD k nd0).op : Int) == 5) = ((ns.getD k nd0).op == 5) := by
      rw [Bool.eq_iff_iff]
      simp only [beq_iff_eq]
      omega
    rw [this]
  have HST : Hid (∀ u, Calls Try.prog 43 #[.agg (ndA (gs.getD k gd0) kA (gs.getD k gd0).l.length kc)] u fun e w' => e = .returned (.bool (starB (ns.getD k nd0))) ∧ Below u.heap.size u w') := fun u => (star_any (gs.getD k gd0) kA _ kc u).mono fun e w' ⟨h, hb⟩ => ⟨by rw [h, HSB.out _ rfl], hb⟩
  have d1 : ∀ o : Obj, (w.alloc o).cell? ⟨q, 0, none⟩ = some (.slice (some ⟨b1, o1, none⟩) gs.length c) := fun o => (((Below.refl w.heap.size w).alloc (Nat.le_refl _) o).cell (p := ⟨q, 0, none⟩) hqs).trans (hq.at_ rfl)
  have d1 := d1 (.cells (ndA (gs.getD k gd0) kA (gs.getD k gd0).l.length kc) 42)
  have HOP := hidd h1.op
  clear hx hx2 hI hI2 hg ht hk h1 hq HSB
  have HBD : Hid (∀ z, z = badB ns (ns.getD k nd0) → z = ((ns.getD k nd0).op == 5 && !starB (ns.getD k nd0) && !ctB ns (ns.getD k nd0))) := fun z hz => hz
  generalize hB : badB ns (ns.getD k nd0) = BB
  have HBB : Hid (BB = ((ns.getD k nd0).op == 5 && !starB (ns.getD k nd0) && !ctB ns (ns.getD k nd0))) := hB.symm
  clear hB HBD HE
  generalize hm : (gs.getD k gd0).l.length = m at *
  generalize gs.getD k gd0 = g at *
  generalize ctB ns (ns.getD k nd0) = cb at *
  generalize ns.getD k nd0 = nd at *
  generalize starB nd = sb at *
  generalize gs.length = n at *
  have R := RowA.new w 42 (ndA g kA m kc)
  have hb : Below w.heap.size w (w.alloc (.cells (ndA g kA m kc) 42)) := (Below.refl _ _).alloc (Nat.le_refl _) _
  have hw : w.heap.size < (w.alloc (.cells (ndA g kA m kc) 42)).heap.size := by simp
  obtain ⟨f0, f1, f2, f3, f4, f5, f6, f7, f8⟩ : (w.alloc (.cells (ndA g kA m kc) 42)).cell? ⟨w.heap.size, 0, none⟩ = some (.int .u8 g.op) ∧ (w.alloc (.cells (ndA g kA m kc) 42)).cell? ⟨w.heap.size, 1, none⟩ = some (.int .u64 (W g.s 0)) ∧ (w.alloc (.cells (ndA g kA m kc) 42)).cell? ⟨w.heap.size, 2, none⟩ = some (.int .u64 (W g.s 1)) ∧ (w.alloc (.cells (ndA g kA m kc) 42)).cell? ⟨w.heap.size, 3, none⟩ = some (.int .u64 (W g.s 2)) ∧ (w.alloc (.cells (ndA g kA m kc) 42)).cell? ⟨w.heap.size, 4, none⟩ = some (.int .u64 (W g.s 3)) ∧ (w.alloc (.cells (ndA g kA m kc) 42)).cell? ⟨w.heap.size, 5, none⟩ = some (.slice kA m kc) ∧ (w.alloc (.cells (ndA g kA m kc) 42)).cell? ⟨w.heap.size, 6, none⟩ = some (.int .i64 g.lo) ∧ (w.alloc (.cells (ndA g kA m kc) 42)).cell? ⟨w.heap.size, 7, none⟩ = some (.int .i64 g.hi) ∧ (w.alloc (.cells (ndA g kA m kc) 42)).cell? ⟨w.heap.size, 8, none⟩ = some (.string g.nm) := ⟨R.at_ rfl, R.at_ rfl, R.at_ rfl, R.at_ rfl, R.at_ rfl, R.at_ rfl, R.at_ rfl, R.at_ rfl, R.at_ rfl⟩
  have HR := hidd R
  have HB := hidd hb
  clear R hb
  by_cases h5 : nd.op = 5
  · have h5b : (g.op == 5) = true := by rw [HOP.out, h5]; rfl
    have h5c : (nd.op == 5) = true := by rw [h5]; rfl
    go_enter Try.func42, Try.ntmps42
    go_wp2_with fail
    refine (HST.out _).mono ?_
    rintro e w2 ⟨rfl, b2⟩
    cases sb with
    | true =>
      have HB2 := hidd (HB.out.trans (b2.mono (Nat.le_of_lt hw)))
      clear b2 HST HC
      go_wp2
      go_ret
      exact ⟨by rw [HBB.out, h5c]; rfl, HB2.out⟩
    | false =>
      have HB2 := hidd (HB.out.trans (b2.mono (Nat.le_of_lt hw)))
      have hc := HC.out w2 HB2.out
      have R2 := HR.out.below b2 HR.out.lt
      have e1 := (b2.cell (p := ⟨q, 0, none⟩) (Nat.lt_trans hqs hw)).trans d1
      obtain ⟨y0, y1, y2, y3, y4, y5, y6, y7, y8⟩ : w2.cell? ⟨w.heap.size, 0, none⟩ = some (.int .u8 g.op) ∧ w2.cell? ⟨w.heap.size, 1, none⟩ = some (.int .u64 (W g.s 0)) ∧ w2.cell? ⟨w.heap.size, 2, none⟩ = some (.int .u64 (W g.s 1)) ∧ w2.cell? ⟨w.heap.size, 3, none⟩ = some (.int .u64 (W g.s 2)) ∧ w2.cell? ⟨w.heap.size, 4, none⟩ = some (.int .u64 (W g.s 3)) ∧ w2.cell? ⟨w.heap.size, 5, none⟩ = some (.slice kA m kc) ∧ w2.cell? ⟨w.heap.size, 6, none⟩ = some (.int .i64 g.lo) ∧ w2.cell? ⟨w.heap.size, 7, none⟩ = some (.int .i64 g.hi) ∧ w2.cell? ⟨w.heap.size, 8, none⟩ = some (.string g.nm) := ⟨R2.at_ rfl, R2.at_ rfl, R2.at_ rfl, R2.at_ rfl, R2.at_ rfl, R2.at_ rfl, R2.at_ rfl, R2.at_ rfl, R2.at_ rfl⟩
      clear b2 R2 f0 f1 f2 f3 f4 f5 f6 f7 f8 d1 HR HC HST
      go_wp2_with fail
      refine hc.mono ?_
      rintro e w3 ⟨rfl, b3⟩
      have HB3 := hidd (HB2.out.trans (b3.mono HB2.out.size))
      clear b3 hc
      go_wp2
      go_ret
      exact ⟨by rw [HBB.out, h5c]; cases cb <;> rfl, HB3.out⟩
  · have h5b : (g.op == 5) = false := by rw [HOP.out]; exact beq_eq_false_iff_ne.2 (by omega)
    have h5c : (nd.op == 5) = false := beq_eq_false_iff_ne.2 h5
    clear HST HC HR
    go_enter Try.func42, Try.ntmps42
    go_wp2
    go_ret
    exact ⟨by rw [HBB.out, h5c]; rfl, HB.out⟩
end
end Go.Proofs.Ytahhiajliomcfaa.Sy.Pl

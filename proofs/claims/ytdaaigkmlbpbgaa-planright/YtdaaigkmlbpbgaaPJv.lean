/- The landed Right and Counted of plans: whole. -/
import Derived.Test.YtdaaigkmlbpbgaaPJr
namespace Go.Proofs.Ytdaaigkmlbpbgaa.Sy.Pl
open Go.RowKit Go.Proofs.Ytdaaigkmlbpbgaa.Sy.Ap Go.Proofs.Ytdaaigkmlbpbgaa.Sy.Lg
set_option maxRecDepth 100000
set_option linter.unusedVariables false

/-- A repetition that no plan has. -/
def badB (ns : List Nd) (n : Nd) : Bool := n.op == 5 && !starB n && !ctB ns n
theorem rp_iff {ns : List Nd} : Rp ns ↔ ∀ k, k < ns.length → badB ns (ns.getD k nd0) = false := by
  constructor
  · intro h k hk
    have e : ns.getD k nd0 = ns[k] := by rw [List.getD_eq_getElem?_getD, List.getElem?_eq_getElem hk]; rfl
    have hm : ns.getD k nd0 ∈ ns := by rw [e]; exact List.getElem_mem hk
    unfold badB
    by_cases h5 : (ns.getD k nd0).op = 5
    · rcases h _ hm h5 with q | q
      · rw [q, Bool.not_true, Bool.and_false, Bool.false_and]
      · rw [q, Bool.not_true, Bool.and_false]
    · have : ((ns.getD k nd0).op == 5) = false := beq_eq_false_iff_ne.2 h5
      rw [this]; rfl
  · intro h n hn h5
    obtain ⟨k, hk, rfl⟩ := List.getElem_of_mem hn
    have := h k hk
    have e : ns.getD k nd0 = ns[k] := by rw [List.getD_eq_getElem?_getD, List.getElem?_eq_getElem hk]; rfl
    rw [e] at this
    unfold badB at this
    have h6 : (ns[k].op == 5) = true := by rw [h5]; rfl
    rw [h6] at this
    cases hs : starB ns[k] with
    | true => exact .inl rfl
    | false =>
      rw [hs] at this
      cases hc : ctB ns ns[k] with
      | true => exact .inr rfl
      | false => rw [hc] at this; cases this
section
variable {c : Nat} {gs : List Gd} {ns : List Nd}
set_option maxHeartbeats 400000 in
/-- What Right asks of a node: it is handed the node, and where the tree's slice lies. -/
theorem rg1_any (hg : GN gs ns) (ht : TreeN ns) {k q : Nat} (hk : k < gs.length) {b1 o1 : Nat} {w : World} (hx : Nds w q (some ⟨b1, o1, none⟩) gs) (hq : RowA w q 22 #[.slice (some ⟨b1, o1, none⟩) gs.length c]) {kA : Option Addr} {kc : Nat} (hI : Its w q kA (gs.getD k gd0).l) :
    Calls Try.prog 28 #[.agg (ndA (gs.getD k gd0) kA (gs.getD k gd0).l.length kc), .pointer (some ⟨q, 0, none⟩)] w fun e w' => e = .returned (.bool (badB ns (ns.getD k nd0))) ∧ Below w.heap.size w w' := by
  have hqs := hq.lt
  have hx2 := hx.more (Nat.le_of_lt hqs)
  have hI2 := hI.more (Nat.le_of_lt hqs)
  have HC : Hid (∀ u, Below w.heap.size w u → Calls Try.prog 30 #[.agg (ndA (gs.getD k gd0) kA (gs.getD k gd0).l.length kc), .slice (some ⟨b1, o1, none⟩) gs.length c] u fun e w'' => e = .returned (.bool (ctB ns (ns.getD k nd0))) ∧ Below u.heap.size u w'') := fun u hb => cnt_nd hg ht hk hx2 hb hI2
  have h1 := hg.2 k hk
  have HE : Hid ((gs.getD k gd0).op = ((ns.getD k nd0).op : Int) ∧ (gs.getD k gd0).lo = (ns.getD k nd0).lo ∧ (gs.getD k gd0).hi = (ns.getD k nd0).hi) := ⟨h1.op, h1.lo, h1.hi⟩
  have HSB : Hid (∀ z : Bool, z = ((gs.getD k gd0).op == 5 && (gs.getD k gd0).lo == 0 && (gs.getD k gd0).hi == -1) → z = starB (ns.getD k nd0)) := fun z hz => by
    rw [hz]
    unfold starB
    rw [HE.out.1, HE.out.2.1, HE.out.2.2]
    have : (((ns.getD k nd0).op : Int) == 5) = ((ns.getD k nd0).op == 5) := by
      rw [Bool.eq_iff_iff]
      simp only [beq_iff_eq]
      omega
    rw [this]
  have HST : Hid (∀ u, Calls Try.prog 29 #[.agg (ndA (gs.getD k gd0) kA (gs.getD k gd0).l.length kc)] u fun e w' => e = .returned (.bool (starB (ns.getD k nd0))) ∧ Below u.heap.size u w') := fun u => (star_any (gs.getD k gd0) kA _ kc u).mono fun e w' ⟨h, hb⟩ => ⟨by rw [h, HSB.out _ rfl], hb⟩
  have d1 : ∀ o : Obj, (w.alloc o).cell? ⟨q, 0, none⟩ = some (.slice (some ⟨b1, o1, none⟩) gs.length c) := fun o => (((Below.refl w.heap.size w).alloc (Nat.le_refl _) o).cell (p := ⟨q, 0, none⟩) hqs).trans (hq.at_ rfl)
  have d1 := d1 (.cells (ndA (gs.getD k gd0) kA (gs.getD k gd0).l.length kc) 38)
  have HOP := hidd h1.op
  clear hx hx2 hI hI2 hg ht hk h1 hq HSB
  have HBD : Hid (∀ z, z = badB ns (ns.getD k nd0) → z = ((ns.getD k nd0).op == 5 && !starB (ns.getD k nd0) && !ctB ns (ns.getD k nd0))) := fun z hz => hz
  generalize hB : badB ns (ns.getD k nd0) = BB
  have HBB : Hid (BB = ((ns.getD k nd0).op == 5 && !starB (ns.getD k nd0) && !ctB ns (ns.getD k nd0))) := hB.symm
  clear hB HBD HE
  generalize hm : (gs.getD k gd0).l.length = m at *
  generalize gs.getD k gd0 = g at *
  generalize ctB ns (ns.getD k nd0) = cb at *
  generalize ns.getD k nd0 = nd at *
  generalize starB nd = sb at *
  generalize gs.length = n at *
  have R := RowA.new w 38 (ndA g kA m kc)
  have hb : Below w.heap.size w (w.alloc (.cells (ndA g kA m kc) 38)) := (Below.refl _ _).alloc (Nat.le_refl _) _
  have hw : w.heap.size < (w.alloc (.cells (ndA g kA m kc) 38)).heap.size := by simp
  obtain ⟨f0, f1, f2, f3, f4, f5, f6, f7, f8⟩ : (w.alloc (.cells (ndA g kA m kc) 38)).cell? ⟨w.heap.size, 0, none⟩ = some (.int .u8 g.op) ∧ (w.alloc (.cells (ndA g kA m kc) 38)).cell? ⟨w.heap.size, 1, none⟩ = some (.int .u64 (W g.s 0)) ∧ (w.alloc (.cells (ndA g kA m kc) 38)).cell? ⟨w.heap.size, 2, none⟩ = some (.int .u64 (W g.s 1)) ∧ (w.alloc (.cells (ndA g kA m kc) 38)).cell? ⟨w.heap.size, 3, none⟩ = some (.int .u64 (W g.s 2)) ∧ (w.alloc (.cells (ndA g kA m kc) 38)).cell? ⟨w.heap.size, 4, none⟩ = some (.int .u64 (W g.s 3)) ∧ (w.alloc (.cells (ndA g kA m kc) 38)).cell? ⟨w.heap.size, 5, none⟩ = some (.slice kA m kc) ∧ (w.alloc (.cells (ndA g kA m kc) 38)).cell? ⟨w.heap.size, 6, none⟩ = some (.int .i64 g.lo) ∧ (w.alloc (.cells (ndA g kA m kc) 38)).cell? ⟨w.heap.size, 7, none⟩ = some (.int .i64 g.hi) ∧ (w.alloc (.cells (ndA g kA m kc) 38)).cell? ⟨w.heap.size, 8, none⟩ = some (.string g.nm) := ⟨R.at_ rfl, R.at_ rfl, R.at_ rfl, R.at_ rfl, R.at_ rfl, R.at_ rfl, R.at_ rfl, R.at_ rfl, R.at_ rfl⟩
  have HR := hidd R
  have HB := hidd hb
  clear R hb
  by_cases h5 : nd.op = 5
  · have h5b : (g.op == 5) = true := by rw [HOP.out, h5]; rfl
    have h5c : (nd.op == 5) = true := by rw [h5]; rfl
    go_enter Try.func28, Try.ntmps28
    go_wp2_with fail
    refine (HST.out _).mono ?_
    rintro e w2 ⟨rfl, b2⟩
    cases sb with
    | true =>
      have HB2 := hidd (HB.out.trans (b2.mono (Nat.le_of_lt hw)))
      clear b2 HST HC
      go_wp2
      go_ret
      exact ⟨by rw [HBB.out, h5c]; rfl, HB2.out⟩
    | false =>
      have HB2 := hidd (HB.out.trans (b2.mono (Nat.le_of_lt hw)))
      have hc := HC.out w2 HB2.out
      have R2 := HR.out.below b2 HR.out.lt
      have e1 := (b2.cell (p := ⟨q, 0, none⟩) (Nat.lt_trans hqs hw)).trans d1
      obtain ⟨y0, y1, y2, y3, y4, y5, y6, y7, y8⟩ : w2.cell? ⟨w.heap.size, 0, none⟩ = some (.int .u8 g.op) ∧ w2.cell? ⟨w.heap.size, 1, none⟩ = some (.int .u64 (W g.s 0)) ∧ w2.cell? ⟨w.heap.size, 2, none⟩ = some (.int .u64 (W g.s 1)) ∧ w2.cell? ⟨w.heap.size, 3, none⟩ = some (.int .u64 (W g.s 2)) ∧ w2.cell? ⟨w.heap.size, 4, none⟩ = some (.int .u64 (W g.s 3)) ∧ w2.cell? ⟨w.heap.size, 5, none⟩ = some (.slice kA m kc) ∧ w2.cell? ⟨w.heap.size, 6, none⟩ = some (.int .i64 g.lo) ∧ w2.cell? ⟨w.heap.size, 7, none⟩ = some (.int .i64 g.hi) ∧ w2.cell? ⟨w.heap.size, 8, none⟩ = some (.string g.nm) := ⟨R2.at_ rfl, R2.at_ rfl, R2.at_ rfl, R2.at_ rfl, R2.at_ rfl, R2.at_ rfl, R2.at_ rfl, R2.at_ rfl, R2.at_ rfl⟩
      clear b2 R2 f0 f1 f2 f3 f4 f5 f6 f7 f8 d1 HR HC HST
      go_wp2_with fail
      refine hc.mono ?_
      rintro e w3 ⟨rfl, b3⟩
      have HB3 := hidd (HB2.out.trans (b3.mono HB2.out.size))
      clear b3 hc
      go_wp2
      go_ret
      exact ⟨by rw [HBB.out, h5c]; cases cb <;> rfl, HB3.out⟩
  · have h5b : (g.op == 5) = false := by rw [HOP.out]; exact beq_eq_false_iff_ne.2 (by omega)
    have h5c : (nd.op == 5) = false := beq_eq_false_iff_ne.2 h5
    clear HST HC HR
    go_enter Try.func28, Try.ntmps28
    go_wp2
    go_ret
    exact ⟨by rw [HBB.out, h5c]; rfl, HB.out⟩
end
end Go.Proofs.Ytdaaigkmlbpbgaa.Sy.Pl

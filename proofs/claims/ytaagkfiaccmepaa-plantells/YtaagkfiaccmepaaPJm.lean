/- The landed planner: the plan of a node. -/
import Derived.Test.YtaagkfiaccmepaaPJl
import Derived.Test.YtaagkfiaccmepaaPJb
import Derived.Test.YtaagkfiaccmepaaPRs
import Derived.Test.YtaagkfiaccmepaaPAo
namespace Go.Proofs.Ytaagkfiaccmepaa.Sy.Pl
open Go.RowKit Go.Proofs.Ytaagkfiaccmepaa.Sy.Ap Go.Proofs.Ytaagkfiaccmepaa.Sy.Lg
set_option maxRecDepth 100000
set_option linter.unusedVariables false

theorem St.below {F : Nat → Prop} {B b : Nat} {At : Option Addr} {ct : Nat} {gs : List Gd} {most : Int} {w w' : World} {rt : List Nat} {o : List Nd} (h : St F B b At ct gs most w rt o) (hb : Below w.heap.size w w') : St F B b At ct gs most w' rt o := by
  obtain ⟨nv, rv, l, p, r1, r2, r3, r4⟩ := h
  exact ⟨nv, rv, l, p.below hb, r1, r2, r3, fun q hq => ⟨Nat.lt_of_lt_of_le (r4 q hq).1 hb.size, (r4 q hq).2⟩⟩
/-- A new block lies apart. -/
theorem St.box {F : Nat → Prop} {B b : Nat} {At : Option Addr} {ct : Nat} {gs : List Gd} {most : Int} {w w' : World} {rt : List Nat} {o : List Nd} (h : St F B b At ct gs most w rt o) (hb : Below w.heap.size w w') (hlt : w.heap.size < w'.heap.size) : St (fun k => F k ∨ k = w.heap.size) B b At ct gs most w' rt o := by
  obtain ⟨nv, rv, l, p, r1, r2, r3, r4⟩ := h
  refine ⟨nv, rv, l, p.below hb, r1, r2, r3, fun q hq => ?_⟩
  rcases hq with hq | rfl
  · exact ⟨Nat.lt_of_lt_of_le (r4 q hq).1 hb.size, (r4 q hq).2⟩
  · refine ⟨hlt, fun e => ?_, fun e => ?_, fun e => ?_⟩
    · have := p.row.lt; omega
    · have := (p.nodes.lt _ e).2; omega
    · have := (p.roots.lt _ e).2; omega
theorem St.bf {F : Nat → Prop} {B b : Nat} {At : Option Addr} {ct : Nat} {gs : List Gd} {most : Int} {w w' : World} {rt : List Nat} {o : List Nd} (h : St F B b At ct gs most w rt o) (hb : Below w.heap.size w w') : BF B F w w' := by
  obtain ⟨nv, rv, l, p, r1, r2, r3, r4⟩ := h
  exact ⟨hb.mono p.size, fun q hq => hb.block q (r4 q hq).1⟩
theorem PlR.back {F F' : Nat → Prop} {B b : Nat} {At : Option Addr} {ct : Nat} {gs : List Gd} {most : Int} {w w2 w' : World} {rt : List Nat} {R : Option (List Nd)} {e : Ending} (hF : ∀ k, F k → F' k) (hb : BF B F w w2) (h : PlR F' B b At ct gs most w2 rt R e w') : PlR F B b At ct gs most w rt R e w' := by
  refine ⟨hb.trans ⟨h.1.bel, fun q hq => h.1.keep q (hF q hq)⟩, ?_⟩
  cases R with
  | none => exact h.2
  | some o' =>
    obtain ⟨h1, nv, rv, l, p, r1, r2, r3, r4⟩ := h.2
    exact ⟨h1, nv, rv, l, p, r1, r2, r3, fun q hq => r4 q (hF q hq)⟩
def EbL (d : Option Nat) (u u' : World) : Prop := Below u.heap.size u u'
theorem eby {d : Option Nat} {u u' : World} (_ : true = true) (h : Below u.heap.size u u') : EbL d u u' := h
theorem put_non (a : Act) (v : Value) : a.put none v = a := rfl
theorem kids_gn {gs : List Gd} {ns : List Nd} (hg : GN gs ns) (ht : TreeN ns) : ∀ g ∈ gs, g.l.length ≤ 1024 := fun g hgm => by
  obtain ⟨i, hi, rfl⟩ := List.getElem_of_mem hgm
  have h1 := hg.2 i hi
  have hi2 : i < ns.length := by rw [← hg.1]; exact hi
  have e1 : gs.getD i gd0 = gs[i] := by rw [List.getD_eq_getElem?_getD, List.getElem?_eq_getElem hi]; rfl
  have e2 : ns.getD i nd0 = ns[i] := by rw [List.getD_eq_getElem?_getD, List.getElem?_eq_getElem hi2]; rfl
  rw [e1, e2] at h1
  rw [h1.l, List.length_map]
  exact tree_kids ht _ (List.getElem_mem hi2)
theorem rep_one {n : Nd} (hs : shapeB n = true) (h5 : n.op = 5) : n.l.length = 1 ∧ 0 ≤ n.lo ∧ n.lo ≤ 4096 ∧ (n.hi = -1 ∨ (1 ≤ n.hi ∧ n.hi ≤ 4096 ∧ n.lo ≤ n.hi)) := by
  unfold shapeB at hs
  rw [if_neg (by omega), if_neg (by omega), if_neg (by omega), if_pos h5] at hs
  simp only [Bool.and_eq_true, Bool.or_eq_true, decide_eq_true_eq, beq_iff_eq] at hs
  refine ⟨hs.1.1.1.2, hs.1.1.2, hs.1.2, ?_⟩
  rcases hs.2 with q | q
  · exact .inl q
  · exact .inr ⟨q.1.1, q.1.2, q.2⟩
set_option linter.unusedVariables false in
def PlGV (w : World) (b q : Nat) (A3 : Option Addr) (c3 gk ok c : Nat) (lo hi : Int) (t : Nat) : Option Value :=
  match t with
  | 0 => some (.pointer (some ⟨b, 0, none⟩))
  | 5 => some (.pointer (some ⟨q, 0, none⟩))
  | 18 => some (.pointer (some ⟨b, 0, none⟩))
  | 19 => some (.pointer (some ⟨q, 5, none⟩))
  | 20 => some (.slice (some ⟨gk, ok, none⟩) 1 c3)
  | 21 => some (.pointer (some ⟨gk, ok, none⟩))
  | 22 => some (.int .i64 (c : Int))
  | 23 => some (.pointer (some ⟨q, 6, none⟩))
  | 24 => some (.int .i64 lo)
  | 25 => some (.pointer (some ⟨q, 7, none⟩))
  | 26 => some (.int .i64 hi)
  | _ => none
set_option linter.unusedVariables false in
def PlGP (w : World) (b q : Nat) (A3 : Option Addr) (c3 gk ok c : Nat) (lo hi : Int) (t : Nat) : Option (Value → World → Prop) :=
  match t with
  | _ => none
def PlG (w : World) (b q : Nat) (A3 : Option Addr) (c3 gk ok c : Nat) (lo hi : Int) (t : Nat) (v : Value) (u : World) : Prop := (∀ z9, PlGV w b q A3 c3 gk ok c lo hi t = some z9 → v = z9) ∧ ∀ R, PlGP w b q A3 c3 gk ok c lo hi t = some R → R v u
set_option maxHeartbeats 1000000 in
theorem planC {B b : Nat} {At : Option Addr} {ct : Nat} {gs : List Gd} {ns : List Nd} {most : Nat} (hm1 : 1 ≤ most) (hg : GN gs ns) (ht : TreeN ns) (hp : PlainN ns) : ∀ k, k < ns.length → PC B b At ct gs (most : Int) (pl ns most k) k := by
  intro k
  induction k using Nat.strongRecOn with
  | ind k ih =>
    intro hk F w rt o hS hN
    have hkg : k < gs.length := by rw [hg.1]; exact hk
    have hgn := hg.2 k hkg
    have hnk : ns[k]? = some ns[k] := List.getElem?_eq_getElem hk
    have e0 : ns.getD k nd0 = ns[k] := by rw [List.getD_eq_getElem?_getD, hnk]; rfl
    rw [e0] at hgn
    obtain ⟨hb, hBb, d0, d1, -⟩ := hS.lens
    obtain ⟨b1, oz, rfl, hb1, A3, c3, hI, r1⟩ := hN.at_ (k := k) hkg
    have hmem := List.mem_of_getElem? hnk
    have hsh := ht.shp _ hmem
    have hlow := (ht.low k _ hnk).2
    have hfew := ht.few
    have hpl : pl ns most k o = plan1 ns most ns[k] (pl ns most) o := pl_eq ht.low most k hnk o
    rw [hpl]
    have hkids : ∀ c ∈ ns[k].l, PC B b (some ⟨b1, oz, none⟩) ct gs (most : Int) (pl ns most c) c := fun c hc => ih c (hlow c hc) (by have := hlow c hc; omega)
    have hkl : ns[k].l.length ≤ 1024 := by
      have := kids_gn hg ht (gs.getD k gd0) (by rw [List.getD_eq_getElem?_getD, List.getElem?_eq_getElem hkg]; exact List.getElem_mem hkg)
      rw [hgn.l, List.length_map] at this
      omega
    have hkc : ∀ c ∈ ns[k].l, c < gs.length ∧ (gs.getD c gd0).op = ((ns.getD c nd00).op : Int) := fun c hc => by
      have h1 := hlow c hc
      have h2 : c < gs.length := by omega
      exact ⟨h2, (hg.2 c h2).op⟩
    generalize gs.getD k gd0 = g at *
    generalize ns[k] = nd at *
    have hgop : g.op = (nd.op : Int) := hgn.op
    have hgl : g.l = nd.l.map fun k : Nat => (k : Int) := hgn.l
    have hglo : g.lo = nd.lo := hgn.lo
    have hghi : g.hi = nd.hi := hgn.hi
    have hgll : g.l.length = nd.l.length := by rw [hgl, List.length_map]
    have Z1 := RowA.new w 39 zeroC
    have hW1 : Below w.heap.size w ((w.alloc (.cells zeroC 39)).setRow w.heap.size (gdL g A3 c3).toArray) := bel_setRow ((Below.refl _ _).alloc (Nat.le_refl _) _) _ _ (Nat.le_refl _)
    have R1 := Z1.row (gdL g A3 c3).toArray
    obtain ⟨ll, hll⟩ : ∃ ll, gs.length = ll := ⟨_, rfl⟩
    rw [hll] at d0 hkg
    have hkgi : (k : Int) < (ll : Int) := by omega
    have HK := hidd hkids
    have HKC := hidd hkc
    have HS0 := hidd hS
    have HN0 := hidd hN
    have HI := hidd hI
    have HG := hidd hgn
    have HBB : Hid (B ≤ w.heap.size) := by show _ ≤ _; omega
    have hbq0 : b < w.heap.size := hb
    clear ih hN hg ht hp hgn hnk e0 hmem hlow hfew hkids hkc hS hI hll hpl
    obtain ⟨RES, hRES⟩ : ∃ RES, plan1 ns most nd (pl ns most) o = RES := ⟨_, rfl⟩
    have HRES := hidd hRES
    rw [hRES]
    clear hRES
    go_enter Try.func16, Try.ntmps16
    go_upto_region 2 with (first
      | refine wpList_load_mid rfl 39 (.tmp 13) rfl b1 (oz + k * 9) rfl (gdL g A3 c3) _ r1 Try.underlying39 rfl (gdL_info g A3 c3) ?_
      | refine wpList_store_row rfl 39 (.tmp 5) (.tmp 14) rfl w.heap.size (gdL g A3 c3).toArray rfl rfl 39 zeroC Z1 (gdL_infoA g A3 c3) rfl (gdL_one g A3 c3) ?_)
    change RowA ((w.alloc (.cells zeroC 39)).setRow w.heap.size (gdL g A3 c3).toArray) _ _ _ at R1
    generalize (w.alloc (.cells zeroC 39)).setRow w.heap.size (gdL g A3 c3).toArray = w2 at *
    have HS2 := hidd (HS0.out.box hW1 R1.lt)
    have HB2 := hidd (HS0.out.bf hW1)
    have HN2 := hidd (HN0.out.below (hW1.mono HBB.out))
    have HI2 := hidd (HI.out.below (hW1.mono HBB.out))
    obtain ⟨q, hq⟩ : ∃ q, w.heap.size = q := ⟨_, rfl⟩
    rw [hq] at R1 HS2
    rw [hq]
    generalize hFF : (fun k => F k ∨ k = q) = FF at HS2
    have HFF : Hid ((∀ k, F k → FF k) ∧ FF q) := by subst hFF; exact ⟨fun _ h => .inl h, .inr rfl⟩
    clear hFF
    rw [put_non]
    have HQ := hidd hq
    have hqs : q < w2.heap.size := R1.lt
    have HR1 := hidd R1
    have hBw2 : B ≤ w2.heap.size := by have := HBB.out; have := hW1.size; omega
    have hb2 : b < w2.heap.size := by have := hW1.size; omega
    have x0 : w2.cell? ⟨q, 0, none⟩ = some (.int .u8 g.op) := R1.at_ rfl
    clear Z1 r1 hq hW1 R1 HS0 HN0 HI d0 d1 hb hbq0
    rw [hgop] at x0
    by_cases h5 : nd.op = 5
    · rw [h5] at x0
      obtain ⟨hl1, p0, p1, p2⟩ := rep_one hsh h5
      obtain ⟨c, hc⟩ : ∃ c, nd.l = [c] := List.length_eq_one_iff.1 hl1
      have HF : Hid (RES = repF (pl ns most c) ((ns.getD c nd00).op == 2) most nd.lo nd.hi o) := by
        show _ = _
        rw [← HRES.out]
        unfold plan1
        rw [if_pos h5, hc]
        rfl
      clear HRES
      rw [hc] at hgl
      obtain ⟨gk, ok, rfl, hgk, hcell⟩ := HI2.out (by rw [hgl]; simp)
      have xk0 := hcell 0 (by rw [hgl]; simp)
      rw [hgl] at xk0
      have xk1 : w2.cell? ⟨gk, ok, none⟩ = some (.int .i64 (c : Int)) := xk0
      have HXK : Hid (∀ u, Below w2.heap.size w2 u → u.cell? ⟨gk, ok, none⟩ = some (.int .i64 (c : Int))) := fun u hb => (hb.cell (by show gk < _; omega)).trans xk1
      have hg1 : g.l.length = 1 := by rw [hgl]; rfl
      have hrow : gdL g (some ⟨gk, ok, none⟩) c3 = [.int .u8 g.op, .int .u64 (W g.s 0), .int .u64 (W g.s 1), .int .u64 (W g.s 2), .int .u64 (W g.s 3), .slice (some ⟨gk, ok, none⟩) 1 c3, .int .i64 nd.lo, .int .i64 nd.hi, .string g.nm] := by unfold gdL; rw [hg1, hglo, hghi]
      rw [hrow] at HR1
      have HPC := hidd (HK.out c (by rw [hc]; exact List.mem_singleton.2 rfl))
      have HCK := hidd (HKC.out c (by rw [hc]; exact List.mem_singleton.2 rfl))
      have HP12 : Hid (0 ≤ nd.lo ∧ nd.lo ≤ 4096 ∧ (nd.hi = -1 ∨ (1 ≤ nd.hi ∧ nd.hi ≤ 4096))) := ⟨p0, p1, by rcases p2 with q | q; exact .inl q; exact .inr ⟨q.1, q.2.1⟩⟩
      generalize nd.lo = lo at *
      generalize nd.hi = hi at *
      clear hc hgl hcell xk0 xk1 hg1 hrow HK HKC p0 p1 p2 hl1 hgk HI2 hsh hkl hgll hglo hghi HG h5
      go_upto_region 3 with fail
      refine wp_region_slotsH 9 (by decide) (by kernel_rfl) (by kernel_rfl) (fun _ _ => true) (Below w2.heap.size w2) (PlG w2 b q (some ⟨gk, ok, none⟩) c3 gk ok c lo hi) EbL (by kernel_rfl) (by kernel_rfl) (by kernel_rfl) (by kernel_rfl) ?_ (bel_drew (Below.refl _ _)) [0, 5] (by kernel_rfl) ?_ ?_ ?_
      · intro t dd v u u' _ _ h hE
        refine ⟨h.1, fun R hR => ?_⟩
        unfold PlGP at hR
        cases hR
      · intro u _
        refine ⟨⟨_, rfl, ?_⟩, ⟨_, rfl, ?_⟩, trivial⟩ <;> exact ⟨fun _ h => Option.some.inj h, fun _ h => no_some h⟩
      · refine ⟨?_, ?_, ?_, ?_, ?_, ?_, ?_, ?_, ?_, trivial⟩
        · intro a u hS hr K hK
          obtain ⟨⟨vl0, e0, g0⟩, -⟩ := hr
          obtain rfl := g0.1 _ rfl
          clear g0
          rw [if_pos (want_none rfl)]
          unfold Oper.wp
          go_simp
          exact hK _ _ ⟨fun _ h => Option.some.inj h, fun _ h => no_some h⟩ hS (eby rfl (Below.refl _ _))
        · intro a u hS hr K hK
          obtain ⟨⟨vl0, e0, g0⟩, -⟩ := hr
          obtain rfl := g0.1 _ rfl
          clear g0
          rw [if_pos (want_none rfl)]
          unfold Oper.wp
          go_simp
          exact hK _ _ ⟨fun _ h => Option.some.inj h, fun _ h => no_some h⟩ hS (eby rfl (Below.refl _ _))
        · intro a u hS hr K hK
          obtain ⟨⟨vl0, e0, g0⟩, -⟩ := hr
          obtain rfl := g0.1 _ rfl
          clear g0
          rw [if_pos (want_none rfl)]
          have x5 := (HR1.out.below hS hqs).at_ (k := 5) rfl
          unfold Oper.wp
          go_simp
          exact hK _ _ ⟨fun _ h => Option.some.inj h, fun _ h => no_some h⟩ hS (eby rfl (Below.refl _ _))
        · intro a u hS hr K hK
          obtain ⟨⟨vl0, e0, g0⟩, -⟩ := hr
          obtain rfl := g0.1 _ rfl
          clear g0
          rw [if_pos (want_none rfl)]
          unfold Oper.wp
          go_simp
          exact hK _ _ ⟨fun _ h => Option.some.inj h, fun _ h => no_some h⟩ hS (eby rfl (Below.refl _ _))
        · intro a u hS hr K hK
          obtain ⟨⟨vl0, e0, g0⟩, -⟩ := hr
          obtain rfl := g0.1 _ rfl
          clear g0
          rw [if_pos (want_none rfl)]
          have xk := HXK.out u hS
          unfold Oper.wp
          go_simp
          exact hK _ _ ⟨fun _ h => Option.some.inj h, fun _ h => no_some h⟩ hS (eby rfl (Below.refl _ _))
        · intro a u hS hr K hK
          obtain ⟨⟨vl0, e0, g0⟩, -⟩ := hr
          obtain rfl := g0.1 _ rfl
          clear g0
          rw [if_pos (want_none rfl)]
          unfold Oper.wp
          go_simp
          exact hK _ _ ⟨fun _ h => Option.some.inj h, fun _ h => no_some h⟩ hS (eby rfl (Below.refl _ _))
        · intro a u hS hr K hK
          obtain ⟨⟨vl0, e0, g0⟩, -⟩ := hr
          obtain rfl := g0.1 _ rfl
          clear g0
          rw [if_pos (want_none rfl)]
          have x6 := (HR1.out.below hS hqs).at_ (k := 6) rfl
          unfold Oper.wp
          go_simp
          exact hK _ _ ⟨fun _ h => Option.some.inj h, fun _ h => no_some h⟩ hS (eby rfl (Below.refl _ _))
        · intro a u hS hr K hK
          obtain ⟨⟨vl0, e0, g0⟩, -⟩ := hr
          obtain rfl := g0.1 _ rfl
          clear g0
          rw [if_pos (want_none rfl)]
          unfold Oper.wp
          go_simp
          exact hK _ _ ⟨fun _ h => Option.some.inj h, fun _ h => no_some h⟩ hS (eby rfl (Below.refl _ _))
        · intro a u hS hr K hK
          obtain ⟨⟨vl0, e0, g0⟩, -⟩ := hr
          obtain rfl := g0.1 _ rfl
          clear g0
          rw [if_pos (want_none rfl)]
          have x7 := (HR1.out.below hS hqs).at_ (k := 7) rfl
          unfold Oper.wp
          go_simp
          exact hK _ _ ⟨fun _ h => Option.some.inj h, fun _ h => no_some h⟩ hS (eby rfl (Below.refl _ _))
      intro a u2 hS2 hts hd hkn hf
      obtain ⟨v18, e18, g18⟩ := hf 0 _ 18 (by decide) rfl rfl (fun _ => rfl)
      obtain ⟨v19, e19, g19⟩ := hf 1 _ 19 (by decide) rfl rfl (fun _ => rfl)
      obtain ⟨v20, e20, g20⟩ := hf 2 _ 20 (by decide) rfl rfl (fun _ => rfl)
      obtain ⟨v21, e21, g21⟩ := hf 3 _ 21 (by decide) rfl rfl (fun _ => rfl)
      obtain ⟨v22, e22, g22⟩ := hf 4 _ 22 (by decide) rfl rfl (fun _ => rfl)
      obtain ⟨v23, e23, g23⟩ := hf 5 _ 23 (by decide) rfl rfl (fun _ => rfl)
      obtain ⟨v24, e24, g24⟩ := hf 6 _ 24 (by decide) rfl rfl (fun _ => rfl)
      obtain ⟨v25, e25, g25⟩ := hf 7 _ 25 (by decide) rfl rfl (fun _ => rfl)
      obtain ⟨v26, e26, g26⟩ := hf 8 _ 26 (by decide) rfl rfl (fun _ => rfl)
      have hA := act_putsH [(18, v18), (19, v19), (20, v20), (21, v21), (22, v22), (23, v23), (24, v24), (25, v25), (26, v26)] hts hd hkn (by kernel_rfl) (by simp [e18, e19, e20, e21, e22, e23, e24, e25, e26])
      clear hf hts hd hkn e18 e19 e20 e21 e22 e23 e24 e25 e26
      obtain rfl := g18.1 _ rfl
      clear g18
      obtain rfl := g19.1 _ rfl
      clear g19
      obtain rfl := g20.1 _ rfl
      clear g20
      obtain rfl := g21.1 _ rfl
      clear g21
      obtain rfl := g22.1 _ rfl
      clear g22
      obtain rfl := g23.1 _ rfl
      clear g23
      obtain rfl := g24.1 _ rfl
      clear g24
      obtain rfl := g25.1 _ rfl
      clear g25
      obtain rfl := g26.1 _ rfl
      clear g26
      subst hA
      simp only [List.foldl, List.setIfInBounds_toArray, List.set_cons_zero, List.set_cons_succ]
      simp only [List.drop_succ_cons, List.drop_zero]
      have hb3 : BF B FF w2 u2 := HS2.out.bf hS2
      have hc := repC HPC.out HCK.out.1 HCK.out.2 hm1 HP12.out.1 HP12.out.2.1 HP12.out.2.2 (HS2.out.below hS2) (HN2.out.below hb3.bel)
      have HB3 := hidd hb3
      generalize repF (pl ns most c) ((ns.getD c nd00).op == 2) most lo hi o = R at *
      clear HPC HCK HP12 HS2 HN2 hb3 hS2 HXK x0
      go_wp2_with fail
      refine hc.mono ?_
      rintro e w9 ⟨b9, h9⟩
      cases R with
      | none =>
        obtain rfl := h9
        clear hc
        go_wp2
        go_ret
        rw [HF.out]
        exact PlR.back HFF.out.1 HB2.out ⟨(HB3.out).trans b9, rfl⟩
      | some o9 =>
        obtain ⟨rfl, S9⟩ := h9
        have HS := hidd S9
        clear hc S9
        go_wp2
        go_ret
        rw [HF.out]
        exact PlR.back HFF.out.1 HB2.out ⟨(HB3.out).trans b9, rfl, HS.out⟩
    · have h5b : ((nd.op : Int) == 5) = false := beq_eq_false_iff_ne.2 (by omega)
      obtain ⟨m, hm⟩ : ∃ m, nd.l.length = m := ⟨_, rfl⟩
      have hgm : g.l.length = m := by rw [hgll, hm]
      obtain ⟨T, hT⟩ : ∃ T, kidsF (pl ns most) nd.l o [] = T := ⟨_, rfl⟩
      have HR : Hid (RES = T.bind fun q => putF (withL nd q.2) q.1) := by
        show _ = _
        rw [← HRES.out, ← hT]
        unfold plan1
        rw [if_neg h5]
      have HT := hidd hT
      have HL := hidd hm
      have HGM := hidd hgm
      have hrow : gdL g A3 c3 = [.int .u8 g.op, .int .u64 (W g.s 0), .int .u64 (W g.s 1), .int .u64 (W g.s 2), .int .u64 (W g.s 3), .slice A3 m c3, .int .i64 g.lo, .int .i64 g.hi, .string g.nm] := by unfold gdL; rw [hgm]
      have HROW := hidd hrow
      have x5 : w2.cell? ⟨q, 5, none⟩ = some (.slice A3 m c3) := by
        have h := HR1.out
        rw [hrow] at h
        exact h.at_ rfl
      have HGL := hidd hgl
      rw [hm] at hkl
      clear hm hgm hT HRES hrow hgl hgll hglo hghi hsh
      go_wp2
      go_loopw [31] (fun s31 wr => ∃ (j : Nat) (rs : List Nat) (o1 : List Nd), j ≤ m ∧ s31 = .int .i64 (j : Int) ∧ St FF B b (some ⟨b1, oz, none⟩) ct gs (most : Int) wr (rt ++ rs) o1 ∧ kidsF (pl ns most) (nd.l.drop j) o1 rs = T ∧ rs.length = j ∧ BF B FF w2 wr) (fun s31 _ => m - (intOf s31).toNat)
      case atStart => exact ⟨0, [], o, Nat.zero_le _, rfl, by rw [List.append_nil]; exact HS2.out, HT.out, rfl, BF.refl _ _ _⟩
      case round =>
        obtain ⟨j, rs, o1, hj0, rfl, S1, ht1, hrl, b4⟩ := hrel
        clear x0 x5
        by_cases hlt : j < m
        · have hjl : j < nd.l.length := by rw [HL.out]; exact hlt
          have hdrop : nd.l.drop j = nd.l[j] :: nd.l.drop (j + 1) := List.drop_eq_getElem_cons hjl
          rw [hdrop, kidsF] at ht1
          have hcm : nd.l[j] ∈ nd.l := List.getElem_mem hjl
          have hjg : j < g.l.length := by rw [HGM.out]; exact hlt
          obtain ⟨gk, ok, rfl, hgk, hcell⟩ := HI2.out (fun q => by rw [q] at hjg; cases hjg)
          have xk := (b4.bel.cell (p := ⟨gk, ok + j, none⟩) hgk).trans (hcell j hjg)
          have hgj : g.l.getD j 0 = (nd.l[j] : Int) := by
            rw [HGL.out, List.getD_eq_getElem?_getD, List.getElem?_map, List.getElem?_eq_getElem hjl]
            rfl
          rw [hgj] at xk
          have hc := HK.out _ hcm FF wr (rt ++ rs) o1 S1 (HN2.out.below b4.bel)
          have hji : (j : Int) < (m : Int) := by omega
          generalize nd.l[j] = c at *
          clear hdrop hjl hcm hjg hcell hgk hgj S1 HI2
          cases hq : pl ns most c o1 with
          | none =>
            rw [hq] at hc ht1
            have HF : Hid (RES = none) := by show _ = _; rw [HR.out, ← ht1]; rfl
            clear ht1 HR hq
            go_wp2_with fail
            refine hc.mono ?_
            rintro e w5 ⟨b5, rfl⟩
            have HB5 := hidd (b4.trans b5)
            clear hc
            go_wp2
            go_ret
            rw [HF.out]
            exact PlR.back HFF.out.1 HB2.out ⟨HB5.out, rfl⟩
          | some o2 =>
            rw [hq] at hc ht1
            have HT1 : Hid (kidsF (pl ns most) (nd.l.drop (j + 1)) o2 (rs ++ [o2.length - 1]) = T) := ht1
            clear ht1 hq
            go_wp2_with fail
            refine hc.mono ?_
            rintro e w5 ⟨b5, rfl, S2⟩
            clear hc
            rw [List.append_assoc] at S2
            have HS3 := hidd S2
            clear S2
            go_wp2
            exact ⟨⟨j + 1, _, o2, by omega, rfl, HS3.out, HT1.out, by rw [List.length_append, List.length_singleton, hrl], b4.trans b5⟩, by simp [intOf]; omega⟩
        · have hje : j = m := by omega
          subst hje
          have hnil : nd.l.drop j = [] := List.drop_of_length_le (by rw [HL.out]; exact Nat.le_refl _)
          rw [hnil, kidsF] at ht1
          have HF : Hid (RES = putF (withL nd rs) o1) := by show _ = _; rw [HR.out, ← ht1]; rfl
          have hc := putC (ks := rs) S1 HG.out A3 c3 hrl
          have hrow := HROW.out
          have R : RowA wr q 39 (gdL g A3 c3).toArray := (b4.keep q HFF.out.2).trans HR1.out
          have hrow2 : (gdL g A3 c3).toArray = #[.int .u8 (nd.op : Int), .int .u64 (W g.s 0), .int .u64 (W g.s 1), .int .u64 (W g.s 2), .int .u64 (W g.s 3), .slice A3 j c3, .int .i64 g.lo, .int .i64 g.hi, .string g.nm] := by rw [hrow, hgop]
          rw [hrow2] at hc R
          have HB5 := hidd b4
          obtain ⟨y0, y1, y2, y3, y4, y5, y6, y7, y8⟩ : wr.cell? ⟨q, 0, none⟩ = some (.int .u8 (nd.op : Int)) ∧ wr.cell? ⟨q, 1, none⟩ = some (.int .u64 (W g.s 0)) ∧ wr.cell? ⟨q, 2, none⟩ = some (.int .u64 (W g.s 1)) ∧ wr.cell? ⟨q, 3, none⟩ = some (.int .u64 (W g.s 2)) ∧ wr.cell? ⟨q, 4, none⟩ = some (.int .u64 (W g.s 3)) ∧ wr.cell? ⟨q, 5, none⟩ = some (.slice A3 j c3) ∧ wr.cell? ⟨q, 6, none⟩ = some (.int .i64 g.lo) ∧ wr.cell? ⟨q, 7, none⟩ = some (.int .i64 g.hi) ∧ wr.cell? ⟨q, 8, none⟩ = some (.string g.nm) := ⟨R.at_ rfl, R.at_ rfl, R.at_ rfl, R.at_ rfl, R.at_ rfl, R.at_ rfl, R.at_ rfl, R.at_ rfl, R.at_ rfl⟩
          generalize putF (withL nd rs) o1 = R at *
          clear ht1 HR hnil hrow hrow2 S1 HG HROW HR1 hrl b4
          go_wp2_with fail
          refine hc.mono ?_
          rintro e w9 ⟨b9, h9⟩
          cases R with
          | none =>
            obtain rfl := h9
            clear hc
            go_wp2
            go_ret
            rw [HF.out]
            exact PlR.back HFF.out.1 HB2.out ⟨(HB5.out).trans b9, rfl⟩
          | some o9 =>
            obtain ⟨rfl, S9⟩ := h9
            have HS := hidd S9
            clear hc S9
            go_wp2
            go_ret
            rw [HF.out]
            exact PlR.back HFF.out.1 HB2.out ⟨(HB5.out).trans b9, rfl, HS.out⟩
end Go.Proofs.Ytaagkfiaccmepaa.Sy.Pl

/- The landed planner: a node is put. -/
import Derived.Test.YtaagkfiaccmepaaPJg
namespace Go.Proofs.Ytaagkfiaccmepaa.Sy.Pl
open Go.RowKit Go.Proofs.Ytaagkfiaccmepaa.Sy.Ap
set_option maxRecDepth 100000
set_option linter.unusedVariables false

/- The row of those that have no parent is cut, and gets one more; the row of nodes gets one more. -/
set_option linter.unusedVariables false in
def RrGV (w : World) (b r L : Nat) (A9 : Option Addr) (m c9 : Nat) (A2 : Option Addr) (c2 : Nat) (t : Nat) : Option Value :=
  match t with
  | 0 => some (.pointer (some ⟨b, 0, none⟩))
  | 7 => some (.int .i64 (r : Int))
  | 29 => some (.pointer (some ⟨b, 0, none⟩))
  | 30 => some (.pointer (some ⟨b, 0, none⟩))
  | 31 => some (.pointer (some ⟨b, 0, none⟩))
  | 32 => some (.pointer (some ⟨b, 3, none⟩))
  | 33 => some (.slice A9 m c9)
  | 34 => some (.int .i64 (r : Int))
  | 35 => some (.slice A9 r c9)
  | 36 => some (.pointer (some ⟨b, 0, none⟩))
  | 37 => some (.pointer (some ⟨b, 0, none⟩))
  | 38 => some (.pointer (some ⟨b, 2, none⟩))
  | 39 => some (.slice A2 L c2)
  | 40 => some (.int .i64 (L : Int))
  | _ => none
set_option linter.unusedVariables false in
def RrGP (w : World) (b r L : Nat) (A9 : Option Addr) (m c9 : Nat) (A2 : Option Addr) (c2 : Nat) (t : Nat) : Option (Value → World → Prop) :=
  match t with
  | 41 => some (NewR w (.slice A9 r c9) 3 #[.int .i64 (L : Int)])
  | 42 => some (fun z _ => z ≠ undef)
  | _ => none
def RrG (w : World) (b r L : Nat) (A9 : Option Addr) (m c9 : Nat) (A2 : Option Addr) (c2 : Nat) (t : Nat) (v : Value) (u : World) : Prop := (∀ z9, RrGV w b r L A9 m c9 A2 c2 t = some z9 → v = z9) ∧ ∀ R, RrGP w b r L A9 m c9 A2 c2 t = some R → R v u
set_option linter.unusedVariables false in
def NdGV (w : World) (b q : Nat) (L : Nat) (A2 : Option Addr) (c2 : Nat) (x : Gd) (A : Option Addr) (c : Nat) (t : Nat) : Option Value :=
  match t with
  | 0 => some (.pointer (some ⟨b, 0, none⟩))
  | 4 => some (.pointer (some ⟨q, 0, none⟩))
  | 45 => some (.pointer (some ⟨b, 0, none⟩))
  | 46 => some (.pointer (some ⟨b, 0, none⟩))
  | 47 => some (.pointer (some ⟨b, 0, none⟩))
  | 48 => some (.pointer (some ⟨b, 2, none⟩))
  | 49 => some (.slice A2 L c2)
  | 50 => some (.agg #[.int .u8 x.op, .int .u64 (W x.s 0), .int .u64 (W x.s 1), .int .u64 (W x.s 2), .int .u64 (W x.s 3), .slice A x.l.length c, .int .i64 x.lo, .int .i64 x.hi, .string x.nm])
  | _ => none
set_option linter.unusedVariables false in
def NdGP (w : World) (b q : Nat) (L : Nat) (A2 : Option Addr) (c2 : Nat) (x : Gd) (A : Option Addr) (c : Nat) (t : Nat) : Option (Value → World → Prop) :=
  match t with
  | 51 => some (NewR w (.slice A2 L c2) 39 (gdL x A c).toArray)
  | 52 => some (fun z _ => z ≠ undef)
  | _ => none
def NdG (w : World) (b q : Nat) (L : Nat) (A2 : Option Addr) (c2 : Nat) (x : Gd) (A : Option Addr) (c : Nat) (t : Nat) (v : Value) (u : World) : Prop := (∀ z9, NdGV w b q L A2 c2 x A c t = some z9 → v = z9) ∧ ∀ R, NdGP w b q L A2 c2 x A c t = some R → R v u
set_option maxHeartbeats 2000000 in
theorem put_ok {B : Nat} {w : World} {b : Nat} {tv : Value} {most : Int} {nv rv : Value} {l : List NR} {rt : List Nat} (h : PM B w b tv most nv rv l rt) (x : Gd) (A : Option Addr) (c : Nat) (kn : Nat) (hk : kn ≤ rt.length) (hl : l.length < 1024) (hrt : rt.length ≤ 100000) :
    Calls Try.prog 28 #[.pointer (some ⟨b, 0, none⟩), .agg (gdL x A c).toArray, .int .i64 (kn : Int)] w fun e w' => e = .returned (.bool true) ∧ Below B w w' ∧
      ∃ nv' rv' kA kc, (∀ k, k < w.heap.size → k ≠ b → nv.ownBlock ≠ some k → rv.ownBlock ≠ some k → w'.heap[k]? = w.heap[k]?) ∧ (∀ k, nv'.ownBlock = some k → nv.ownBlock = some k ∨ w.heap.size ≤ k) ∧ (∀ k, rv'.ownBlock = some k → rv.ownBlock = some k ∨ w.heap.size ≤ k) ∧ PM B w' b tv most nv' rv' (l ++ [(withG x ((rt.drop (rt.length - kn)).map fun k : Nat => (k : Int)), kA, kc)]) (rt.take (rt.length - kn) ++ [l.length]) := by
  obtain ⟨i0, hi0, hz0, hz1, hz2⟩ := info_parts int_info
  obtain ⟨A9, c9, rfl⟩ := own_form h.roots
  obtain ⟨A2, c2, rfl⟩ := own_form h.nodes
  obtain ⟨d0, d1, d2, d3⟩ := h.cells
  have hb := h.row.lt
  have hBw := h.size
  have hn1 : ((l.length : Int) == 1024) = false := beq_eq_false_iff_ne.2 (by omega)
  obtain ⟨r, hr⟩ : ∃ r, rt.length - kn = r := ⟨_, rfl⟩
  have hrr : (rt.length : Int) - (kn : Int) = (r : Int) := by omega
  rw [hr]
  have hrm : r ≤ rt.length := by omega
  have HDL : Hid (((rt.drop r).map fun k : Nat => (k : Int)).length = kn) := by show _ = _; rw [List.length_map, List.length_drop]; omega
  have hq := RowA.new w 39 (gdL x A c).toArray
  have hbq := Below.refl w.heap.size w |>.alloc (Nat.le_refl _) (.cells (gdL x A c).toArray 39)
  have h1 := h.below hbq
  have HR := hidd hr
  have HH := hidd h
  clear hr h
  generalize hm : rt.length = m at *
  have HM := hidd hm
  clear hm
  generalize hL : l.length = L at *
  have HL := hidd hL
  clear hL
  obtain ⟨e0, e1, e2, e3, e4, e5, e6, e7, e8⟩ := node_cells hq
  have hrn : (0 : Int) ≤ (r : Int) := by omega
  unfold gdL at hq h1 hbq ⊢
  go_enter Try.func28, Try.ntmps28
  go_upto_region 3 with fail
  have R1 : RowA _ w.heap.size 39 (gdL x A c).toArray := hq
  have h2 := h1
  have b2 := hbq
  change RowA (w.alloc (.cells #[.int .u8 x.op, .int .u64 (W x.s 0), .int .u64 (W x.s 1), .int .u64 (W x.s 2), .int .u64 (W x.s 3), .slice A x.l.length c, .int .i64 x.lo, .int .i64 x.hi, .string x.nm] 39)) _ _ _ at R1
  generalize w.alloc (.cells #[.int .u8 x.op, .int .u64 (W x.s 0), .int .u64 (W x.s 1), .int .u64 (W x.s 2), .int .u64 (W x.s 3), .slice A x.l.length c, .int .i64 x.lo, .int .i64 x.hi, .string x.nm] 39) = w1 at *
  clear e0 e1 e2 e3 e4 e5 e6 e7 e8 d0 d1 d2 d3 hq h1 hbq
  have hqw := R1.lt
  generalize hqe : w.heap.size = q at *
  have HQ := hidd hqe
  clear hqe
  obtain ⟨d0, d1, d2, d3⟩ := h2.cells
  have ht := R1.thawed
  have H2 := hidd h2
  have hBw1 := h2.size
  have HX0 := its_cut (r := r) (by have := h2.roots; rw [HM.out] at this; exact this) HM.out
  have HX1 : Hid (c9 = r → Its w1 w1.heap.size A9 ((rt.drop r).map fun k : Nat => (k : Int))) := fun q => by rw [if_pos q] at HX0; exact HX0
  have HX2 : Hid (¬ c9 = r → Its w1 w1.heap.size (A9.map (·.add r)) ((rt.drop r).map fun k : Nat => (k : Int))) := fun q => by rw [if_neg q] at HX0; exact HX0
  have hxl : ((rt.drop r).map fun k : Nat => (k : Int)).length = m - r := by rw [List.length_map, List.length_drop, HM.out]
  have HXL := hidd hxl
  have hri : (r : Int) ≤ (m : Int) := by omega
  have HR1 := hidd R1
  clear hxl h2 HX0 R1
  have hrc : (r : Int) ≤ (c9 : Int) := by have := own_cap (n := m) (by have := H2.out.roots; rw [HM.out] at this; exact this); omega
  by_cases hcr : c9 = r
  · have HX := hidd (HX1.out hcr)
    clear HX1 HX2
    go_upto_region 5 with (at_builtin; refine wpList_plain rfl fun K hK => ?_; refine wp_app_its (.const (.slice none 0 0)) (.tmp 26) rfl B (.slice none 0 0) rfl (World.ownsRow_nil _ _ _ _) _ _ _ _ HXL.out rfl HX.out (by rw [HXL.out]; omega) hBw1 ?_; intro kA kc w2 o2 g2 at2; have R2 : RowA w2 q 39 (gdL x A c).toArray := (g2.block q HR1.out.lt nofun).trans HR1.out; have ht2 := R2.thawed; obtain ⟨f0, f1, f2, f3, f4, f5, f6, f7, f8⟩ := node_cells R2; refine hK _ _ ?_)
    have b3 : Below q w (w2.setCell ⟨q, 5, none⟩ (.slice kA (m - r) kc)) := bel_set (b2.trans ((bel_none g2).mono (by omega))) _ _ (Nat.le_refl _)
    have E3 := HH.out.below (by rw [HQ.out]; exact b3)
    have hset : (gdL x A c).toArray.setIfInBounds 5 (.slice kA (m - r) kc) = (gdL (withG x ((rt.drop r).map fun k : Nat => (k : Int))) kA kc).toArray := by rw [← HXL.out]; rfl
    have R3 := R2.set 5 (.slice kA (m - r) kc)
    rw [hset] at R3
    have K3 : KidR (w2.setCell ⟨q, 5, none⟩ (.slice kA (m - r) kc)) B (.slice A9 m c9) (withG x ((rt.drop r).map fun k : Nat => (k : Int)), kA, kc) := by
      have o3 : (w2.setCell ⟨q, 5, none⟩ (.slice kA (m - r) kc)).ownsRow B 3 1 (.slice kA (m - r) kc) (m - r) (ints ((rt.drop r).map fun k : Nat => (k : Int))) := own_sb o2 (own_neR o2 R2 (by decide)) _
      show (w2.setCell ⟨q, 5, none⟩ (.slice kA (m - r) kc)).ownsRow B 3 1 (.slice kA ((rt.drop r).map fun k : Nat => (k : Int)).length kc) ((rt.drop r).map fun k : Nat => (k : Int)).length (ints ((rt.drop r).map fun k : Nat => (k : Int))) ∧ ∀ k, (Value.slice kA ((rt.drop r).map fun k : Nat => (k : Int)).length kc).ownBlock = some k → (Value.slice A9 m c9).ownBlock ≠ some k
      rw [HXL.out]
      refine ⟨o3, fun k hk hq => ?_⟩
      have h1 : k < w.heap.size := (HH.out.roots.lt k hq).2
      have h2 := HQ.out
      rcases at2 with e | e
      · have e2 : some k = none := hk.symm.trans e
        cases e2
      · have e2 : some k = some w1.heap.size := hk.symm.trans e
        have e3 := Option.some.inj e2
        omega
    have HB3 := hidd b3
    have HK3 := hidd K3
    change RowA (w2.setCell ⟨q, 5, none⟩ (.slice kA (m - r) kc)) _ _ _ at R3
    generalize w2.setCell ⟨q, 5, none⟩ (.slice kA (m - r) kc) = w3 at *
    clear hcr b3 K3 R2 hset f0 f1 f2 f3 f4 f5 f6 f7 f8 ht2 o2 g2 at2 d0 d1 d2 d3 ht b2
    generalize HX' : withG x ((rt.drop r).map fun k : Nat => (k : Int)) = x' at *
    have HXE := hidd HX'
    clear HX'
    have hBw : B ≤ w3.heap.size := E3.size
    obtain ⟨XS, hXS⟩ : ∃ XS, i64s (rt.take r) = XS := ⟨_, rfl⟩
    have hcut : w3.ownsRow B 3 1 (.slice A9 r c9) r XS := by
      rw [← hXS]
      exact own_cut' (by have := E3.roots; rw [HM.out] at this; exact this) hrm HM.out.symm
    have HXS := hidd hXS
    clear hXS
    have hvb : (Value.slice A9 r c9).ownBlock ≠ some b := own_neR hcut E3.row (by decide)
    have hvq : (Value.slice A9 r c9).ownBlock ≠ some q := own_neR hcut R3 (by decide)
    have hnw : ∀ k, w3.heap.size ≤ k → (Value.slice A9 r c9).ownBlock ≠ some k := fun k hk e => by have := (hcut.lt k e).2; omega
    have HE3 := hidd E3
    refine wp_region_slotsA 14 (by decide) (by kernel_rfl) (by kernel_rfl) (fun _ _ => true) (AppS w3 B b q 42 (plC tv most (.slice A2 L c2) (.slice A9 m c9)) (gdL x' kA kc).toArray 3 1 (.slice A9 r c9) r XS [.int .i64 (L : Int)] 42) (RrG w3 b r L A9 m c9 A2 c2) (EbS 42 (.slice A9 r c9)) (by kernel_rfl) (by kernel_rfl) (by kernel_rfl) (by kernel_rfl) ?_ ⟨R3, E3.row, grown_below ⟨rfl, rfl, rfl, Nat.le_refl _, fun _ _ _ => rfl⟩ (bel_drew (Below.refl _ _)), hcut, fun z hz => .inl (Option.some.inj hz).symm⟩ [0, 7] (by kernel_rfl) ?_ ?_ ?_
    · intro t d z u u' _ h hE
      refine ⟨h.1, fun R hR => ?_⟩
      have h2 := h.2 R hR
      unfold RrGP at hR
      split at hR
      · cases hR
        exact NewR.stab h2 hE
      · cases hR
        exact h2
      · cases hR
    · intro a u _
      refine ⟨⟨_, rfl, ?_⟩, ⟨_, rfl, ?_⟩, trivial⟩
      · exact ⟨fun _ h => Option.some.inj h, fun _ h => no_some h⟩
      · exact ⟨fun _ h => Option.some.inj h, fun _ h => no_some h⟩
    · refine ⟨?_, ?_, ?_, ?_, ?_, ?_, ?_, ?_, ?_, ?_, ?_, ?_, ?_, ?_, trivial⟩
      · intro a u hS hr K hK
        obtain ⟨⟨vl0, e0, g0⟩, -⟩ := hr
        obtain rfl := g0.1 _ rfl
        clear g0
        rw [if_pos (want_none rfl)]
        unfold Oper.wp
        go_simp
        exact hK _ _ ⟨fun _ h => Option.some.inj h, fun _ h => no_some h⟩ (hS.put rfl _) (eby rfl (Below.refl _ _))
      · intro a u hS hr K hK
        obtain ⟨⟨vl0, e0, g0⟩, -⟩ := hr
        obtain rfl := g0.1 _ rfl
        clear g0
        rw [if_pos (want_none rfl)]
        unfold Oper.wp
        go_simp
        exact hK _ _ ⟨fun _ h => Option.some.inj h, fun _ h => no_some h⟩ (hS.put rfl _) (eby rfl (Below.refl _ _))
      · intro a u hS hr K hK
        obtain ⟨⟨vl0, e0, g0⟩, -⟩ := hr
        obtain rfl := g0.1 _ rfl
        clear g0
        rw [if_pos (want_none rfl)]
        unfold Oper.wp
        go_simp
        exact hK _ _ ⟨fun _ h => Option.some.inj h, fun _ h => no_some h⟩ (hS.put rfl _) (eby rfl (Below.refl _ _))
      · intro a u hS hr K hK
        obtain ⟨⟨vl0, e0, g0⟩, -⟩ := hr
        obtain rfl := g0.1 _ rfl
        clear g0
        rw [if_pos (want_none rfl)]
        unfold Oper.wp
        go_simp
        exact hK _ _ ⟨fun _ h => Option.some.inj h, fun _ h => no_some h⟩ (hS.put rfl _) (eby rfl (Below.refl _ _))
      · intro a u hS hr K hK
        obtain ⟨⟨vl0, e0, g0⟩, -⟩ := hr
        obtain rfl := g0.1 _ rfl
        clear g0
        rw [if_pos (want_none rfl)]
        have dR := hS.row.at_ (k := 3) rfl
        unfold Oper.wp
        go_simp
        exact hK _ _ ⟨fun _ h => Option.some.inj h, fun _ h => no_some h⟩ (hS.put rfl _) (eby rfl (Below.refl _ _))
      · intro a u hS hr K hK
        obtain ⟨⟨vl0, e0, g0⟩, -⟩ := hr
        obtain rfl := g0.1 _ rfl
        clear g0
        rw [if_pos (want_none rfl)]
        unfold Oper.wp
        go_simp
        exact hK _ _ ⟨fun _ h => Option.some.inj h, fun _ h => no_some h⟩ (hS.put rfl _) (eby rfl (Below.refl _ _))
      · intro a u hS hr K hK
        obtain ⟨⟨vl0, e0, g0⟩, ⟨vl1, e1, g1⟩, -⟩ := hr
        obtain rfl := g0.1 _ rfl
        clear g0
        obtain rfl := g1.1 _ rfl
        clear g1
        rw [if_pos (want_none rfl)]
        unfold Oper.wp
        go_simp
        exact hK _ _ ⟨fun _ h => Option.some.inj h, fun _ h => no_some h⟩ (hS.put rfl _) (eby rfl (Below.refl _ _))
      · intro a u hS hr K hK
        obtain ⟨⟨vl0, e0, g0⟩, -⟩ := hr
        obtain rfl := g0.1 _ rfl
        clear g0
        rw [if_pos (want_none rfl)]
        unfold Oper.wp
        go_simp
        exact hK _ _ ⟨fun _ h => Option.some.inj h, fun _ h => no_some h⟩ (hS.put rfl _) (eby rfl (Below.refl _ _))
      · intro a u hS hr K hK
        obtain ⟨⟨vl0, e0, g0⟩, -⟩ := hr
        obtain rfl := g0.1 _ rfl
        clear g0
        rw [if_pos (want_none rfl)]
        unfold Oper.wp
        go_simp
        exact hK _ _ ⟨fun _ h => Option.some.inj h, fun _ h => no_some h⟩ (hS.put rfl _) (eby rfl (Below.refl _ _))
      · intro a u hS hr K hK
        obtain ⟨⟨vl0, e0, g0⟩, -⟩ := hr
        obtain rfl := g0.1 _ rfl
        clear g0
        rw [if_pos (want_none rfl)]
        unfold Oper.wp
        go_simp
        exact hK _ _ ⟨fun _ h => Option.some.inj h, fun _ h => no_some h⟩ (hS.put rfl _) (eby rfl (Below.refl _ _))
      · intro a u hS hr K hK
        obtain ⟨⟨vl0, e0, g0⟩, -⟩ := hr
        obtain rfl := g0.1 _ rfl
        clear g0
        rw [if_pos (want_none rfl)]
        have dN := hS.row.at_ (k := 2) rfl
        unfold Oper.wp
        go_simp
        exact hK _ _ ⟨fun _ h => Option.some.inj h, fun _ h => no_some h⟩ (hS.put rfl _) (eby rfl (Below.refl _ _))
      · intro a u hS hr K hK
        obtain ⟨⟨vl0, e0, g0⟩, -⟩ := hr
        obtain rfl := g0.1 _ rfl
        clear g0
        rw [if_pos (want_none rfl)]
        unfold Oper.wp
        go_simp
        exact hK _ _ ⟨fun _ h => Option.some.inj h, fun _ h => no_some h⟩ (hS.put rfl _) (eby rfl (Below.refl _ _))
      · intro a u hS hr K hK
        obtain ⟨⟨vl0, e0, g0⟩, -⟩ := hr
        obtain rfl := g0.1 _ rfl
        clear g0
        rw [if_pos (want_none rfl)]
        unfold Oper.wp
        go_simp
        exact hK _ _ ⟨fun _ h => no_some h, fun _ h => spec_ok h (⟨_, rfl, hnw _ hS.grow.size, hS.grow.size, RowA.new _ _ _⟩)⟩ ((hS.below ((Below.refl _ _).alloc (Nat.le_refl _) _)).put rfl _) (eby rfl ((Below.refl _ _).alloc (Nat.le_refl _) _))
      · intro a u hS hr K hK
        obtain ⟨⟨vl0, e0, g0⟩, ⟨vl1, e1, g1⟩, -⟩ := hr
        obtain rfl := g0.1 _ rfl
        clear g0
        replace g1 := g1.2 _ rfl
        rw [if_pos (want_none rfl)]
        obtain ⟨g, rfl, hgv, hg, Rg⟩ := g1
        refine wp_append_both u (.tmp 35) (.tmp 41) 37 rfl B 3 i0 _ 1 8 Try.underlying37 hi0 hz0 hz1 hz2 rfl (by omega) (.slice A9 r c9) r XS (eval_at e0) hS.own ⟨g, 0, none⟩ 1 1 [.int .i64 (L : Int)] (eval_at e1) rfl (World.news_of_block Rg) (ints_ones [(L : Int)]) (by simp only [maxLen]; omega) (by omega) (Nat.le_trans hBw hS.grow.size) ?_
        intro v' u1 h1 h2 h3 h4
        exact hK _ _ ⟨fun _ h => no_some h, fun _ h => spec_ok h (own_not h1)⟩ (hS.app_ hvb hvq h1 h2 h3 h4) (ebw rfl h3)
    intro a u hS hts hd hkn hf
    obtain ⟨v29, e29, g29⟩ := hf 0 _ 29 (by decide) rfl rfl (fun _ => rfl)
    obtain ⟨v30, e30, g30⟩ := hf 1 _ 30 (by decide) rfl rfl (fun _ => rfl)
    obtain ⟨v31, e31, g31⟩ := hf 2 _ 31 (by decide) rfl rfl (fun _ => rfl)
    obtain ⟨v32, e32, g32⟩ := hf 3 _ 32 (by decide) rfl rfl (fun _ => rfl)
    obtain ⟨v33, e33, g33⟩ := hf 4 _ 33 (by decide) rfl rfl (fun _ => rfl)
    obtain ⟨v34, e34, g34⟩ := hf 5 _ 34 (by decide) rfl rfl (fun _ => rfl)
    obtain ⟨v35, e35, g35⟩ := hf 6 _ 35 (by decide) rfl rfl (fun _ => rfl)
    obtain ⟨v36, e36, g36⟩ := hf 7 _ 36 (by decide) rfl rfl (fun _ => rfl)
    obtain ⟨v37, e37, g37⟩ := hf 8 _ 37 (by decide) rfl rfl (fun _ => rfl)
    obtain ⟨v38, e38, g38⟩ := hf 9 _ 38 (by decide) rfl rfl (fun _ => rfl)
    obtain ⟨v39, e39, g39⟩ := hf 10 _ 39 (by decide) rfl rfl (fun _ => rfl)
    obtain ⟨v40, e40, g40⟩ := hf 11 _ 40 (by decide) rfl rfl (fun _ => rfl)
    obtain ⟨v41, e41, g41⟩ := hf 12 _ 41 (by decide) rfl rfl (fun _ => rfl)
    obtain ⟨v42, e42, g42⟩ := hf 13 _ 42 (by decide) rfl rfl (fun _ => rfl)
    obtain ⟨v43, e43⟩ : ∃ z, a.tmps[43]? = some z := ⟨_, Array.getElem?_eq_getElem (by rw [hts]; simp)⟩
    obtain ⟨v44, e44⟩ : ∃ z, a.tmps[44]? = some z := ⟨_, Array.getElem?_eq_getElem (by rw [hts]; simp)⟩
    have hA := act_puts [(29, v29), (30, v30), (31, v31), (32, v32), (33, v33), (34, v34), (35, v35), (36, v36), (37, v37), (38, v38), (39, v39), (40, v40), (41, v41), (42, v42), (43, v43), (44, v44)] hts hd hkn (by kernel_rfl) (by simp [e29, e30, e31, e32, e33, e34, e35, e36, e37, e38, e39, e40, e41, e42, e43, e44])
    have hown := (hS.app v42 e42).resolve_left (g42.2 _ rfl)
    have hgrow := hS.grow
    have R := hS.row
    have RB := hS.box
    clear hS
    clear hf hts hd hkn e29 e30 e31 e32 e33 e34 e35 e36 e37 e38 e39 e40 e41 e42 e43 e44
    obtain rfl := g29.1 _ rfl
    clear g29
    obtain rfl := g30.1 _ rfl
    clear g30
    obtain rfl := g31.1 _ rfl
    clear g31
    obtain rfl := g32.1 _ rfl
    clear g32
    obtain rfl := g33.1 _ rfl
    clear g33
    obtain rfl := g34.1 _ rfl
    clear g34
    obtain rfl := g35.1 _ rfl
    clear g35
    obtain rfl := g36.1 _ rfl
    clear g36
    obtain rfl := g37.1 _ rfl
    clear g37
    obtain rfl := g38.1 _ rfl
    clear g38
    obtain rfl := g39.1 _ rfl
    clear g39
    obtain rfl := g40.1 _ rfl
    clear g40
    replace g41 := g41.2 _ rfl
    replace g42 := g42.2 _ rfl
    subst hA
    simp only [List.foldl, List.setIfInBounds_toArray, List.set_cons_zero, List.set_cons_succ]
    simp only [List.drop_succ_cons, List.drop_zero]
    clear g41 g42 R3 hcut E3
    obtain ⟨hown, hat⟩ := hown
    obtain ⟨A5, c5, rfl⟩ := own_form hown
    have dR := R.at_ (k := 3) rfl
    have ht := R.thawed
    have hgr5 : w3.grownBy u (Value.slice A9 m c9).ownBlock := by rw [ob_eq A9 m c9 r c9]; exact hgrow
    have hli5 : Lies w3 (.slice A9 m c9) (.slice A5 (r + 1) c5) := by unfold Lies; rw [ob_eq A9 m c9 r c9]; exact hat
    have hown2 : u.ownsRow B 3 1 (.slice A5 (r + 1) c5) (rt.take r ++ [L]).length (i64s (rt.take r ++ [L])) := by
      have e : (rt.take r ++ [L]).length = r + 1 := by rw [List.length_append, List.length_take, HM.out, List.length_singleton]; omega
      rw [e, ← i64s_snoc, HXS.out]
      exact hown
    have E5 := HE3.out.setRoots hgr5 hown2 hli5
    have K5 := kid_roots HK3.out hgr5 R hli5
    have hBq : B ≤ q := by have := HQ.out; have := HH.out.size; omega
    have B5 : Below B w (u.setCell ⟨b, 3, none⟩ (.slice A5 (r + 1) c5)) := bel_set (bel_row (HB3.out.mono hBq) hBw hgr5 (fun k hk => (HE3.out.roots.lt k hk).1)) _ _ HE3.out.hb
    have R5 := RB.far (a := ⟨b, 3, none⟩) (fun e => by have e2 : q = b := e; omega) (.slice A5 (r + 1) c5)
    have hw3 : q ≤ w3.heap.size := (by have := HB3.out.size; have := HQ.out; omega)
    have HF5 : Hid (∀ k, k < q → k ≠ b → (Value.slice A9 m c9).ownBlock ≠ some k → (u.setCell ⟨b, 3, none⟩ (.slice A5 (r + 1) c5)).heap[k]? = w.heap[k]?) := fun k hk h1 h2 => (Below.heap_setCell _ _ _ _ h1).trans ((hgr5.block k (Nat.lt_of_lt_of_le hk hw3) (fun e => h2 e.symm)).trans (HB3.out.block k hk))
    have HR5 : Hid (∀ k, (Value.slice A5 (r + 1) c5).ownBlock = some k → (Value.slice A9 m c9).ownBlock = some k ∨ q ≤ k) := fun k hk => by
      rcases hli5 with e | ⟨k', e1, e2⟩
      · exact .inl (e ▸ hk)
      · rw [e1] at hk
        cases hk
        exact .inr (Nat.le_trans hw3 e2)
    have HW5 : Hid (q ≤ (u.setCell ⟨b, 3, none⟩ (.slice A5 (r + 1) c5)).heap.size) := by
      have := hgr5.size
      show q ≤ _
      rw [World.setCell]
      simp only [Array.size_modify]
      omega
    have HE5 := hidd E5
    have HK5 := hidd K5
    have HB5 := hidd B5
    clear hown hat hgrow hgr5 hli5 hown2 K5 B5 RB HE3 HB3 HK3 hnw hvb hvq hBw E5
    go_upto_region 6 with fail
    change RowA (u.setCell ⟨b, 3, none⟩ (.slice A5 (r + 1) c5)) _ _ _ at R5
    generalize u.setCell ⟨b, 3, none⟩ (.slice A5 (r + 1) c5) = w5 at *
    clear R dR ht HXS hi0 hz0 hz1 hz2 i0 XS
    obtain ⟨i0, hi0, hz0, hz1, hz2⟩ := info_parts node_info
    have E5 := HE5.out
    have hBw : B ≤ w5.heap.size := E5.size
    obtain ⟨XS, hXS⟩ : ∃ XS, nodesC l = XS := ⟨_, rfl⟩
    have hcut : w5.ownsRow B 39 9 (.slice A2 L c2) L XS := by
      have := E5.nodes
      rw [HL.out, hXS] at this
      exact this
    have HXS := hidd hXS
    clear hXS
    have hvb : (Value.slice A2 L c2).ownBlock ≠ some b := own_neR hcut E5.row (by decide)
    have hvq : (Value.slice A2 L c2).ownBlock ≠ some q := fun e => by
      have h1 := (HH.out.nodes.lt q e).2
      have h2 := HQ.out
      omega
    have hnw : ∀ k, w5.heap.size ≤ k → (Value.slice A2 L c2).ownBlock ≠ some k := fun k hk e => by have := (hcut.lt k e).2; omega
    refine wp_region_slotsA 8 (by decide) (by kernel_rfl) (by kernel_rfl) (fun _ _ => true) (AppS w5 B b q 42 (plC tv most (.slice A2 L c2) (.slice A5 (r + 1) c5)) (gdL x' kA kc).toArray 39 9 (.slice A2 L c2) L XS (gdL x' kA kc) 52) (NdG w5 b q L A2 c2 x' kA kc) (EbS 52 (.slice A2 L c2)) (by kernel_rfl) (by kernel_rfl) (by kernel_rfl) (by kernel_rfl) ?_ ⟨R5, E5.row, grown_below ⟨rfl, rfl, rfl, Nat.le_refl _, fun _ _ _ => rfl⟩ (bel_drew (Below.refl _ _)), hcut, fun z hz => .inl (Option.some.inj hz).symm⟩ [0, 4] (by kernel_rfl) ?_ ?_ ?_
    · intro t d z u u' _ h hE
      refine ⟨h.1, fun R hR => ?_⟩
      have h2 := h.2 R hR
      unfold NdGP at hR
      split at hR
      · cases hR
        exact NewR.stab h2 hE
      · cases hR
        exact h2
      · cases hR
    · intro a u _
      refine ⟨⟨_, rfl, ?_⟩, ⟨_, rfl, ?_⟩, trivial⟩
      · exact ⟨fun _ h => Option.some.inj h, fun _ h => no_some h⟩
      · exact ⟨fun _ h => Option.some.inj h, fun _ h => no_some h⟩
    · refine ⟨?_, ?_, ?_, ?_, ?_, ?_, ?_, ?_, trivial⟩
      · intro a u hS hr K hK
        obtain ⟨⟨vl0, e0, g0⟩, -⟩ := hr
        obtain rfl := g0.1 _ rfl
        clear g0
        rw [if_pos (want_none rfl)]
        unfold Oper.wp
        go_simp
        exact hK _ _ ⟨fun _ h => Option.some.inj h, fun _ h => no_some h⟩ (hS.put rfl _) (eby rfl (Below.refl _ _))
      · intro a u hS hr K hK
        obtain ⟨⟨vl0, e0, g0⟩, -⟩ := hr
        obtain rfl := g0.1 _ rfl
        clear g0
        rw [if_pos (want_none rfl)]
        unfold Oper.wp
        go_simp
        exact hK _ _ ⟨fun _ h => Option.some.inj h, fun _ h => no_some h⟩ (hS.put rfl _) (eby rfl (Below.refl _ _))
      · intro a u hS hr K hK
        obtain ⟨⟨vl0, e0, g0⟩, -⟩ := hr
        obtain rfl := g0.1 _ rfl
        clear g0
        rw [if_pos (want_none rfl)]
        unfold Oper.wp
        go_simp
        exact hK _ _ ⟨fun _ h => Option.some.inj h, fun _ h => no_some h⟩ (hS.put rfl _) (eby rfl (Below.refl _ _))
      · intro a u hS hr K hK
        obtain ⟨⟨vl0, e0, g0⟩, -⟩ := hr
        obtain rfl := g0.1 _ rfl
        clear g0
        rw [if_pos (want_none rfl)]
        unfold Oper.wp
        go_simp
        exact hK _ _ ⟨fun _ h => Option.some.inj h, fun _ h => no_some h⟩ (hS.put rfl _) (eby rfl (Below.refl _ _))
      · intro a u hS hr K hK
        obtain ⟨⟨vl0, e0, g0⟩, -⟩ := hr
        obtain rfl := g0.1 _ rfl
        clear g0
        rw [if_pos (want_none rfl)]
        have dN := hS.row.at_ (k := 2) rfl
        unfold Oper.wp
        go_simp
        exact hK _ _ ⟨fun _ h => Option.some.inj h, fun _ h => no_some h⟩ (hS.put rfl _) (eby rfl (Below.refl _ _))
      · intro a u hS hr K hK
        obtain ⟨⟨vl0, e0, g0⟩, -⟩ := hr
        obtain rfl := g0.1 _ rfl
        clear g0
        rw [if_pos (want_none rfl)]
        obtain ⟨c0, c1, c2, c3, c4, c5, c6, c7, c8⟩ := node_cells hS.box
        unfold Oper.wp
        go_simp
        exact hK _ _ ⟨fun _ h => Option.some.inj h, fun _ h => no_some h⟩ (hS.put rfl _) (eby rfl (Below.refl _ _))
      · intro a u hS hr K hK
        obtain ⟨⟨vl0, e0, g0⟩, -⟩ := hr
        obtain rfl := g0.1 _ rfl
        clear g0
        rw [if_pos (want_none rfl)]
        unfold Oper.wp
        go_simp
        exact hK _ _ ⟨fun _ h => no_some h, fun _ h => spec_ok h (⟨_, rfl, hnw _ hS.grow.size, hS.grow.size, RowA.new _ _ _⟩)⟩ ((hS.below ((Below.refl _ _).alloc (Nat.le_refl _) _)).put rfl _) (eby rfl ((Below.refl _ _).alloc (Nat.le_refl _) _))
      · intro a u hS hr K hK
        obtain ⟨⟨vl0, e0, g0⟩, ⟨vl1, e1, g1⟩, -⟩ := hr
        obtain rfl := g0.1 _ rfl
        clear g0
        replace g1 := g1.2 _ rfl
        rw [if_pos (want_none rfl)]
        obtain ⟨g, rfl, hgv, hg, Rg⟩ := g1
        refine wp_append_both u (.tmp 49) (.tmp 51) 22 rfl B 39 i0 _ 9 96 Try.underlying22 hi0 hz0 hz1 hz2 rfl (by omega) (.slice A2 L c2) L XS (eval_at e0) hS.own ⟨g, 0, none⟩ 1 1 (gdL x' kA kc) (eval_at e1) rfl (World.news_of_block Rg) (gdL_ones x' kA kc) (by simp only [maxLen]; omega) (by omega) (Nat.le_trans hBw hS.grow.size) ?_
        intro v' u1 h1 h2 h3 h4
        exact hK _ _ ⟨fun _ h => no_some h, fun _ h => spec_ok h (own_not h1)⟩ (hS.app_ hvb hvq h1 h2 h3 h4) (ebw rfl h3)
    intro a u hS hts hd hkn hf
    obtain ⟨v45, e45, g45⟩ := hf 0 _ 45 (by decide) rfl rfl (fun _ => rfl)
    obtain ⟨v46, e46, g46⟩ := hf 1 _ 46 (by decide) rfl rfl (fun _ => rfl)
    obtain ⟨v47, e47, g47⟩ := hf 2 _ 47 (by decide) rfl rfl (fun _ => rfl)
    obtain ⟨v48, e48, g48⟩ := hf 3 _ 48 (by decide) rfl rfl (fun _ => rfl)
    obtain ⟨v49, e49, g49⟩ := hf 4 _ 49 (by decide) rfl rfl (fun _ => rfl)
    obtain ⟨v50, e50, g50⟩ := hf 5 _ 50 (by decide) rfl rfl (fun _ => rfl)
    obtain ⟨v51, e51, g51⟩ := hf 6 _ 51 (by decide) rfl rfl (fun _ => rfl)
    obtain ⟨v52, e52, g52⟩ := hf 7 _ 52 (by decide) rfl rfl (fun _ => rfl)
    obtain ⟨v53, e53⟩ : ∃ z, a.tmps[53]? = some z := ⟨_, Array.getElem?_eq_getElem (by rw [hts]; simp)⟩
    obtain ⟨v54, e54⟩ : ∃ z, a.tmps[54]? = some z := ⟨_, Array.getElem?_eq_getElem (by rw [hts]; simp)⟩
    have hA := act_puts [(45, v45), (46, v46), (47, v47), (48, v48), (49, v49), (50, v50), (51, v51), (52, v52), (53, v53), (54, v54)] hts hd hkn (by kernel_rfl) (by simp [e45, e46, e47, e48, e49, e50, e51, e52, e53, e54])
    have hown := (hS.app v52 e52).resolve_left (g52.2 _ rfl)
    have hgrow := hS.grow
    have R := hS.row
    clear hS
    clear hf hts hd hkn e45 e46 e47 e48 e49 e50 e51 e52 e53 e54
    obtain rfl := g45.1 _ rfl
    clear g45
    obtain rfl := g46.1 _ rfl
    clear g46
    obtain rfl := g47.1 _ rfl
    clear g47
    obtain rfl := g48.1 _ rfl
    clear g48
    obtain rfl := g49.1 _ rfl
    clear g49
    obtain rfl := g50.1 _ rfl
    clear g50
    replace g51 := g51.2 _ rfl
    replace g52 := g52.2 _ rfl
    subst hA
    simp only [List.foldl, List.setIfInBounds_toArray, List.set_cons_zero, List.set_cons_succ]
    simp only [List.drop_succ_cons, List.drop_zero]
    clear g51 g52 R5 hcut E5
    obtain ⟨hown, hat⟩ := hown
    obtain ⟨A6, c6, rfl⟩ := own_form hown
    have dN := R.at_ (k := 2) rfl
    have ht := R.thawed
    have hown2 : u.ownsRow B 39 9 (.slice A6 (L + 1) c6) (l ++ [(x', kA, kc)]).length (nodesC (l ++ [(x', kA, kc)])) := by
      have e : (l ++ [(x', kA, kc)]).length = L + 1 := by rw [List.length_append, HL.out, List.length_singleton]
      rw [e, ← nodesC_snoc, HXS.out]
      exact hown
    have HE6 := hidd (HE5.out.addNode hgrow hown2 HK5.out)
    have HB6 := hidd (bel_set (bel_row HB5.out hBw hgrow (fun k hk => (HE5.out.nodes.lt k hk).1)) ⟨b, 2, none⟩ (.slice A6 (L + 1) c6) HE5.out.hb)
    have HF6 : Hid (∀ k, k < q → k ≠ b → (Value.slice A2 L c2).ownBlock ≠ some k → (Value.slice A9 m c9).ownBlock ≠ some k → (u.setCell ⟨b, 2, none⟩ (.slice A6 (L + 1) c6)).heap[k]? = w.heap[k]?) := fun k hk h1 h2 h3 => (Below.heap_setCell _ _ _ _ h1).trans ((hgrow.block k (Nat.lt_of_lt_of_le hk HW5.out) (fun e => h2 e.symm)).trans (HF5.out k hk h1 h3))
    have HN6 : Hid (∀ k, (Value.slice A6 (L + 1) c6).ownBlock = some k → (Value.slice A2 L c2).ownBlock = some k ∨ q ≤ k) := fun k hk => by
      rcases hat with e | ⟨k', e1, e2⟩
      · exact .inl (e ▸ hk)
      · rw [e1] at hk
        cases hk
        exact .inr (Nat.le_trans HW5.out e2)
    clear hown hat hgrow hown2 HE5 HB5 HK5 hnw hvb hvq hBw
    go_wp2
    go_ret
    refine ⟨rfl, HB6.out, .slice A6 (L + 1) c6, .slice A5 (r + 1) c5, kA, kc, by rw [HQ.out]; exact HF6.out, by rw [HQ.out]; exact HN6.out, by rw [HQ.out]; exact HR5.out, ?_⟩
    rw [HXE.out]
    exact HE6.out
  · have HX := hidd (HX2.out hcr)
    clear HX1 HX2
    go_upto_region 5 with (at_builtin; refine wpList_plain rfl fun K hK => ?_; refine wp_app_its (.const (.slice none 0 0)) (.tmp 26) rfl B (.slice none 0 0) rfl (World.ownsRow_nil _ _ _ _) _ _ _ _ HXL.out rfl HX.out (by rw [HXL.out]; omega) hBw1 ?_; intro kA kc w2 o2 g2 at2; have R2 : RowA w2 q 39 (gdL x A c).toArray := (g2.block q HR1.out.lt nofun).trans HR1.out; have ht2 := R2.thawed; obtain ⟨f0, f1, f2, f3, f4, f5, f6, f7, f8⟩ := node_cells R2; refine hK _ _ ?_)
    have b3 : Below q w (w2.setCell ⟨q, 5, none⟩ (.slice kA (m - r) kc)) := bel_set (b2.trans ((bel_none g2).mono (by omega))) _ _ (Nat.le_refl _)
    have E3 := HH.out.below (by rw [HQ.out]; exact b3)
    have hset : (gdL x A c).toArray.setIfInBounds 5 (.slice kA (m - r) kc) = (gdL (withG x ((rt.drop r).map fun k : Nat => (k : Int))) kA kc).toArray := by rw [← HXL.out]; rfl
    have R3 := R2.set 5 (.slice kA (m - r) kc)
    rw [hset] at R3
    have K3 : KidR (w2.setCell ⟨q, 5, none⟩ (.slice kA (m - r) kc)) B (.slice A9 m c9) (withG x ((rt.drop r).map fun k : Nat => (k : Int)), kA, kc) := by
      have o3 : (w2.setCell ⟨q, 5, none⟩ (.slice kA (m - r) kc)).ownsRow B 3 1 (.slice kA (m - r) kc) (m - r) (ints ((rt.drop r).map fun k : Nat => (k : Int))) := own_sb o2 (own_neR o2 R2 (by decide)) _
      show (w2.setCell ⟨q, 5, none⟩ (.slice kA (m - r) kc)).ownsRow B 3 1 (.slice kA ((rt.drop r).map fun k : Nat => (k : Int)).length kc) ((rt.drop r).map fun k : Nat => (k : Int)).length (ints ((rt.drop r).map fun k : Nat => (k : Int))) ∧ ∀ k, (Value.slice kA ((rt.drop r).map fun k : Nat => (k : Int)).length kc).ownBlock = some k → (Value.slice A9 m c9).ownBlock ≠ some k
      rw [HXL.out]
      refine ⟨o3, fun k hk hq => ?_⟩
      have h1 : k < w.heap.size := (HH.out.roots.lt k hq).2
      have h2 := HQ.out
      rcases at2 with e | e
      · have e2 : some k = none := hk.symm.trans e
        cases e2
      · have e2 : some k = some w1.heap.size := hk.symm.trans e
        have e3 := Option.some.inj e2
        omega
    have HB3 := hidd b3
    have HK3 := hidd K3
    change RowA (w2.setCell ⟨q, 5, none⟩ (.slice kA (m - r) kc)) _ _ _ at R3
    generalize w2.setCell ⟨q, 5, none⟩ (.slice kA (m - r) kc) = w3 at *
    clear hcr b3 K3 R2 hset f0 f1 f2 f3 f4 f5 f6 f7 f8 ht2 o2 g2 at2 d0 d1 d2 d3 ht b2
    generalize HX' : withG x ((rt.drop r).map fun k : Nat => (k : Int)) = x' at *
    have HXE := hidd HX'
    clear HX'
    have hBw : B ≤ w3.heap.size := E3.size
    obtain ⟨XS, hXS⟩ : ∃ XS, i64s (rt.take r) = XS := ⟨_, rfl⟩
    have hcut : w3.ownsRow B 3 1 (.slice A9 r c9) r XS := by
      rw [← hXS]
      exact own_cut' (by have := E3.roots; rw [HM.out] at this; exact this) hrm HM.out.symm
    have HXS := hidd hXS
    clear hXS
    have hvb : (Value.slice A9 r c9).ownBlock ≠ some b := own_neR hcut E3.row (by decide)
    have hvq : (Value.slice A9 r c9).ownBlock ≠ some q := own_neR hcut R3 (by decide)
    have hnw : ∀ k, w3.heap.size ≤ k → (Value.slice A9 r c9).ownBlock ≠ some k := fun k hk e => by have := (hcut.lt k e).2; omega
    have HE3 := hidd E3
    refine wp_region_slotsA 14 (by decide) (by kernel_rfl) (by kernel_rfl) (fun _ _ => true) (AppS w3 B b q 42 (plC tv most (.slice A2 L c2) (.slice A9 m c9)) (gdL x' kA kc).toArray 3 1 (.slice A9 r c9) r XS [.int .i64 (L : Int)] 42) (RrG w3 b r L A9 m c9 A2 c2) (EbS 42 (.slice A9 r c9)) (by kernel_rfl) (by kernel_rfl) (by kernel_rfl) (by kernel_rfl) ?_ ⟨R3, E3.row, grown_below ⟨rfl, rfl, rfl, Nat.le_refl _, fun _ _ _ => rfl⟩ (bel_drew (Below.refl _ _)), hcut, fun z hz => .inl (Option.some.inj hz).symm⟩ [0, 7] (by kernel_rfl) ?_ ?_ ?_
    · intro t d z u u' _ h hE
      refine ⟨h.1, fun R hR => ?_⟩
      have h2 := h.2 R hR
      unfold RrGP at hR
      split at hR
      · cases hR
        exact NewR.stab h2 hE
      · cases hR
        exact h2
      · cases hR
    · intro a u _
      refine ⟨⟨_, rfl, ?_⟩, ⟨_, rfl, ?_⟩, trivial⟩
      · exact ⟨fun _ h => Option.some.inj h, fun _ h => no_some h⟩
      · exact ⟨fun _ h => Option.some.inj h, fun _ h => no_some h⟩
    · refine ⟨?_, ?_, ?_, ?_, ?_, ?_, ?_, ?_, ?_, ?_, ?_, ?_, ?_, ?_, trivial⟩
      · intro a u hS hr K hK
        obtain ⟨⟨vl0, e0, g0⟩, -⟩ := hr
        obtain rfl := g0.1 _ rfl
        clear g0
        rw [if_pos (want_none rfl)]
        unfold Oper.wp
        go_simp
        exact hK _ _ ⟨fun _ h => Option.some.inj h, fun _ h => no_some h⟩ (hS.put rfl _) (eby rfl (Below.refl _ _))
      · intro a u hS hr K hK
        obtain ⟨⟨vl0, e0, g0⟩, -⟩ := hr
        obtain rfl := g0.1 _ rfl
        clear g0
        rw [if_pos (want_none rfl)]
        unfold Oper.wp
        go_simp
        exact hK _ _ ⟨fun _ h => Option.some.inj h, fun _ h => no_some h⟩ (hS.put rfl _) (eby rfl (Below.refl _ _))
      · intro a u hS hr K hK
        obtain ⟨⟨vl0, e0, g0⟩, -⟩ := hr
        obtain rfl := g0.1 _ rfl
        clear g0
        rw [if_pos (want_none rfl)]
        unfold Oper.wp
        go_simp
        exact hK _ _ ⟨fun _ h => Option.some.inj h, fun _ h => no_some h⟩ (hS.put rfl _) (eby rfl (Below.refl _ _))
      · intro a u hS hr K hK
        obtain ⟨⟨vl0, e0, g0⟩, -⟩ := hr
        obtain rfl := g0.1 _ rfl
        clear g0
        rw [if_pos (want_none rfl)]
        unfold Oper.wp
        go_simp
        exact hK _ _ ⟨fun _ h => Option.some.inj h, fun _ h => no_some h⟩ (hS.put rfl _) (eby rfl (Below.refl _ _))
      · intro a u hS hr K hK
        obtain ⟨⟨vl0, e0, g0⟩, -⟩ := hr
        obtain rfl := g0.1 _ rfl
        clear g0
        rw [if_pos (want_none rfl)]
        have dR := hS.row.at_ (k := 3) rfl
        unfold Oper.wp
        go_simp
        exact hK _ _ ⟨fun _ h => Option.some.inj h, fun _ h => no_some h⟩ (hS.put rfl _) (eby rfl (Below.refl _ _))
      · intro a u hS hr K hK
        obtain ⟨⟨vl0, e0, g0⟩, -⟩ := hr
        obtain rfl := g0.1 _ rfl
        clear g0
        rw [if_pos (want_none rfl)]
        unfold Oper.wp
        go_simp
        exact hK _ _ ⟨fun _ h => Option.some.inj h, fun _ h => no_some h⟩ (hS.put rfl _) (eby rfl (Below.refl _ _))
      · intro a u hS hr K hK
        obtain ⟨⟨vl0, e0, g0⟩, ⟨vl1, e1, g1⟩, -⟩ := hr
        obtain rfl := g0.1 _ rfl
        clear g0
        obtain rfl := g1.1 _ rfl
        clear g1
        rw [if_pos (want_none rfl)]
        unfold Oper.wp
        go_simp
        exact hK _ _ ⟨fun _ h => Option.some.inj h, fun _ h => no_some h⟩ (hS.put rfl _) (eby rfl (Below.refl _ _))
      · intro a u hS hr K hK
        obtain ⟨⟨vl0, e0, g0⟩, -⟩ := hr
        obtain rfl := g0.1 _ rfl
        clear g0
        rw [if_pos (want_none rfl)]
        unfold Oper.wp
        go_simp
        exact hK _ _ ⟨fun _ h => Option.some.inj h, fun _ h => no_some h⟩ (hS.put rfl _) (eby rfl (Below.refl _ _))
      · intro a u hS hr K hK
        obtain ⟨⟨vl0, e0, g0⟩, -⟩ := hr
        obtain rfl := g0.1 _ rfl
        clear g0
        rw [if_pos (want_none rfl)]
        unfold Oper.wp
        go_simp
        exact hK _ _ ⟨fun _ h => Option.some.inj h, fun _ h => no_some h⟩ (hS.put rfl _) (eby rfl (Below.refl _ _))
      · intro a u hS hr K hK
        obtain ⟨⟨vl0, e0, g0⟩, -⟩ := hr
        obtain rfl := g0.1 _ rfl
        clear g0
        rw [if_pos (want_none rfl)]
        unfold Oper.wp
        go_simp
        exact hK _ _ ⟨fun _ h => Option.some.inj h, fun _ h => no_some h⟩ (hS.put rfl _) (eby rfl (Below.refl _ _))
      · intro a u hS hr K hK
        obtain ⟨⟨vl0, e0, g0⟩, -⟩ := hr
        obtain rfl := g0.1 _ rfl
        clear g0
        rw [if_pos (want_none rfl)]
        have dN := hS.row.at_ (k := 2) rfl
        unfold Oper.wp
        go_simp
        exact hK _ _ ⟨fun _ h => Option.some.inj h, fun _ h => no_some h⟩ (hS.put rfl _) (eby rfl (Below.refl _ _))
      · intro a u hS hr K hK
        obtain ⟨⟨vl0, e0, g0⟩, -⟩ := hr
        obtain rfl := g0.1 _ rfl
        clear g0
        rw [if_pos (want_none rfl)]
        unfold Oper.wp
        go_simp
        exact hK _ _ ⟨fun _ h => Option.some.inj h, fun _ h => no_some h⟩ (hS.put rfl _) (eby rfl (Below.refl _ _))
      · intro a u hS hr K hK
        obtain ⟨⟨vl0, e0, g0⟩, -⟩ := hr
        obtain rfl := g0.1 _ rfl
        clear g0
        rw [if_pos (want_none rfl)]
        unfold Oper.wp
        go_simp
        exact hK _ _ ⟨fun _ h => no_some h, fun _ h => spec_ok h (⟨_, rfl, hnw _ hS.grow.size, hS.grow.size, RowA.new _ _ _⟩)⟩ ((hS.below ((Below.refl _ _).alloc (Nat.le_refl _) _)).put rfl _) (eby rfl ((Below.refl _ _).alloc (Nat.le_refl _) _))
      · intro a u hS hr K hK
        obtain ⟨⟨vl0, e0, g0⟩, ⟨vl1, e1, g1⟩, -⟩ := hr
        obtain rfl := g0.1 _ rfl
        clear g0
        replace g1 := g1.2 _ rfl
        rw [if_pos (want_none rfl)]
        obtain ⟨g, rfl, hgv, hg, Rg⟩ := g1
        refine wp_append_both u (.tmp 35) (.tmp 41) 37 rfl B 3 i0 _ 1 8 Try.underlying37 hi0 hz0 hz1 hz2 rfl (by omega) (.slice A9 r c9) r XS (eval_at e0) hS.own ⟨g, 0, none⟩ 1 1 [.int .i64 (L : Int)] (eval_at e1) rfl (World.news_of_block Rg) (ints_ones [(L : Int)]) (by simp only [maxLen]; omega) (by omega) (Nat.le_trans hBw hS.grow.size) ?_
        intro v' u1 h1 h2 h3 h4
        exact hK _ _ ⟨fun _ h => no_some h, fun _ h => spec_ok h (own_not h1)⟩ (hS.app_ hvb hvq h1 h2 h3 h4) (ebw rfl h3)
    intro a u hS hts hd hkn hf
    obtain ⟨v29, e29, g29⟩ := hf 0 _ 29 (by decide) rfl rfl (fun _ => rfl)
    obtain ⟨v30, e30, g30⟩ := hf 1 _ 30 (by decide) rfl rfl (fun _ => rfl)
    obtain ⟨v31, e31, g31⟩ := hf 2 _ 31 (by decide) rfl rfl (fun _ => rfl)
    obtain ⟨v32, e32, g32⟩ := hf 3 _ 32 (by decide) rfl rfl (fun _ => rfl)
    obtain ⟨v33, e33, g33⟩ := hf 4 _ 33 (by decide) rfl rfl (fun _ => rfl)
    obtain ⟨v34, e34, g34⟩ := hf 5 _ 34 (by decide) rfl rfl (fun _ => rfl)
    obtain ⟨v35, e35, g35⟩ := hf 6 _ 35 (by decide) rfl rfl (fun _ => rfl)
    obtain ⟨v36, e36, g36⟩ := hf 7 _ 36 (by decide) rfl rfl (fun _ => rfl)
    obtain ⟨v37, e37, g37⟩ := hf 8 _ 37 (by decide) rfl rfl (fun _ => rfl)
    obtain ⟨v38, e38, g38⟩ := hf 9 _ 38 (by decide) rfl rfl (fun _ => rfl)
    obtain ⟨v39, e39, g39⟩ := hf 10 _ 39 (by decide) rfl rfl (fun _ => rfl)
    obtain ⟨v40, e40, g40⟩ := hf 11 _ 40 (by decide) rfl rfl (fun _ => rfl)
    obtain ⟨v41, e41, g41⟩ := hf 12 _ 41 (by decide) rfl rfl (fun _ => rfl)
    obtain ⟨v42, e42, g42⟩ := hf 13 _ 42 (by decide) rfl rfl (fun _ => rfl)
    obtain ⟨v43, e43⟩ : ∃ z, a.tmps[43]? = some z := ⟨_, Array.getElem?_eq_getElem (by rw [hts]; simp)⟩
    obtain ⟨v44, e44⟩ : ∃ z, a.tmps[44]? = some z := ⟨_, Array.getElem?_eq_getElem (by rw [hts]; simp)⟩
    have hA := act_puts [(29, v29), (30, v30), (31, v31), (32, v32), (33, v33), (34, v34), (35, v35), (36, v36), (37, v37), (38, v38), (39, v39), (40, v40), (41, v41), (42, v42), (43, v43), (44, v44)] hts hd hkn (by kernel_rfl) (by simp [e29, e30, e31, e32, e33, e34, e35, e36, e37, e38, e39, e40, e41, e42, e43, e44])
    have hown := (hS.app v42 e42).resolve_left (g42.2 _ rfl)
    have hgrow := hS.grow
    have R := hS.row
    have RB := hS.box
    clear hS
    clear hf hts hd hkn e29 e30 e31 e32 e33 e34 e35 e36 e37 e38 e39 e40 e41 e42 e43 e44
    obtain rfl := g29.1 _ rfl
    clear g29
    obtain rfl := g30.1 _ rfl
    clear g30
    obtain rfl := g31.1 _ rfl
    clear g31
    obtain rfl := g32.1 _ rfl
    clear g32
    obtain rfl := g33.1 _ rfl
    clear g33
    obtain rfl := g34.1 _ rfl
    clear g34
    obtain rfl := g35.1 _ rfl
    clear g35
    obtain rfl := g36.1 _ rfl
    clear g36
    obtain rfl := g37.1 _ rfl
    clear g37
    obtain rfl := g38.1 _ rfl
    clear g38
    obtain rfl := g39.1 _ rfl
    clear g39
    obtain rfl := g40.1 _ rfl
    clear g40
    replace g41 := g41.2 _ rfl
    replace g42 := g42.2 _ rfl
    subst hA
    simp only [List.foldl, List.setIfInBounds_toArray, List.set_cons_zero, List.set_cons_succ]
    simp only [List.drop_succ_cons, List.drop_zero]
    clear g41 g42 R3 hcut E3
    obtain ⟨hown, hat⟩ := hown
    obtain ⟨A5, c5, rfl⟩ := own_form hown
    have dR := R.at_ (k := 3) rfl
    have ht := R.thawed
    have hgr5 : w3.grownBy u (Value.slice A9 m c9).ownBlock := by rw [ob_eq A9 m c9 r c9]; exact hgrow
    have hli5 : Lies w3 (.slice A9 m c9) (.slice A5 (r + 1) c5) := by unfold Lies; rw [ob_eq A9 m c9 r c9]; exact hat
    have hown2 : u.ownsRow B 3 1 (.slice A5 (r + 1) c5) (rt.take r ++ [L]).length (i64s (rt.take r ++ [L])) := by
      have e : (rt.take r ++ [L]).length = r + 1 := by rw [List.length_append, List.length_take, HM.out, List.length_singleton]; omega
      rw [e, ← i64s_snoc, HXS.out]
      exact hown
    have E5 := HE3.out.setRoots hgr5 hown2 hli5
    have K5 := kid_roots HK3.out hgr5 R hli5
    have hBq : B ≤ q := by have := HQ.out; have := HH.out.size; omega
    have B5 : Below B w (u.setCell ⟨b, 3, none⟩ (.slice A5 (r + 1) c5)) := bel_set (bel_row (HB3.out.mono hBq) hBw hgr5 (fun k hk => (HE3.out.roots.lt k hk).1)) _ _ HE3.out.hb
    have R5 := RB.far (a := ⟨b, 3, none⟩) (fun e => by have e2 : q = b := e; omega) (.slice A5 (r + 1) c5)
    have hw3 : q ≤ w3.heap.size := (by have := HB3.out.size; have := HQ.out; omega)
    have HF5 : Hid (∀ k, k < q → k ≠ b → (Value.slice A9 m c9).ownBlock ≠ some k → (u.setCell ⟨b, 3, none⟩ (.slice A5 (r + 1) c5)).heap[k]? = w.heap[k]?) := fun k hk h1 h2 => (Below.heap_setCell _ _ _ _ h1).trans ((hgr5.block k (Nat.lt_of_lt_of_le hk hw3) (fun e => h2 e.symm)).trans (HB3.out.block k hk))
    have HR5 : Hid (∀ k, (Value.slice A5 (r + 1) c5).ownBlock = some k → (Value.slice A9 m c9).ownBlock = some k ∨ q ≤ k) := fun k hk => by
      rcases hli5 with e | ⟨k', e1, e2⟩
      · exact .inl (e ▸ hk)
      · rw [e1] at hk
        cases hk
        exact .inr (Nat.le_trans hw3 e2)
    have HW5 : Hid (q ≤ (u.setCell ⟨b, 3, none⟩ (.slice A5 (r + 1) c5)).heap.size) := by
      have := hgr5.size
      show q ≤ _
      rw [World.setCell]
      simp only [Array.size_modify]
      omega
    have HE5 := hidd E5
    have HK5 := hidd K5
    have HB5 := hidd B5
    clear hown hat hgrow hgr5 hli5 hown2 K5 B5 RB HE3 HB3 HK3 hnw hvb hvq hBw E5
    go_upto_region 6 with fail
    change RowA (u.setCell ⟨b, 3, none⟩ (.slice A5 (r + 1) c5)) _ _ _ at R5
    generalize u.setCell ⟨b, 3, none⟩ (.slice A5 (r + 1) c5) = w5 at *
    clear R dR ht HXS hi0 hz0 hz1 hz2 i0 XS
    obtain ⟨i0, hi0, hz0, hz1, hz2⟩ := info_parts node_info
    have E5 := HE5.out
    have hBw : B ≤ w5.heap.size := E5.size
    obtain ⟨XS, hXS⟩ : ∃ XS, nodesC l = XS := ⟨_, rfl⟩
    have hcut : w5.ownsRow B 39 9 (.slice A2 L c2) L XS := by
      have := E5.nodes
      rw [HL.out, hXS] at this
      exact this
    have HXS := hidd hXS
    clear hXS
    have hvb : (Value.slice A2 L c2).ownBlock ≠ some b := own_neR hcut E5.row (by decide)
    have hvq : (Value.slice A2 L c2).ownBlock ≠ some q := fun e => by
      have h1 := (HH.out.nodes.lt q e).2
      have h2 := HQ.out
      omega
    have hnw : ∀ k, w5.heap.size ≤ k → (Value.slice A2 L c2).ownBlock ≠ some k := fun k hk e => by have := (hcut.lt k e).2; omega
    refine wp_region_slotsA 8 (by decide) (by kernel_rfl) (by kernel_rfl) (fun _ _ => true) (AppS w5 B b q 42 (plC tv most (.slice A2 L c2) (.slice A5 (r + 1) c5)) (gdL x' kA kc).toArray 39 9 (.slice A2 L c2) L XS (gdL x' kA kc) 52) (NdG w5 b q L A2 c2 x' kA kc) (EbS 52 (.slice A2 L c2)) (by kernel_rfl) (by kernel_rfl) (by kernel_rfl) (by kernel_rfl) ?_ ⟨R5, E5.row, grown_below ⟨rfl, rfl, rfl, Nat.le_refl _, fun _ _ _ => rfl⟩ (bel_drew (Below.refl _ _)), hcut, fun z hz => .inl (Option.some.inj hz).symm⟩ [0, 4] (by kernel_rfl) ?_ ?_ ?_
    · intro t d z u u' _ h hE
      refine ⟨h.1, fun R hR => ?_⟩
      have h2 := h.2 R hR
      unfold NdGP at hR
      split at hR
      · cases hR
        exact NewR.stab h2 hE
      · cases hR
        exact h2
      · cases hR
    · intro a u _
      refine ⟨⟨_, rfl, ?_⟩, ⟨_, rfl, ?_⟩, trivial⟩
      · exact ⟨fun _ h => Option.some.inj h, fun _ h => no_some h⟩
      · exact ⟨fun _ h => Option.some.inj h, fun _ h => no_some h⟩
    · refine ⟨?_, ?_, ?_, ?_, ?_, ?_, ?_, ?_, trivial⟩
      · intro a u hS hr K hK
        obtain ⟨⟨vl0, e0, g0⟩, -⟩ := hr
        obtain rfl := g0.1 _ rfl
        clear g0
        rw [if_pos (want_none rfl)]
        unfold Oper.wp
        go_simp
        exact hK _ _ ⟨fun _ h => Option.some.inj h, fun _ h => no_some h⟩ (hS.put rfl _) (eby rfl (Below.refl _ _))
      · intro a u hS hr K hK
        obtain ⟨⟨vl0, e0, g0⟩, -⟩ := hr
        obtain rfl := g0.1 _ rfl
        clear g0
        rw [if_pos (want_none rfl)]
        unfold Oper.wp
        go_simp
        exact hK _ _ ⟨fun _ h => Option.some.inj h, fun _ h => no_some h⟩ (hS.put rfl _) (eby rfl (Below.refl _ _))
      · intro a u hS hr K hK
        obtain ⟨⟨vl0, e0, g0⟩, -⟩ := hr
        obtain rfl := g0.1 _ rfl
        clear g0
        rw [if_pos (want_none rfl)]
        unfold Oper.wp
        go_simp
        exact hK _ _ ⟨fun _ h => Option.some.inj h, fun _ h => no_some h⟩ (hS.put rfl _) (eby rfl (Below.refl _ _))
      · intro a u hS hr K hK
        obtain ⟨⟨vl0, e0, g0⟩, -⟩ := hr
        obtain rfl := g0.1 _ rfl
        clear g0
        rw [if_pos (want_none rfl)]
        unfold Oper.wp
        go_simp
        exact hK _ _ ⟨fun _ h => Option.some.inj h, fun _ h => no_some h⟩ (hS.put rfl _) (eby rfl (Below.refl _ _))
      · intro a u hS hr K hK
        obtain ⟨⟨vl0, e0, g0⟩, -⟩ := hr
        obtain rfl := g0.1 _ rfl
        clear g0
        rw [if_pos (want_none rfl)]
        have dN := hS.row.at_ (k := 2) rfl
        unfold Oper.wp
        go_simp
        exact hK _ _ ⟨fun _ h => Option.some.inj h, fun _ h => no_some h⟩ (hS.put rfl _) (eby rfl (Below.refl _ _))
      · intro a u hS hr K hK
        obtain ⟨⟨vl0, e0, g0⟩, -⟩ := hr
        obtain rfl := g0.1 _ rfl
        clear g0
        rw [if_pos (want_none rfl)]
        obtain ⟨c0, c1, c2, c3, c4, c5, c6, c7, c8⟩ := node_cells hS.box
        unfold Oper.wp
        go_simp
        exact hK _ _ ⟨fun _ h => Option.some.inj h, fun _ h => no_some h⟩ (hS.put rfl _) (eby rfl (Below.refl _ _))
      · intro a u hS hr K hK
        obtain ⟨⟨vl0, e0, g0⟩, -⟩ := hr
        obtain rfl := g0.1 _ rfl
        clear g0
        rw [if_pos (want_none rfl)]
        unfold Oper.wp
        go_simp
        exact hK _ _ ⟨fun _ h => no_some h, fun _ h => spec_ok h (⟨_, rfl, hnw _ hS.grow.size, hS.grow.size, RowA.new _ _ _⟩)⟩ ((hS.below ((Below.refl _ _).alloc (Nat.le_refl _) _)).put rfl _) (eby rfl ((Below.refl _ _).alloc (Nat.le_refl _) _))
      · intro a u hS hr K hK
        obtain ⟨⟨vl0, e0, g0⟩, ⟨vl1, e1, g1⟩, -⟩ := hr
        obtain rfl := g0.1 _ rfl
        clear g0
        replace g1 := g1.2 _ rfl
        rw [if_pos (want_none rfl)]
        obtain ⟨g, rfl, hgv, hg, Rg⟩ := g1
        refine wp_append_both u (.tmp 49) (.tmp 51) 22 rfl B 39 i0 _ 9 96 Try.underlying22 hi0 hz0 hz1 hz2 rfl (by omega) (.slice A2 L c2) L XS (eval_at e0) hS.own ⟨g, 0, none⟩ 1 1 (gdL x' kA kc) (eval_at e1) rfl (World.news_of_block Rg) (gdL_ones x' kA kc) (by simp only [maxLen]; omega) (by omega) (Nat.le_trans hBw hS.grow.size) ?_
        intro v' u1 h1 h2 h3 h4
        exact hK _ _ ⟨fun _ h => no_some h, fun _ h => spec_ok h (own_not h1)⟩ (hS.app_ hvb hvq h1 h2 h3 h4) (ebw rfl h3)
    intro a u hS hts hd hkn hf
    obtain ⟨v45, e45, g45⟩ := hf 0 _ 45 (by decide) rfl rfl (fun _ => rfl)
    obtain ⟨v46, e46, g46⟩ := hf 1 _ 46 (by decide) rfl rfl (fun _ => rfl)
    obtain ⟨v47, e47, g47⟩ := hf 2 _ 47 (by decide) rfl rfl (fun _ => rfl)
    obtain ⟨v48, e48, g48⟩ := hf 3 _ 48 (by decide) rfl rfl (fun _ => rfl)
    obtain ⟨v49, e49, g49⟩ := hf 4 _ 49 (by decide) rfl rfl (fun _ => rfl)
    obtain ⟨v50, e50, g50⟩ := hf 5 _ 50 (by decide) rfl rfl (fun _ => rfl)
    obtain ⟨v51, e51, g51⟩ := hf 6 _ 51 (by decide) rfl rfl (fun _ => rfl)
    obtain ⟨v52, e52, g52⟩ := hf 7 _ 52 (by decide) rfl rfl (fun _ => rfl)
    obtain ⟨v53, e53⟩ : ∃ z, a.tmps[53]? = some z := ⟨_, Array.getElem?_eq_getElem (by rw [hts]; simp)⟩
    obtain ⟨v54, e54⟩ : ∃ z, a.tmps[54]? = some z := ⟨_, Array.getElem?_eq_getElem (by rw [hts]; simp)⟩
    have hA := act_puts [(45, v45), (46, v46), (47, v47), (48, v48), (49, v49), (50, v50), (51, v51), (52, v52), (53, v53), (54, v54)] hts hd hkn (by kernel_rfl) (by simp [e45, e46, e47, e48, e49, e50, e51, e52, e53, e54])
    have hown := (hS.app v52 e52).resolve_left (g52.2 _ rfl)
    have hgrow := hS.grow
    have R := hS.row
    clear hS
    clear hf hts hd hkn e45 e46 e47 e48 e49 e50 e51 e52 e53 e54
    obtain rfl := g45.1 _ rfl
    clear g45
    obtain rfl := g46.1 _ rfl
    clear g46
    obtain rfl := g47.1 _ rfl
    clear g47
    obtain rfl := g48.1 _ rfl
    clear g48
    obtain rfl := g49.1 _ rfl
    clear g49
    obtain rfl := g50.1 _ rfl
    clear g50
    replace g51 := g51.2 _ rfl
    replace g52 := g52.2 _ rfl
    subst hA
    simp only [List.foldl, List.setIfInBounds_toArray, List.set_cons_zero, List.set_cons_succ]
    simp only [List.drop_succ_cons, List.drop_zero]
    clear g51 g52 R5 hcut E5
    obtain ⟨hown, hat⟩ := hown
    obtain ⟨A6, c6, rfl⟩ := own_form hown
    have dN := R.at_ (k := 2) rfl
    have ht := R.thawed
    have hown2 : u.ownsRow B 39 9 (.slice A6 (L + 1) c6) (l ++ [(x', kA, kc)]).length (nodesC (l ++ [(x', kA, kc)])) := by
      have e : (l ++ [(x', kA, kc)]).length = L + 1 := by rw [List.length_append, HL.out, List.length_singleton]
      rw [e, ← nodesC_snoc, HXS.out]
      exact hown
    have HE6 := hidd (HE5.out.addNode hgrow hown2 HK5.out)
    have HB6 := hidd (bel_set (bel_row HB5.out hBw hgrow (fun k hk => (HE5.out.nodes.lt k hk).1)) ⟨b, 2, none⟩ (.slice A6 (L + 1) c6) HE5.out.hb)
    have HF6 : Hid (∀ k, k < q → k ≠ b → (Value.slice A2 L c2).ownBlock ≠ some k → (Value.slice A9 m c9).ownBlock ≠ some k → (u.setCell ⟨b, 2, none⟩ (.slice A6 (L + 1) c6)).heap[k]? = w.heap[k]?) := fun k hk h1 h2 h3 => (Below.heap_setCell _ _ _ _ h1).trans ((hgrow.block k (Nat.lt_of_lt_of_le hk HW5.out) (fun e => h2 e.symm)).trans (HF5.out k hk h1 h3))
    have HN6 : Hid (∀ k, (Value.slice A6 (L + 1) c6).ownBlock = some k → (Value.slice A2 L c2).ownBlock = some k ∨ q ≤ k) := fun k hk => by
      rcases hat with e | ⟨k', e1, e2⟩
      · exact .inl (e ▸ hk)
      · rw [e1] at hk
        cases hk
        exact .inr (Nat.le_trans HW5.out e2)
    clear hown hat hgrow hown2 HE5 HB5 HK5 hnw hvb hvq hBw
    go_wp2
    go_ret
    refine ⟨rfl, HB6.out, .slice A6 (L + 1) c6, .slice A5 (r + 1) c5, kA, kc, by rw [HQ.out]; exact HF6.out, by rw [HQ.out]; exact HN6.out, by rw [HQ.out]; exact HR5.out, ?_⟩
    rw [HXE.out]
    exact HE6.out
set_option maxHeartbeats 400000 in
theorem put_full {B : Nat} {w : World} {b : Nat} {tv : Value} {most : Int} {nv rv : Value} {l : List NR} {rt : List Nat} (h : PM B w b tv most nv rv l rt) (x : Gd) (A : Option Addr) (c : Nat) (kn : Nat) (hl : l.length = 1024) :
    Calls Try.prog 28 #[.pointer (some ⟨b, 0, none⟩), .agg (gdL x A c).toArray, .int .i64 (kn : Int)] w fun e w' => e = .returned (.bool false) ∧ Below w.heap.size w w' := by
  obtain ⟨A2, c2, rfl⟩ := own_form h.nodes
  obtain ⟨d0, d1, d2, d3⟩ := h.cells
  rw [hl] at d2
  have hb := h.row.lt
  have hbq : Below w.heap.size w (w.alloc (.cells (gdL x A c).toArray 39)) := (Below.refl w.heap.size w).alloc (Nat.le_refl _) _
  clear h hl
  unfold gdL at hbq ⊢
  go_enter Try.func28, Try.ntmps28
  go_wp2
  go_ret
  exact ⟨rfl, hbq⟩
end Go.Proofs.Ytaagkfiaccmepaa.Sy.Pl

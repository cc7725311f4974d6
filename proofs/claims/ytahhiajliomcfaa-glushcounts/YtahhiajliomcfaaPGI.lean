/- The reference's places: whether two are the same. -/
import Derived.Test.YtahhiajliomcfaaPGG
namespace Go.Proofs.Ytahhiajliomcfaa.Sy.Gl
open Go.RowKit Go.Proofs.Ytahhiajliomcfaa.Sy.Ap Go.Proofs.Ytahhiajliomcfaa.Sy.Ap.Wk Go.Proofs.Ytahhiajliomcfaa.Sy.Lg Go.Proofs.Ytahhiajliomcfaa.Sy.Pl
set_option maxRecDepth 100000
set_option linter.unusedVariables false

theorem Its.below {w w' : World} {B : Nat} {A : Option Addr} {xs : List Int} (h : Its w B A xs) (hb : Below B w w') : Its w' B A xs := fun hne => by
  obtain ⟨g, off, e1, e2, e3⟩ := h hne
  exact ⟨g, off, e1, e2, fun i hi => (hb.cell (p := ⟨g, off + i, none⟩) (by show g < _; exact e2)).trans (e3 i hi)⟩
theorem Its.more {w : World} {B B' : Nat} {A : Option Addr} {xs : List Int} (h : Its w B A xs) (hB : B ≤ B') : Its w B' A xs := fun hne => by
  obtain ⟨g, off, e1, e2, e3⟩ := h hne
  exact ⟨g, off, e1, by omega, e3⟩
theorem rsame_any (A A2 : Option Addr) (c c2 : Nat) (xs ys : List Int) (w : World) (hx : Its w w.heap.size A xs) (hy : Its w w.heap.size A2 ys) (hl : xs.length ≤ 1000000) (hl2 : ys.length ≤ 1000000) :
    Calls Try.prog 30 #[.slice A xs.length c, .slice A2 ys.length c2] w fun e w' => Below w.heap.size w w' ∧ ∃ z, e = .returned (.bool z) ∧ (z = true ↔ xs = ys) := by
  obtain ⟨n, hn⟩ : ∃ n, xs.length = n := ⟨_, rfl⟩
  obtain ⟨n2, hn2⟩ : ∃ n2, ys.length = n2 := ⟨_, rfl⟩
  have HN := hidd hn
  have HN2 := hidd hn2
  have HX := hidd hx
  have HY := hidd hy
  rw [hn] at hl ⊢
  rw [hn2] at hl2 ⊢
  clear hx hy hn hn2
  by_cases hnn : n = n2
  · subst hnn
    go_enter Try.func30, Try.ntmps30
    go_wp2
    go_loopw [5] (fun s5 wr => ∃ (k m : Nat), k ≤ n ∧ s5 = .int .i64 (k : Int) ∧ (∀ i, i < k → xs.getD i 0 = ys.getD i 0) ∧ wr = w.drewN m) (fun s5 _ => n - (intOf s5).toNat)
    case atStart => exact ⟨0, 0, Nat.zero_le _, rfl, fun i hi => absurd hi (Nat.not_lt_zero _), rfl⟩
    case round =>
      obtain ⟨k, m, hk0, rfl, hp, rfl⟩ := hrel
      have HP := hidd hp
      clear hp
      by_cases hlt : k < n
      · obtain ⟨g1, o1, rfl, hg1, hc1⟩ := HX.out (fun e => by have := HN.out; rw [e] at this; simp at this; omega)
        obtain ⟨g2, o2, rfl, hg2, hc2⟩ := HY.out (fun e => by have := HN2.out; rw [e] at this; simp at this; omega)
        have z1 : w.cell? ⟨g1, o1 + k, none⟩ = some (.int .i64 (xs.getD k 0)) := hc1 k (by rw [HN.out]; exact hlt)
        have z2 : w.cell? ⟨g2, o2 + k, none⟩ = some (.int .i64 (ys.getD k 0)) := hc2 k (by rw [HN2.out]; exact hlt)
        have y1 : (w.drewN m).cell? ⟨g1, o1 + k, none⟩ = some (.int .i64 (xs.getD k 0)) := hc1 k (by rw [HN.out]; exact hlt)
        have y2 : (w.drewN m).cell? ⟨g2, o2 + k, none⟩ = some (.int .i64 (ys.getD k 0)) := hc2 k (by rw [HN2.out]; exact hlt)
        have hki : (k : Int) < (n : Int) := by omega
        have HQ : Hid (xs.getD k 0 = ys.getD k 0 → ∀ i, i < k + 1 → xs.getD i 0 = ys.getD i 0) := fun q i hi => by
          by_cases e : i = k
          · subst e; exact q
          · exact HP.out i (by omega)
        have HNE : Hid (xs.getD k 0 ≠ ys.getD k 0 → ¬ xs = ys) := fun q e => q (by rw [e])
        clear hc1 hc2
        generalize xs.getD k 0 = x at *
        generalize ys.getD k 0 = y at *
        by_cases he : x = y
        · subst he
          have HQ2 := hidd (HQ.out rfl)
          clear HQ HNE
          go_wp2
          go_quiet (fail)
          go_wp2
          exact ⟨⟨k + 1, m + nq, by omega, rfl, HQ2.out, by simp [World.drewN]⟩, by simp [intOf]; omega⟩
        · have HNE2 := hidd (HNE.out he)
          have hbe : (x == y) = false := beq_eq_false_iff_ne.2 he
          clear HQ HNE he
          go_wp2
          go_quiet (fail)
          go_wp2
          go_ret
          exact ⟨bel_drewN (bel_drewN (Below.refl _ _) _) _, false, rfl, ⟨(fun q => by cases q), fun q => absurd q HNE2.out⟩⟩
      · have hkn : k = n := by omega
        subst hkn
        have HE : Hid (xs = ys) := by
          apply List.ext_getElem (by rw [HN.out, HN2.out])
          intro i h1 h2
          have h := HP.out i (by rw [← HN.out]; exact h1)
          rw [List.getD_eq_getElem?_getD, List.getD_eq_getElem?_getD, List.getElem?_eq_getElem h1, List.getElem?_eq_getElem h2] at h
          exact h
        go_wp2
        go_ret
        exact ⟨bel_drewN (Below.refl _ _) _, true, rfl, ⟨fun _ => HE.out, fun _ => rfl⟩⟩
  · have hne : ((n : Int) == (n2 : Int)) = false := beq_eq_false_iff_ne.2 (by omega)
    have HNE : Hid (¬ xs = ys) := fun e => hnn (by rw [← HN.out, ← HN2.out, e])
    clear hnn
    go_enter Try.func30, Try.ntmps30
    go_wp2
    go_ret
    exact ⟨Below.refl _ _, false, rfl, ⟨(fun q => by cases q), fun q => absurd q HNE.out⟩⟩
end Go.Proofs.Ytahhiajliomcfaa.Sy.Gl

namespace Go.Proofs.Ytahhiajliomcfaa.Sy.Gl
open Go.RowKit Go.Proofs.Ytahhiajliomcfaa.Sy.Ap Go.Proofs.Ytahhiajliomcfaa.Sy.Ap.Wk Go.Proofs.Ytahhiajliomcfaa.Sy.Lg Go.Proofs.Ytahhiajliomcfaa.Sy.Pl
set_option maxRecDepth 100000
set_option linter.unusedVariables false

abbrev natI (l : List Nat) : List Int := l.map fun k : Nat => (k : Int)
/-- Two places are one to whoever reads them. -/
structure PnE (p q : Pn) : Prop where
  s : ∀ b, b < 256 → p.s b = q.s b
  lo : p.lo = q.lo
  hi : p.hi = q.hi
  rule : p.rule = q.rule
  last : p.last = q.last
  next : p.next = q.next
def PsE (ps qs : List Pn) : Prop := ps.length = qs.length ∧ ∀ i, i < ps.length → PnE (ps.getD i pn0) (qs.getD i pn0)
/-- The slice at A reads as these places. -/
def Pcs (w : World) (B : Nat) (A : Option Addr) (ps : List Pn) : Prop :=
  ps ≠ [] → ∃ g off, A = some ⟨g, off, none⟩ ∧ g < B ∧ ∀ i, i < ps.length → ∃ A' c', Its w B A' (natI (ps.getD i pn0).next) ∧ w.rangeAt g (off + i * 9) (posL (ps.getD i pn0) A' c')
theorem Pcs.below {w w' : World} {B : Nat} {A : Option Addr} {ps : List Pn} (h : Pcs w B A ps) (hb : Below B w w') : Pcs w' B A ps := fun hne => by
  obtain ⟨g, off, e1, e2, e3⟩ := h hne
  exact ⟨g, off, e1, e2, fun i hi => by
    obtain ⟨A', c', h1, h2⟩ := e3 i hi
    exact ⟨A', c', h1.below hb, fun j v hv => (hb.cell (by show g < _; exact e2)).trans (h2 j v hv)⟩⟩
theorem Pcs.more {w : World} {B B' : Nat} {A : Option Addr} {ps : List Pn} (h : Pcs w B A ps) (hB : B ≤ B') : Pcs w B' A ps := fun hne => by
  obtain ⟨g, off, e1, e2, e3⟩ := h hne
  exact ⟨g, off, e1, by omega, fun i hi => by
    obtain ⟨A', c', h1, h2⟩ := e3 i hi
    exact ⟨A', c', h1.more hB, h2⟩⟩
theorem Pcs.at_ {w : World} {B : Nat} {A : Option Addr} {ps : List Pn} (h : Pcs w B A ps) {i : Nat} (hi : i < ps.length) : ∃ g off A' c', A = some ⟨g, off, none⟩ ∧ g < B ∧ Its w B A' (natI (ps.getD i pn0).next) ∧ w.rangeAt g (off + i * 9) (posL (ps.getD i pn0) A' c') := by
  obtain ⟨g, off, e1, e2, e3⟩ := h (fun e => by rw [e] at hi; cases hi)
  obtain ⟨A', c', h1, h2⟩ := e3 i hi
  exact ⟨g, off, A', c', e1, e2, h1, h2⟩
theorem posL_info (p : Pn) (A : Option Addr) (c : Nat) : (Try.prog.info? 44).map (·.size) = some (posL p A c).length := by
  show _ = some 9
  kernel_rfl
theorem posL_infoA (p : Pn) (A : Option Addr) (c : Nat) : (Try.prog.info? 44).map (·.size) = some (posL p A c).toArray.size := by
  show _ = some 9
  kernel_rfl
theorem posL_one (p : Pn) (A : Option Addr) (c : Nat) : (posL p A c).toArray.all (·.oneCell') = true := by simp [posL, Value.oneCell']
abbrev posZ : Array Value := #[.int .u64 0, .int .u64 0, .int .u64 0, .int .u64 0, .int .i64 0, .int .i64 0, .int .i64 0, .bool false, .slice none 0 0]
theorem pos_cells {w : World} {b : Nat} {p : Pn} {A : Option Addr} {c : Nat} (r : RowA w b 44 (posL p A c).toArray) :
    w.cell? ⟨b, 0, none⟩ = some (.int .u64 (W p.s 0)) ∧ w.cell? ⟨b, 1, none⟩ = some (.int .u64 (W p.s 1)) ∧ w.cell? ⟨b, 2, none⟩ = some (.int .u64 (W p.s 2)) ∧ w.cell? ⟨b, 3, none⟩ = some (.int .u64 (W p.s 3)) ∧ w.cell? ⟨b, 4, none⟩ = some (.int .i64 p.lo) ∧ w.cell? ⟨b, 5, none⟩ = some (.int .i64 p.hi) ∧ w.cell? ⟨b, 6, none⟩ = some (.int .i64 ((p.rule : Nat) : Int)) ∧ w.cell? ⟨b, 7, none⟩ = some (.bool p.last) ∧ w.cell? ⟨b, 8, none⟩ = some (.slice A p.next.length c) :=
  ⟨r.at_ rfl, r.at_ rfl, r.at_ rfl, r.at_ rfl, r.at_ rfl, r.at_ rfl, r.at_ rfl, r.at_ rfl, r.at_ rfl⟩
set_option maxHeartbeats 2000000 in
theorem rSame_any (F1 F2 P1 P2 : Option Addr) (k1 k2 d1 d2 : Nat) (f : List Nat) (ps qs : List Pn) (w : World) (h1 : Its w w.heap.size F1 (natI f)) (h2 : Its w w.heap.size F2 (natI f)) (hx : Pcs w w.heap.size P1 ps) (hy : Pcs w w.heap.size P2 qs) (he : PsE ps qs) (lf : f.length ≤ 1000) (lx : ps.length ≤ 1000) (hl : ∀ i, i < ps.length → (ps.getD i pn0).next.length ≤ 1000) :
    Calls Try.prog 14 #[.agg #[.slice F1 f.length k1, .slice P1 ps.length d1], .agg #[.slice F2 f.length k2, .slice P2 qs.length d2]] w fun e w' => e = .returned (.bool true) ∧ Below w.heap.size w w' := by
  rw [← he.1]
  obtain ⟨n, hn⟩ : ∃ n, ps.length = n := ⟨_, rfl⟩
  have HN := hidd hn
  have HN2 : Hid (qs.length = n) := he.1.symm.trans hn
  have HE : Hid (∀ i, i < n → PnE (ps.getD i pn0) (qs.getD i pn0)) := by rw [← hn]; exact he.2
  have HL : Hid (∀ i, i < n → (ps.getD i pn0).next.length ≤ 1000) := by rw [← hn]; exact hl
  rw [hn] at lx ⊢
  have R1 := RowA.new w 26 #[.slice F1 f.length k1, .slice P1 n d1]
  have R2 := RowA.new (w.alloc (.cells #[.slice F1 f.length k1, .slice P1 n d1] 26)) 26 #[.slice F2 f.length k2, .slice P2 n d2]
  have hs1 : (w.alloc (.cells #[.slice F1 f.length k1, .slice P1 n d1] 26)).heap.size = w.heap.size + 1 := World.size_alloc ..
  have b2 : Below w.heap.size w ((w.alloc (.cells #[.slice F1 f.length k1, .slice P1 n d1] 26)).alloc (.cells #[.slice F2 f.length k2, .slice P2 n d2] 26)) := ((Below.refl _ _).alloc (Nat.le_refl _) _).alloc (by rw [hs1]; omega) _
  have R1b := R1.alloc (.cells #[.slice F2 f.length k2, .slice P2 n d2] 26)
  rw [hs1] at R2
  have HX := hidd hx
  have HY := hidd hy
  obtain ⟨m, hm⟩ : ∃ m, f.length = m := ⟨_, rfl⟩
  have HM := hidd hm
  have hc := rsame_any F1 F2 k1 k2 (natI f) (natI f) _ ((h1.below b2).more b2.size) ((h2.below b2).more b2.size) (by rw [List.length_map]; omega) (by rw [List.length_map]; omega)
  rw [List.length_map] at hc
  rw [hm] at hc lf b2 R2 R1b ⊢
  clear hn he hl hx hy h1 h2 R1 hm hs1
  have HB2 := hidd b2
  go_enter Try.func14, Try.ntmps14
  go_upto_region 1 with fail
  generalize (w.alloc (.cells #[.slice F1 m k1, .slice P1 n d1] 26)).alloc (.cells #[.slice F2 m k2, .slice P2 n d2] 26) = w2 at *
  have z0 : w2.cell? ⟨w.heap.size, 0, none⟩ = some (.slice F1 m k1) := R1b.at_ rfl
  have z1 : w2.cell? ⟨w.heap.size, 1, none⟩ = some (.slice P1 n d1) := R1b.at_ rfl
  have y0 : w2.cell? ⟨w.heap.size + 1, 0, none⟩ = some (.slice F2 m k2) := R2.at_ rfl
  have y1 : w2.cell? ⟨w.heap.size + 1, 1, none⟩ = some (.slice P2 n d2) := R2.at_ rfl
  have HR1 := hidd R1b
  have HR2 := hidd R2
  clear R1b R2 b2
  obtain ⟨q1, hq1⟩ : ∃ q1, w.heap.size = q1 := ⟨_, rfl⟩
  have HQ1 := hidd hq1
  rw [hq1] at z0 z1 y0 y1 HR1 HR2 ⊢
  clear hq1
  obtain ⟨q2, hq2⟩ : ∃ q2, q1 + 1 = q2 := ⟨_, rfl⟩
  rw [hq2] at y0 y1 HR2 ⊢
  clear hq2
  go_wp2_with fail
  refine hc.mono ?_
  clear hc
  rintro e w3 ⟨b3, z, rfl, hz⟩
  obtain rfl : z = true := hz.2 (by first | trivial | rfl)
  have R1 := HR1.out.below b3 HR1.out.lt
  have R2 := HR2.out.below b3 HR2.out.lt
  have HB3 : Hid (Below w.heap.size w w3) := HB2.out.trans (b3.mono HB2.out.size)
  have z2 : w3.cell? ⟨q1, 1, none⟩ = some (.slice P1 n d1) := R1.at_ rfl
  have y2 : w3.cell? ⟨q2, 1, none⟩ = some (.slice P2 n d2) := R2.at_ rfl
  have HR3 := hidd R1
  have HR4 := hidd R2
  clear z0 z1 y0 y1 b3 hz HR1 HR2 R1 R2
  go_wp2
  clear z2 y2
  go_loopw [5] (fun s5 wr => ∃ k : Nat, k ≤ n ∧ s5 = .int .i64 k ∧ Below w3.heap.size w3 wr) (fun s5 _ => n - (intOf s5).toNat)
  case atStart => exact ⟨0, Nat.zero_le _, rfl, Below.refl _ _⟩
  case round =>
    obtain ⟨k, hk0, rfl, D⟩ := hrel
    have x1 : wr.cell? ⟨q1, 1, none⟩ = some (.slice P1 n d1) := (HR3.out.below D HR3.out.lt).at_ rfl
    have x2 : wr.cell? ⟨q2, 1, none⟩ = some (.slice P2 n d2) := (HR4.out.below D HR4.out.lt).at_ rfl
    by_cases hlt : k < n
    · have DW : Below w.heap.size w wr := HB3.out.trans (D.mono HB3.out.size)
      obtain ⟨b1, o1, A3, c3, rfl, hb1, i1, r1⟩ := (HX.out.below DW).at_ (i := k) (by rw [HN.out]; exact hlt)
      obtain ⟨b2, o2, A4, c4, rfl, hb2, i2, r2⟩ := (HY.out.below DW).at_ (i := k) (by rw [HN2.out]; exact hlt)
      have hE := HE.out k hlt
      have hll := HL.out k hlt
      generalize ps.getD k pn0 = p at *
      generalize qs.getD k pn0 = p' at *
      have hki : (k : Int) < (n : Int) := by omega
      have hbs := DW.size
      have Z1 := RowA.new wr 44 posZ
      have hW1 : Below wr.heap.size wr ((wr.alloc (.cells posZ 44)).setRow wr.heap.size (posL p A3 c3).toArray) := bel_setRow ((Below.refl _ _).alloc (Nat.le_refl _) _) _ _ (Nat.le_refl _)
      have R1 := Z1.row (posL p A3 c3).toArray
      have HD := hidd D
      clear DW D
      go_upto_region 7 with (first
        | refine wpList_load_mid rfl 44 (.tmp 33) rfl b1 (o1 + k * 9) rfl (posL p A3 c3) _ r1 Try.underlying44 rfl (posL_info p A3 c3) ?_
        | refine wpList_store_row rfl 44 (.tmp 6) (.tmp 34) rfl wr.heap.size (posL p A3 c3).toArray rfl rfl 44 posZ Z1 (posL_infoA p A3 c3) rfl (posL_one p A3 c3) ?_)
      have D1 := HD.out.trans (hW1.mono HD.out.size)
      have r2' : ((wr.alloc (.cells posZ 44)).setRow wr.heap.size (posL p A3 c3).toArray).rangeAt b2 (o2 + k * 9) (posL p' A4 c4) := fun j v hv => (hW1.cell (by show b2 < _; omega)).trans (r2 j v hv)
      have j1 := i1.below (hW1.mono hbs)
      have j2 := i2.below (hW1.mono hbs)
      have x3 := (HR4.out.below D1 HR4.out.lt).at_ (k := 1) rfl
      change RowA _ _ _ _ at R1
      generalize hw1 : (wr.alloc (.cells posZ 44)).setRow wr.heap.size (posL p A3 c3).toArray = w1 at *
      clear hw1 r1 r2 i1 i2 x1 x2
      have hs1 : w.heap.size ≤ w1.heap.size := by have := hW1.size; omega
      clear Z1 hW1
      have Z2 := RowA.new w1 44 posZ
      have hW2 : Below w1.heap.size w1 ((w1.alloc (.cells posZ 44)).setRow w1.heap.size (posL p' A4 c4).toArray) := bel_setRow ((Below.refl _ _).alloc (Nat.le_refl _) _) _ _ (Nat.le_refl _)
      have R2 := Z2.row (posL p' A4 c4).toArray
      have HD1 := hidd D1
      clear D1
      go_upto_region 8 with (first
        | refine wpList_load_mid rfl 44 (.tmp 38) rfl b2 (o2 + k * 9) rfl (posL p' A4 c4) _ r2' Try.underlying44 rfl (posL_info p' A4 c4) ?_
        | refine wpList_store_row rfl 44 (.tmp 7) (.tmp 39) rfl w1.heap.size (posL p' A4 c4).toArray rfl rfl 44 posZ Z2 (posL_infoA p' A4 c4) rfl (posL_one p' A4 c4) ?_)
      have S1 := R1.below hW2 R1.lt
      have HD2 := hidd (HD1.out.trans (hW2.mono HD1.out.size))
      have k3 := (j1.below (hW2.mono hs1)).more (show w.heap.size ≤ _ from Nat.le_trans hs1 hW2.size)
      have k4 := (j2.below (hW2.mono hs1)).more (show w.heap.size ≤ _ from Nat.le_trans hs1 hW2.size)
      generalize (w1.alloc (.cells posZ 44)).setRow w1.heap.size (posL p' A4 c4).toArray = w4 at *
      clear Z2 hW2 R1 r2' j1 j2 x3
      obtain ⟨a0, a1, a2, a3, a4, a5, a6, a7, a8⟩ := pos_cells S1
      obtain ⟨e0, e1, e2, e3, e4, e5, e6, e7, e8⟩ := pos_cells R2
      generalize wr.heap.size = g1 at *
      generalize w1.heap.size = g2 at *
      have hsn : ∀ v, (binOp .neq 40 (.agg #[.int .u64 (W (p.s) 0), .int .u64 (W (p.s) 1), .int .u64 (W (p.s) 2), .int .u64 (W (p.s) 3)]) (.agg #[.int .u64 (W (p'.s) 0), .int .u64 (W (p'.s) 1), .int .u64 (W (p'.s) 2), .int .u64 (W (p'.s) 3)])).run Try.prog v = .ok (.bool false) v := fun v => by rw [set_neq, eqB_true hE.s]; rfl
      rw [← hE.lo] at e4
      rw [← hE.hi] at e5
      rw [← hE.rule] at e6
      rw [← hE.last] at e7
      rw [← hE.next] at e8 k4
      have hc := rsame_any A3 A4 c3 c4 (natI p.next) (natI p.next) w4 k3 k4 (by rw [List.length_map]; omega) (by rw [List.length_map]; omega)
      rw [List.length_map] at hc
      clear hE S1 R2 k3 k4
      generalize p.next.length = ml at *
      generalize p.lo = lo at *
      generalize p.hi = hi at *
      generalize ((p.rule : Nat) : Int) = ru at *
      generalize p.last = la at *
      cases la with
      | true =>
        rw [put_non]
        go_wp2_with fail
        refine hc.mono ?_
        clear hc
        rintro e w5 ⟨b5, z, rfl, hz⟩
        obtain rfl : z = true := hz.2 (by first | trivial | rfl)
        have HD5 : Hid (Below w3.heap.size w3 w5) := HD2.out.trans (b5.mono HD2.out.size)
        clear hz b5 a0 a1 a2 a3 a4 a5 a6 a7 a8 e0 e1 e2 e3 e4 e5 e6 e7 e8 hsn
        go_wp2
        exact ⟨⟨k + 1, by omega, rfl, HD5.out⟩, by simp [intOf]; omega⟩
      | false =>
        rw [put_non]
        go_wp2_with fail
        refine hc.mono ?_
        clear hc
        rintro e w5 ⟨b5, z, rfl, hz⟩
        obtain rfl : z = true := hz.2 (by first | trivial | rfl)
        have HD5 : Hid (Below w3.heap.size w3 w5) := HD2.out.trans (b5.mono HD2.out.size)
        clear hz b5 a0 a1 a2 a3 a4 a5 a6 a7 a8 e0 e1 e2 e3 e4 e5 e6 e7 e8 hsn
        go_wp2
        exact ⟨⟨k + 1, by omega, rfl, HD5.out⟩, by simp [intOf]; omega⟩
    · have hkn : k = n := by omega
      subst hkn
      go_wp2
      go_ret
      exact ⟨rfl, HB3.out.trans (D.mono HB3.out.size)⟩
end Go.Proofs.Ytahhiajliomcfaa.Sy.Gl

/- The landed builder: what a node has beyond its kids. -/
import Derived.Test.YtahhiajliomcfaaPG7
namespace Go.Proofs.Ytahhiajliomcfaa.Sy.Gl
open Go.RowKit Go.Proofs.Ytahhiajliomcfaa.Sy.Ap Go.Proofs.Ytahhiajliomcfaa.Sy.Ap.Wk Go.Proofs.Ytahhiajliomcfaa.Sy.Lg Go.Proofs.Ytahhiajliomcfaa.Sy.Pl
set_option maxRecDepth 100000
set_option linter.unusedVariables false

theorem W_same {p q : Nat → Bool} (h : ∀ i, i < 256 → p i = q i) {i : Nat} (hi : i < 4) : W p i = W q i := by
  refine W_congr fun j hj => h _ (by omega)
def EbL (d : Option Nat) (u u' : World) : Prop := Below u.heap.size u u'
end Go.Proofs.Ytahhiajliomcfaa.Sy.Gl
namespace Go.Proofs.Ytahhiajliomcfaa.Sy.Gl.Tk
open Go.RowKit Go.Proofs.Ytahhiajliomcfaa.Sy.Ap Go.Proofs.Ytahhiajliomcfaa.Sy.Ap.Wk Go.Proofs.Ytahhiajliomcfaa.Sy.Lg Go.Proofs.Ytahhiajliomcfaa.Sy.Pl
set_option maxRecDepth 100000
set_option linter.unusedVariables false
theorem eby {d : Option Nat} {u u' : World} (_ : true = true) (h : Below u.heap.size u u') : EbL d u u' := h
abbrev ndR (g : Gd) (A : Option Addr) (n c : Nat) : Array Value := #[.int .u8 g.op, .int .u64 (W g.s 0), .int .u64 (W g.s 1), .int .u64 (W g.s 2), .int .u64 (W g.s 3), .slice A n c, .int .i64 g.lo, .int .i64 g.hi, .string g.nm]
set_option linter.unusedVariables false in
def TkGV (bb q gk m ck : Nat) (g : Gd) (A : Option Addr) (n c : Nat) (x : Tv) (t : Nat) : Option Value :=
  match t with
  | 0 => some (.pointer (some ⟨bb, 0, none⟩))
  | 3 => some (.slice (some ⟨gk, 0, none⟩) m ck)
  | 5 => some (.pointer (some ⟨q, 0, none⟩))
  | 29 => some (.pointer (some ⟨bb, 0, none⟩))
  | 30 => some (.agg (ndR g A n c))
  | 31 => some (.slice (some ⟨gk, 0, none⟩) m ck)
  | 32 => some (.pointer (some ⟨gk, 0, none⟩))
  | 33 => some (.agg (ptL x).toArray)
  | _ => none
set_option linter.unusedVariables false in
def TkGP (bb q gk m ck : Nat) (g : Gd) (A : Option Addr) (n c : Nat) (x : Tv) (t : Nat) : Option (Value → World → Prop) :=
  match t with
  | _ => none
def TkG (bb q gk m ck : Nat) (g : Gd) (A : Option Addr) (n c : Nat) (x : Tv) (t : Nat) (v : Value) (u : World) : Prop := (∀ z9, TkGV bb q gk m ck g A n c x t = some z9 → v = z9) ∧ ∀ R, TkGP bb q gk m ck g A n c x t = some R → R v u
/-- What is told of a node's first and last places. -/
def PtQ (B β : Nat) (u : World) (bb fb many : Nat) (pv : Value) (T : (List Nat × List Nat) × Gs) (e : Ending) (u' : World) : Prop :=
  ∃ z pv' l' A1 c1 A2 c2, e = .returned (.agg (ptA A1 T.1.1.length c1 A2 T.1.2.length c2 z)) ∧ BS B u' bb fb many pv' l' T.2.f ∧ l'.map (·.1) = T.2.ps ∧ Keeps (Wb bb fb pv) u u' ∧ Lies u pv pv' ∧ PtOk u' β (⟨T.1.1, T.1.2, z⟩, (A1, c1), A2, c2)
theorem lies_mono {u w : World} {v v' : Value} (h : Lies w v v') (hs : u.heap.size ≤ w.heap.size) : Lies u v v' := by
  rcases h with h | ⟨k, h, h2⟩
  · exact .inl h
  · exact .inr ⟨k, h, by omega⟩
theorem rowp_ptr {B : Nat} {u : World} {bb fb many : Nat} {pv : Value} {l : List Pv} {f : Fol} (hS : BS B u bb fb many pv l f) (A : Option Addr) (c : Nat) (ks : List Tv) {β : Nat} (hβ : β ≤ u.heap.size) (hK : KR u β A c ks) (h1 : (fiL ks).length ≤ 1000) (h2 : (laL ks).length ≤ 1000) (hn : ks.length ≤ 100000) (hm : ∀ x ∈ ks, PtB many x.1) :
    Calls Try.prog 60 #[.pointer (some ⟨bb, 0, none⟩), .slice A ks.length c] u fun e u' => PtR B β u bb fb many pv (l.map (·.1)) (rowG (pts ks) f).2 ⟨(rowG (pts ks) f).1.first, (rowG (pts ks) f).1.last, false⟩ e u' := by
  refine (rowp_any hS A c ks hβ hK h1 h2 hn hm).mono ?_
  rintro e w' ⟨A1, c1, A2, c2, he, s, k, o⟩
  exact ⟨pv, l, A1, c1, A2, c2, he, s, rfl, k, lies_refl _ _, o⟩
theorem oneOf_ptr {B : Nat} {u : World} {bb fb many : Nat} {pv : Value} {l : List Pv} {f : Fol} (hS : BS B u bb fb many pv l f) (A : Option Addr) (c : Nat) (ks : List Tv) {β : Nat} (hβ : β ≤ u.heap.size) (hK : KR u β A c ks) (h1 : (fiL ks).length ≤ 1000) (h2 : (laL ks).length ≤ 1000) (hn : ks.length ≤ 100000) :
    Calls Try.prog 61 #[.slice A ks.length c] u fun e u' => PtR B β u bb fb many pv (l.map (·.1)) f ⟨fiL ks, laL ks, false⟩ e u' := by
  refine (oneOf_any A c ks hK h1 h2 hβ hn).mono ?_
  rintro e w' ⟨A1, c1, A2, c2, he, b, o⟩
  exact ⟨pv, l, A1, c1, A2, c2, he, hS.below b, rfl, Keeps.of_below b, lies_refl _ _, o⟩
set_option maxHeartbeats 2000000 in
theorem take_any {B : Nat} {u : World} {bb fb many : Nat} {pv : Value} {l : List Pv} {f : Fol} (hS : BS B u bb fb many pv l f) (g : Gd) (nd : Nd) (A : Option Addr) (n c : Nat) (hg : GN1 g nd) (Ak : Option Addr) (ck : Nat) (ks : List Tv) {β : Nat} (hβ : β ≤ u.heap.size) (hK : KR u β Ak ck ks) (h1 : (fiL ks).length ≤ 1000) (h2 : (laL ks).length ≤ 1000) (hn : ks.length ≤ 100000) (hm : ∀ x ∈ ks, PtB l.length x.1) (hlm : l.length ≤ many) (rule : Nat)
    (q2 : nd.op = 2 → l.length < 512) (q5 : nd.op = 5 → 0 < ks.length) (q6 : nd.op = 5 → nd.hi ≠ -1 → ∃ k, ((pts ks).getD 0 pt0).first = [k]) {T : (List Nat × List Nat) × Gs} (hT : takeG rule nd (pts ks) ⟨l.map (·.1), f⟩ = T) :
    Calls Try.prog 45 #[.pointer (some ⟨bb, 0, none⟩), .agg (ndR g A n c), .int .i64 (rule : Int), .slice Ak ks.length ck] u fun e u' => PtQ B β u bb fb many pv T e u' := by
  have hop := hg.op
  have hhi := hg.hi
  have hlo := hg.lo
  have hs : ∀ i, i < 4 → W g.s i = W nd.s i := fun i hi => W_same hg.s hi
  have R1 := RowA.new u 42 (ndR g A n c)
  have b1 : Below u.heap.size u (u.alloc (.cells (ndR g A n c) 42)) := (Below.refl _ _).alloc (Nat.le_refl _) _
  have hs1 : (u.alloc (.cells (ndR g A n c) 42)).heap.size = u.heap.size + 1 := World.size_alloc ..
  have R2 := RowA.new (u.alloc (.cells (ndR g A n c) 42)) 57 ptZ
  have b2 : Below u.heap.size u ((u.alloc (.cells (ndR g A n c) 42)).alloc (.cells ptZ 57)) := b1.alloc (by rw [hs1]; omega) _
  have R1b := R1.alloc (.cells ptZ 57)
  rw [hs1] at R2
  have HWL := hidd hS.wlt
  have S2 := hS.below b2
  have K2 := hK.below b2
  have HKB : Hid (Keeps (Wb bb fb pv) u ((u.alloc (.cells (ndR g A n c) 42)).alloc (.cells ptZ 57))) := Keeps.of_below b2
  clear hS hK R1 b1 hs1 b2
  obtain ⟨m, hmm⟩ : ∃ m, ks.length = m := ⟨_, rfl⟩
  have HM := hidd hmm
  rw [hmm]
  clear hmm
  go_enter Try.func45, Try.ntmps45
  go_upto_region 1 with fail
  generalize (u.alloc (.cells (ndR g A n c) 42)).alloc (.cells ptZ 57) = w2 at *
  obtain ⟨q, hq⟩ : ∃ q, u.heap.size = q := ⟨_, rfl⟩
  have HQ := hidd hq
  rw [hq] at R1b R2
  rw [hq]
  clear hq
  have HR1 := hidd R1b
  have HR2 := hidd R2
  have HS2 := hidd S2
  have HK2 := hidd K2
  have hβ2 : β ≤ w2.heap.size := by have h1 := HKB.out.size; have h2 := HQ.out; omega
  have HG := hidd hg
  have x0 : w2.cell? ⟨q, 0, none⟩ = some (.int .u8 g.op) := R1b.at_ rfl
  clear R1b R2 S2 K2 hg
  rw [hop] at x0
  by_cases e2 : nd.op = 2
  · rw [e2] at x0
    have hc := single_any HS2.out nd.s rule (q2 e2) hβ2
    rw [← hs 0 (by omega), ← hs 1 (by omega), ← hs 2 (by omega), ← hs 3 (by omega)] at hc
    have HT : Hid (T = ((([l.length] : List Nat), ([l.length] : List Nat)), ⟨l.map (·.1) ++ [⟨nd.s, 1, 1, rule, false, []⟩], f⟩)) := by
      show _ = _
      rw [← hT]
      unfold takeG
      rw [if_pos e2]
      simp only [List.length_map]
    have z1 : w2.cell? ⟨q, 1, none⟩ = some (.int .u64 (W g.s 0)) := HR1.out.at_ rfl
    have z2 : w2.cell? ⟨q, 2, none⟩ = some (.int .u64 (W g.s 1)) := HR1.out.at_ rfl
    have z3 : w2.cell? ⟨q, 3, none⟩ = some (.int .u64 (W g.s 2)) := HR1.out.at_ rfl
    have z4 : w2.cell? ⟨q, 4, none⟩ = some (.int .u64 (W g.s 3)) := HR1.out.at_ rfl
    obtain ⟨p, hp⟩ : ∃ p : Pt, p = ⟨[l.length], [l.length], false⟩ := ⟨_, rfl⟩
    have HT : Hid (T = ((p.first, p.last), ⟨l.map (·.1) ++ [⟨nd.s, 1, 1, rule, false, []⟩], f⟩)) := by show _ = _; rw [hp]; exact HT.out
    rw [← hp] at hc
    clear hT hp e2 q2 q5 q6 hop hhi hlo hs HK2 hm h1 h2
    go_wp2_with fail
    refine hc.mono ?_
    rintro e w9 ⟨pv', l', A1, c1, A2, c2, rfl, S9, hl9, K9, L9, o9⟩
    have hnq : ∀ j, q ≤ j → ¬ Wb bb fb pv j := fun j hj e => by
      have h1 := HQ.out
      have h2 := HWL.out j e
      omega
    have Z9 : RowA w9 (q + 1) 57 ptZ := row_keeps HR2.out K9 (hnq _ (by omega))
    have hk9 : Keeps (Wb bb fb pv) u w9 := keepsW_trans (keepsW_trans HKB.out (Keeps.of_below (Below.refl _ _))) K9
    have R9 := Z9.row (ptA A1 p.first.length c1 A2 p.last.length c2 p.nul)
    have HF : Hid (PtQ B β u bb fb many pv T (.returned (.agg (ptA A1 p.first.length c1 A2 p.last.length c2 p.nul))) (w9.setRow (q + 1) (ptA A1 p.first.length c1 A2 p.last.length c2 p.nul))) := by
      have h := HT.out
      subst h
      exact ⟨p.nul, pv', l', A1, c1, A2, c2, rfl, BS.setRow S9 Z9 (by decide) _, hl9, keeps_setRow hk9 _ _ (.inr (by have := HQ.out; omega)), lies_mono L9 (keepsW_trans HKB.out (Keeps.of_below (Below.refl _ _))).size, own_setRow o9.1 (own_neR o9.1 Z9 (by decide)) _, own_setRow o9.2 (own_neR o9.2 Z9 (by decide)) _⟩
    have HR9 := hidd R9
    clear S9 K9 L9 o9 hl9 hnq R9 hk9 hc
    go_wp2_with (refine wpList_store_row rfl 57 (.tmp 8) (.tmp 17) rfl (q + 1) (ptA A1 p.first.length c1 A2 p.last.length c2 p.nul) rfl rfl 57 ptZ Z9 (pt_info _ _ _) rfl (pt_ones _ _ _ _ _ _ _) ?_)
    exact ret_part Try.results45 rfl HR9.out rfl HF.out
  · have e2b : ((nd.op : Int) == 2) = false := beq_eq_false_iff_ne.2 (by omega)
    by_cases e3 : nd.op = 3
    · have hc := rowp_ptr HS2.out Ak ck ks hβ2 HK2.out h1 h2 hn (fun x hx => (hm x hx).more hlm)
      have HT : Hid (T = (((rowG (pts ks) f).1.first, (rowG (pts ks) f).1.last), ⟨l.map (·.1), (rowG (pts ks) f).2⟩)) := by
        show _ = _
        rw [← hT]
        unfold takeG
        rw [if_neg e2, if_pos e3]
      rw [HM.out] at hc
      rw [e3] at x0
      obtain ⟨p, hp⟩ : ∃ p : Pt, p = ⟨(rowG (pts ks) f).1.first, (rowG (pts ks) f).1.last, false⟩ := ⟨_, rfl⟩
      have HT : Hid (T = ((p.first, p.last), ⟨l.map (·.1), (rowG (pts ks) f).2⟩)) := by show _ = _; rw [hp]; exact HT.out
      rw [← hp] at hc
      clear hT hp e2 e3 q2 q5 q6 hop hhi hlo hs HK2 hm h1 h2 e2b
      go_wp2_with fail
      refine hc.mono ?_
      rintro e w9 ⟨pv', l', A1, c1, A2, c2, rfl, S9, hl9, K9, L9, o9⟩
      have hnq : ∀ j, q ≤ j → ¬ Wb bb fb pv j := fun j hj e => by
        have h1 := HQ.out
        have h2 := HWL.out j e
        omega
      have Z9 : RowA w9 (q + 1) 57 ptZ := row_keeps HR2.out K9 (hnq _ (by omega))
      have hk9 : Keeps (Wb bb fb pv) u w9 := keepsW_trans (keepsW_trans HKB.out (Keeps.of_below (Below.refl _ _))) K9
      have R9 := Z9.row (ptA A1 p.first.length c1 A2 p.last.length c2 p.nul)
      have HF : Hid (PtQ B β u bb fb many pv T (.returned (.agg (ptA A1 p.first.length c1 A2 p.last.length c2 p.nul))) (w9.setRow (q + 1) (ptA A1 p.first.length c1 A2 p.last.length c2 p.nul))) := by
        have h := HT.out
        subst h
        exact ⟨p.nul, pv', l', A1, c1, A2, c2, rfl, BS.setRow S9 Z9 (by decide) _, hl9, keeps_setRow hk9 _ _ (.inr (by have := HQ.out; omega)), lies_mono L9 (keepsW_trans HKB.out (Keeps.of_below (Below.refl _ _))).size, own_setRow o9.1 (own_neR o9.1 Z9 (by decide)) _, own_setRow o9.2 (own_neR o9.2 Z9 (by decide)) _⟩
      have HR9 := hidd R9
      clear S9 K9 L9 o9 hl9 hnq R9 hk9 hc
      go_wp2_with (refine wpList_store_row rfl 57 (.tmp 8) (.tmp 22) rfl (q + 1) (ptA A1 p.first.length c1 A2 p.last.length c2 p.nul) rfl rfl 57 ptZ Z9 (pt_info _ _ _) rfl (pt_ones _ _ _ _ _ _ _) ?_)
      exact ret_part Try.results45 rfl HR9.out rfl HF.out
    · have e3b : ((nd.op : Int) == 3) = false := beq_eq_false_iff_ne.2 (by omega)
      by_cases e4 : nd.op = 4
      · have hc := oneOf_ptr HS2.out Ak ck ks hβ2 HK2.out h1 h2 hn
        have HT : Hid (T = ((fiL ks, laL ks), ⟨l.map (·.1), f⟩)) := by
          show _ = _
          rw [← hT]
          unfold takeG
          rw [if_neg e2, if_neg e3, if_pos e4, fi_pts, la_pts]
        rw [HM.out] at hc
        rw [e4] at x0
        obtain ⟨p, hp⟩ : ∃ p : Pt, p = ⟨fiL ks, laL ks, false⟩ := ⟨_, rfl⟩
        have HT : Hid (T = ((p.first, p.last), ⟨l.map (·.1), f⟩)) := by show _ = _; rw [hp]; exact HT.out
        rw [← hp] at hc
        clear hT hp e2 e3 e4 q2 q5 q6 hop hhi hlo hs HK2 hm h1 h2 e2b e3b
        go_wp2_with fail
        refine hc.mono ?_
        rintro e w9 ⟨pv', l', A1, c1, A2, c2, rfl, S9, hl9, K9, L9, o9⟩
        have hnq : ∀ j, q ≤ j → ¬ Wb bb fb pv j := fun j hj e => by
          have h1 := HQ.out
          have h2 := HWL.out j e
          omega
        have Z9 : RowA w9 (q + 1) 57 ptZ := row_keeps HR2.out K9 (hnq _ (by omega))
        have hk9 : Keeps (Wb bb fb pv) u w9 := keepsW_trans (keepsW_trans HKB.out (Keeps.of_below (Below.refl _ _))) K9
        have R9 := Z9.row (ptA A1 p.first.length c1 A2 p.last.length c2 p.nul)
        have HF : Hid (PtQ B β u bb fb many pv T (.returned (.agg (ptA A1 p.first.length c1 A2 p.last.length c2 p.nul))) (w9.setRow (q + 1) (ptA A1 p.first.length c1 A2 p.last.length c2 p.nul))) := by
          have h := HT.out
          subst h
          exact ⟨p.nul, pv', l', A1, c1, A2, c2, rfl, BS.setRow S9 Z9 (by decide) _, hl9, keeps_setRow hk9 _ _ (.inr (by have := HQ.out; omega)), lies_mono L9 (keepsW_trans HKB.out (Keeps.of_below (Below.refl _ _))).size, own_setRow o9.1 (own_neR o9.1 Z9 (by decide)) _, own_setRow o9.2 (own_neR o9.2 Z9 (by decide)) _⟩
        have HR9 := hidd R9
        clear S9 K9 L9 o9 hl9 hnq R9 hk9 hc
        go_wp2_with (refine wpList_store_row rfl 57 (.tmp 8) (.tmp 26) rfl (q + 1) (ptA A1 p.first.length c1 A2 p.last.length c2 p.nul) rfl rfl 57 ptZ Z9 (pt_info _ _ _) rfl (pt_ones _ _ _ _ _ _ _) ?_)
        exact ret_part Try.results45 rfl HR9.out rfl HF.out
      · have e4b : ((nd.op : Int) == 4) = false := beq_eq_false_iff_ne.2 (by omega)
        by_cases e5 : nd.op = 5
        · rw [e5] at x0
          have hk0 := q5 e5
          obtain ⟨gk, rfl, hgk, r1, ho⟩ := HK2.out.at_ hk0
          have hm0 := hm _ (List.getElem_mem hk0)
          have hp0 : (pts ks).getD 0 pt0 = ks[0].1 := by
            unfold pts
            rw [List.getD_eq_getElem?_getD, List.getElem?_map, List.getElem?_eq_getElem hk0]
            rfl
          rw [hp0] at q6
          have hq6 := q6 e5
          have HTT : Hid ((g.hi = -1 ∧ T = ((ks[0].1.first, ks[0].1.last), ⟨l.map (·.1), linkF f ks[0].1.last ks[0].1.first⟩)) ∨ (g.hi ≠ -1 ∧ ∃ k, ks[0].1.first = [k] ∧ T = ((ks[0].1.first, ks[0].1.last), ⟨bndP (l.map (·.1)) k g.lo g.hi, f⟩))) := by
            by_cases hh : nd.hi = -1
            · refine .inl ⟨by rw [hhi]; exact hh, ?_⟩
              rw [← hT]
              unfold takeG
              rw [if_neg e2, if_neg e3, if_neg e4, if_pos e5, if_pos hh, hp0]
            · refine .inr ⟨by rw [hhi]; exact hh, ?_⟩
              obtain ⟨k, hk⟩ := hq6 hh
              refine ⟨k, hk, ?_⟩
              rw [← hT]
              unfold takeG
              rw [if_neg e2, if_neg e3, if_neg e4, if_pos e5, if_neg hh, hp0, hk, hhi, hlo]
              rfl
          generalize ks[0] = x at *
          obtain ⟨p, ⟨A1x, c1x⟩, A2x, c2x⟩ := x
          have hmn : 0 < m := by have := HM.out; omega
          have HX5 : Hid (∀ u5, Below w2.heap.size w2 u5 → u5.rangeAt gk 0 (ptL (p, (A1x, c1x), A2x, c2x))) := fun u5 hb => by
            have h : w2.rangeAt gk 0 (ptL (p, (A1x, c1x), A2x, c2x)) := by
              have := r1
              rw [Nat.zero_mul] at this
              exact this
            intro j v hj
            rw [hb.cell (by show gk < _; exact hgk)]
            exact h j v hj
          have hqs : q < w2.heap.size := HR1.out.lt
          have HO := hidd ho
          clear hp0 q6 hq6 hT e2 e3 e4 e5 q2 q5 hop hhi hlo hs hm h1 h2 HK2 hk0 r1 ho
          go_upto_region 9 with fail
          refine wp_region_slotsH 5 (by decide) (by kernel_rfl) (by kernel_rfl) (fun _ _ => true) (Below w2.heap.size w2) (TkG bb q gk m ck g A n c (p, (A1x, c1x), A2x, c2x)) EbL (by kernel_rfl) (by kernel_rfl) (by kernel_rfl) (by kernel_rfl) ?_ (bel_drew (Below.refl _ _)) [0, 3, 5] (by kernel_rfl) ?_ ?_ ?_
          · intro t dd v u u' _ _ h hE
            refine ⟨h.1, fun R hR => ?_⟩
            unfold TkGP at hR
            cases hR
          · intro u _
            refine ⟨⟨_, rfl, ?_⟩, ⟨_, rfl, ?_⟩, ⟨_, rfl, ?_⟩, trivial⟩ <;> exact ⟨fun _ h => Option.some.inj h, fun _ h => no_some h⟩
          · refine ⟨?_, ?_, ?_, ?_, ?_, trivial⟩
            · intro a u hS hr K hK
              obtain ⟨⟨vl0, e0, g0⟩, -⟩ := hr
              obtain rfl := g0.1 _ rfl
              clear g0
              rw [if_pos (want_none rfl)]
              unfold Oper.wp
              go_simp
              exact hK _ _ ⟨fun _ h => Option.some.inj h, fun _ h => no_some h⟩ hS (eby rfl (Below.refl _ _))
            · intro a u hS hr K hK
              obtain ⟨⟨vl0, e0, g0⟩, -⟩ := hr
              obtain rfl := g0.1 _ rfl
              clear g0
              rw [if_pos (want_none rfl)]
              have R5 := HR1.out.below hS hqs
              have z0 := R5.at_ (k := 0) rfl
              have z1 := R5.at_ (k := 1) rfl
              have z2 := R5.at_ (k := 2) rfl
              have z3 := R5.at_ (k := 3) rfl
              have z4 := R5.at_ (k := 4) rfl
              have z5 := R5.at_ (k := 5) rfl
              have z6 := R5.at_ (k := 6) rfl
              have z7 := R5.at_ (k := 7) rfl
              have z8 := R5.at_ (k := 8) rfl
              unfold Oper.wp
              go_simp
              exact hK _ _ ⟨fun _ h => Option.some.inj h, fun _ h => no_some h⟩ hS (eby rfl (Below.refl _ _))
            · intro a u hS hr K hK
              obtain ⟨⟨vl0, e0, g0⟩, -⟩ := hr
              obtain rfl := g0.1 _ rfl
              clear g0
              rw [if_pos (want_none rfl)]
              unfold Oper.wp
              go_simp
              exact hK _ _ ⟨fun _ h => Option.some.inj h, fun _ h => no_some h⟩ hS (eby rfl (Below.refl _ _))
            · intro a u hS hr K hK
              obtain ⟨⟨vl0, e0, g0⟩, -⟩ := hr
              obtain rfl := g0.1 _ rfl
              clear g0
              rw [if_pos (want_none rfl)]
              unfold Oper.wp
              go_simp
              exact hK _ _ ⟨fun _ h => Option.some.inj h, fun _ h => no_some h⟩ hS (eby rfl (Below.refl _ _))
            · intro a u hS hr K hK
              obtain ⟨⟨vl0, e0, g0⟩, -⟩ := hr
              obtain rfl := g0.1 _ rfl
              clear g0
              rw [if_pos (want_none rfl)]
              refine wp_load_mid 57 (.tmp 32) rfl gk 0 (eval_at e0) (ptL (p, (A1x, c1x), A2x, c2x)) _ (HX5.out u hS) Try.underlying57 rfl (pt_infoL _) ?_
              exact hK _ _ ⟨fun _ h => Option.some.inj h, fun _ h => no_some h⟩ hS (eby rfl (Below.refl _ _))
          intro a u5 hS5 hts hd hkn hf
          obtain ⟨v29, e29, g29⟩ := hf 0 _ 29 (by decide) rfl rfl (fun _ => rfl)
          obtain ⟨v30, e30, g30⟩ := hf 1 _ 30 (by decide) rfl rfl (fun _ => rfl)
          obtain ⟨v31, e31, g31⟩ := hf 2 _ 31 (by decide) rfl rfl (fun _ => rfl)
          obtain ⟨v32, e32, g32⟩ := hf 3 _ 32 (by decide) rfl rfl (fun _ => rfl)
          obtain ⟨v33, e33, g33⟩ := hf 4 _ 33 (by decide) rfl rfl (fun _ => rfl)
          have hA := act_putsH [(29, v29), (30, v30), (31, v31), (32, v32), (33, v33)] hts hd hkn (by kernel_rfl) (by simp [e29, e30, e31, e32, e33])
          clear hf hts hd hkn e29 e30 e31 e32 e33
          obtain rfl := g29.1 _ rfl
          clear g29
          obtain rfl := g30.1 _ rfl
          clear g30
          obtain rfl := g31.1 _ rfl
          clear g31
          obtain rfl := g32.1 _ rfl
          clear g32
          obtain rfl := g33.1 _ rfl
          clear g33
          subst hA
          simp only [List.foldl, List.setIfInBounds_toArray, List.set_cons_zero, List.set_cons_succ]
          simp only [List.drop_succ_cons, List.drop_zero]
          have S5 := HS2.out.below hS5
          have ho5 := ptok_below HO.out hS5
          have HK5 : Hid (Keeps (Wb bb fb pv) w2 u5) := Keeps.of_below hS5
          have HR5 := hidd (HR2.out.below hS5 HR2.out.lt)
          have hx5 : PtOk u5 β (p, (A1x, c1x), A2x, c2x) := ho5
          rcases HTT.out with ⟨hh, hT⟩ | ⟨hh, k, hk, hT⟩
          · have hc := Rp.repeated_any S5 g A n c p A1x A2x c1x c2x hx5 hm0 hlm (ps' := l.map (·.1)) (f' := linkF f p.last p.first) (.inl ⟨hh, rfl, rfl⟩)
            have HT := hidd hT
            clear hT hh S5 ho5 hx5 hS5 HTT hm0 HO HS2
            go_wp2_with fail
            refine hc.mono ?_
            rintro e w9 ⟨pv', l', A1, c1, A2, c2, rfl, S9, hl9, K9, L9, o9⟩
            have hnq : ∀ j, q ≤ j → ¬ Wb bb fb pv j := fun j hj e => by
              have h1 := HQ.out
              have h2 := HWL.out j e
              omega
            have Z9 : RowA w9 (q + 1) 57 ptZ := row_keeps HR5.out K9 (hnq _ (by omega))
            have hk9 : Keeps (Wb bb fb pv) u w9 := keepsW_trans (keepsW_trans HKB.out HK5.out) K9
            have R9 := Z9.row (ptA A1 p.first.length c1 A2 p.last.length c2 p.nul)
            have HF : Hid (PtQ B β u bb fb many pv T (.returned (.agg (ptA A1 p.first.length c1 A2 p.last.length c2 p.nul))) (w9.setRow (q + 1) (ptA A1 p.first.length c1 A2 p.last.length c2 p.nul))) := by
              have h := HT.out
              subst h
              exact ⟨p.nul, pv', l', A1, c1, A2, c2, rfl, BS.setRow S9 Z9 (by decide) _, hl9, keeps_setRow hk9 _ _ (.inr (by have := HQ.out; omega)), lies_mono L9 (keepsW_trans HKB.out HK5.out).size, own_setRow o9.1 (own_neR o9.1 Z9 (by decide)) _, own_setRow o9.2 (own_neR o9.2 Z9 (by decide)) _⟩
            have HR9 := hidd R9
            clear S9 K9 L9 o9 hl9 hnq R9 hk9 hc
            go_wp2_with (refine wpList_store_row rfl 57 (.tmp 8) (.tmp 34) rfl (q + 1) (ptA A1 p.first.length c1 A2 p.last.length c2 p.nul) rfl rfl 57 ptZ Z9 (pt_info _ _ _) rfl (pt_ones _ _ _ _ _ _ _) ?_)
            exact ret_part Try.results45 rfl HR9.out rfl HF.out
          · have hc := Rp.repeated_any S5 g A n c p A1x A2x c1x c2x hx5 hm0 hlm (ps' := bndP (l.map (·.1)) k g.lo g.hi) (f' := f) (.inr ⟨hh, ⟨k, hk, rfl⟩, rfl⟩)
            have HT := hidd hT
            clear hT hh S5 ho5 hx5 hS5 HTT hm0 HO HS2 hk
            go_wp2_with fail
            refine hc.mono ?_
            rintro e w9 ⟨pv', l', A1, c1, A2, c2, rfl, S9, hl9, K9, L9, o9⟩
            have hnq : ∀ j, q ≤ j → ¬ Wb bb fb pv j := fun j hj e => by
              have h1 := HQ.out
              have h2 := HWL.out j e
              omega
            have Z9 : RowA w9 (q + 1) 57 ptZ := row_keeps HR5.out K9 (hnq _ (by omega))
            have hk9 : Keeps (Wb bb fb pv) u w9 := keepsW_trans (keepsW_trans HKB.out HK5.out) K9
            have R9 := Z9.row (ptA A1 p.first.length c1 A2 p.last.length c2 p.nul)
            have HF : Hid (PtQ B β u bb fb many pv T (.returned (.agg (ptA A1 p.first.length c1 A2 p.last.length c2 p.nul))) (w9.setRow (q + 1) (ptA A1 p.first.length c1 A2 p.last.length c2 p.nul))) := by
              have h := HT.out
              subst h
              exact ⟨p.nul, pv', l', A1, c1, A2, c2, rfl, BS.setRow S9 Z9 (by decide) _, hl9, keeps_setRow hk9 _ _ (.inr (by have := HQ.out; omega)), lies_mono L9 (keepsW_trans HKB.out HK5.out).size, own_setRow o9.1 (own_neR o9.1 Z9 (by decide)) _, own_setRow o9.2 (own_neR o9.2 Z9 (by decide)) _⟩
            have HR9 := hidd R9
            clear S9 K9 L9 o9 hl9 hnq R9 hk9 hc
            go_wp2_with (refine wpList_store_row rfl 57 (.tmp 8) (.tmp 34) rfl (q + 1) (ptA A1 p.first.length c1 A2 p.last.length c2 p.nul) rfl rfl 57 ptZ Z9 (pt_info _ _ _) rfl (pt_ones _ _ _ _ _ _ _) ?_)
            exact ret_part Try.results45 rfl HR9.out rfl HF.out
        · have e5b : ((nd.op : Int) == 5) = false := beq_eq_false_iff_ne.2 (by omega)
          have HF : Hid (PtQ B β u bb fb many pv T (.returned (.agg (ptA none 0 0 none 0 0 false))) (w2.setRow (q + 1) (ptA none 0 0 none 0 0 false))) := by
            have h : T = (([], []), ⟨l.map (·.1), f⟩) := by
              rw [← hT]
              unfold takeG
              rw [if_neg e2, if_neg e3, if_neg e4, if_neg e5]
            subst h
            exact ⟨false, pv, l, none, 0, none, 0, rfl, BS.setRow HS2.out HR2.out (by decide) _, rfl, keeps_setRow HKB.out _ _ (.inr (by have := HQ.out; omega)), lies_refl _ _, World.ownsRow_nil _ _ _ _, World.ownsRow_nil _ _ _ _⟩
          have R9 := HR2.out.row (ptA none 0 0 none 0 0 false)
          have HR9 := hidd R9
          have Z9 := HR2.out
          clear hT e2 e3 e4 e5 q2 q5 q6 hop hhi hlo hs hm h1 h2 HK2 R9 HS2
          obtain ⟨oq, hoq⟩ : ∃ oq : Int, (nd.op : Int) = oq := ⟨_, rfl⟩
          rw [hoq] at x0 e2b e3b e4b e5b
          clear hoq
          go_wp2_with (refine wpList_store_row rfl 57 (.tmp 8) (.tmp 35) rfl (q + 1) (ptA none 0 0 none 0 0 false) rfl rfl 57 ptZ Z9 (pt_info _ _ _) rfl (pt_ones _ _ _ _ _ _ _) ?_)
          exact ret_part Try.results45 rfl HR9.out rfl HF.out
end Go.Proofs.Ytahhiajliomcfaa.Sy.Gl.Tk

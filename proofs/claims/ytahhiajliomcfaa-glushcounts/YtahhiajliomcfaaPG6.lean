/- The landed builder: one of some parts. -/
import Derived.Test.YtahhiajliomcfaaPG4
namespace Go.Proofs.Ytahhiajliomcfaa.Sy.Gl
open Go.RowKit Go.Proofs.Ytahhiajliomcfaa.Sy.Ap Go.Proofs.Ytahhiajliomcfaa.Sy.Ap.Wk Go.Proofs.Ytahhiajliomcfaa.Sy.Lg Go.Proofs.Ytahhiajliomcfaa.Sy.Pl
set_option maxRecDepth 100000
set_option linter.unusedVariables false

/-- Numbers appended to a row of numbers. -/
theorem wp_app_more {w : World} {o : Oper} {a : Act} {K : Act → World → Prop} {Q : Exit → Act → World → Prop} (s x : Operand)
    (ho : o.op = .call { callee := .builtin .append, args := #[s, x], argTypes := #[23, 23] }) (base : Nat) (v : Value) (ys : List Nat) (hs : a.eval s = v) (hown : w.ownsRow base 3 1 v ys.length (i64s ys)) (A : Option Addr) (c : Nat) (xs : List Nat)
    (hx : a.eval x = .slice A xs.length c) (hI : Its w w.heap.size A (xs.map fun k : Nat => (k : Int))) (hl : ys.length + xs.length ≤ 1000000) (hbase : base ≤ w.heap.size)
    (h : ∀ A' c' w', IR w' base A' c' (ys ++ xs) → w.grownBy w' v.ownBlock → ((Value.slice A' (ys ++ xs).length c').ownBlock = v.ownBlock ∨ (Value.slice A' (ys ++ xs).length c').ownBlock = some w.heap.size) → K (a.put o.dst (.slice A' (ys ++ xs).length c')) w') : o.wp Try.prog a w K Q := by
  obtain ⟨i0, hi0, hz0, hz1, hz2⟩ := info_parts int_info
  by_cases he : xs = []
  · subst he
    obtain ⟨B, k, rfl, hB, hk⟩ : ∃ B k, v = .slice B ys.length k ∧ (B = none → ys.length = 0 ∧ k = 0) ∧ ys.length ≤ k := by
      rcases hown.2 with ⟨hv, hn⟩ | ⟨g, cap, cur, hv, hg, hh, h1, h2, h3, h4⟩
      · exact ⟨none, 0, by rw [hv, hn], fun _ => ⟨hn, rfl⟩, by omega⟩
      · exact ⟨_, cap, hv, nofun, h1⟩
    have hr : (Builtin.append_ #[23, 23] o.type #[.slice B ys.length k, .slice A 0 c]).run Try.prog w = .ok (.slice B ys.length k) w := by
      have ht := Try.underlying23
      cases B with
      | none =>
        obtain ⟨h0, rfl⟩ := hB rfl
        rw [h0]
        cases A <;> simp [Builtin.append_, run_underlying ht, sizeOf, typeInfo, hi0, Builtin.lenOf, Builtin.firstCells, loadCells, loadCellsFrom]
      | some b =>
        cases A <;> simp [Builtin.append_, run_underlying ht, sizeOf, typeInfo, hi0, Builtin.lenOf, Builtin.firstCells, loadCells, loadCellsFrom, hk, storeCells]
    have hx' : a.eval x = .slice A 0 c := hx
    unfold Oper.wp execOp
    simp only [ho, resolve, invoke, builtin, Sem.run_bind, Sem.run_pure, Result.andThen_ok, List.map_toArray, List.map_cons, List.map_nil, hs, hx', hr]
    have h2 := h B k w (by unfold IR; rw [List.append_nil]; exact hown) ⟨rfl, rfl, rfl, Nat.le_refl _, fun _ _ _ => rfl⟩ (.inl (by rw [List.append_nil]))
    rw [List.append_nil] at h2
    exact h2
  · obtain ⟨g, off, rfl, hg, hc⟩ := hI (fun e => he (List.map_eq_nil_iff.1 e))
    have hpos : 0 < xs.length := by
      rcases Nat.eq_zero_or_pos xs.length with q | q
      · exact absurd (List.eq_nil_of_length_eq_zero q) he
      · exact q
    refine wp_append_both w s x 23 ho base 3 i0 _ 1 8 Try.underlying23 hi0 hz0 hz1 hz2 rfl (by omega) v ys.length (i64s ys) hs hown ⟨g, off, none⟩ xs.length c (i64s xs) hx (by unfold i64s; rw [List.length_map]; omega) (fun j u hu => ?_) (fun u hu => ?_) (by simp only [maxLen]; omega) (by omega) hbase ?_
    · unfold i64s at hu
      rw [List.getElem?_map] at hu
      cases hj : xs[j]? with
      | none => rw [hj] at hu; cases hu
      | some y =>
        rw [hj] at hu
        have hjl := (List.getElem?_eq_some_iff.1 hj).1
        have := hc j (by rw [List.length_map]; exact hjl)
        rw [List.getD_eq_getElem?_getD, List.getElem?_map, hj] at this
        cases hu
        rw [plain_add]
        exact this
    · unfold i64s at hu
      obtain ⟨y, -, rfl⟩ := List.mem_map.1 hu
      rfl
    · intro v' w' h1 _ h3 h4
      have e1 : ys.length + xs.length = (ys ++ xs).length := by rw [List.length_append]
      have e2 : i64s ys ++ i64s xs = i64s (ys ++ xs) := by unfold i64s; rw [List.map_append]
      rw [e1, e2] at h1
      obtain ⟨A', c', rfl⟩ := own_form h1
      exact h A' c' w' h1 h3 h4
/-- The part that grows, in block q; its two rows lie apart. -/
structure WhS (base : Nat) (w : World) (q : Nat) (p : Pt) (A1 : Option Addr) (c1 : Nat) (A2 : Option Addr) (c2 : Nat) (z : Bool) : Prop where
  box : RowA w q 57 (ptA A1 p.first.length c1 A2 p.last.length c2 z)
  fi : IR w base A1 c1 p.first
  la : IR w base A2 c2 p.last
  ap : ∀ k, (Value.slice A1 p.first.length c1).ownBlock = some k → (Value.slice A2 p.last.length c2).ownBlock ≠ some k
section
variable {base : Nat} {w w' : World} {q : Nat} {p : Pt} {A1 A2 A' : Option Addr} {c1 c2 c' : Nat} {z : Bool} {xs : List Nat}
theorem WhS.below (h : WhS base w q p A1 c1 A2 c2 z) (hb : Below w.heap.size w w') : WhS base w' q p A1 c1 A2 c2 z :=
  ⟨h.box.below hb h.box.lt, own_below h.fi hb (Nat.le_refl _), own_below h.la hb (Nat.le_refl _), h.ap⟩
theorem WhS.first (h : WhS base w q p A1 c1 A2 c2 z) (ho : IR w' base A' c' (p.first ++ xs)) (hg : w.grownBy w' (Value.slice A1 p.first.length c1).ownBlock) (hat : (Value.slice A' (p.first ++ xs).length c').ownBlock = (Value.slice A1 p.first.length c1).ownBlock ∨ (Value.slice A' (p.first ++ xs).length c').ownBlock = some w.heap.size) :
    RowA w' q 57 (ptA A1 p.first.length c1 A2 p.last.length c2 z) ∧ WhS base (w'.setCell ⟨q, 0, none⟩ (.slice A' (p.first ++ xs).length c')) q ⟨p.first ++ xs, p.last, p.nul⟩ A' c' A2 c2 z := by
  have R : RowA w' q 57 (ptA A1 p.first.length c1 A2 p.last.length c2 z) := (hg.block q h.box.lt (fun e => own_neR h.fi h.box (by decide) e.symm)).trans h.box
  have hl := own_kept h.la hg h.ap
  refine ⟨R, R.set 0 _, own_sb ho (own_neR ho R (by decide)) _, own_sb hl (own_neR hl R (by decide)) _, fun k hk e => ?_⟩
  rcases hat with h1 | h1
  · exact h.ap k (h1 ▸ hk) e
  · have e1 : some w.heap.size = some k := h1.symm.trans hk
    have e2 := Option.some.inj e1
    have := (h.la.lt k e).2
    omega
theorem WhS.last (h : WhS base w q p A1 c1 A2 c2 z) (ho : IR w' base A' c' (p.last ++ xs)) (hg : w.grownBy w' (Value.slice A2 p.last.length c2).ownBlock) (hat : (Value.slice A' (p.last ++ xs).length c').ownBlock = (Value.slice A2 p.last.length c2).ownBlock ∨ (Value.slice A' (p.last ++ xs).length c').ownBlock = some w.heap.size) :
    RowA w' q 57 (ptA A1 p.first.length c1 A2 p.last.length c2 z) ∧ WhS base (w'.setCell ⟨q, 1, none⟩ (.slice A' (p.last ++ xs).length c')) q ⟨p.first, p.last ++ xs, p.nul⟩ A1 c1 A' c' z := by
  have R : RowA w' q 57 (ptA A1 p.first.length c1 A2 p.last.length c2 z) := (hg.block q h.box.lt (fun e => own_neR h.la h.box (by decide) e.symm)).trans h.box
  have hf := own_kept h.fi hg (fun k hk e => h.ap k e hk)
  refine ⟨R, R.set 1 _, own_sb hf (own_neR hf R (by decide)) _, own_sb ho (own_neR ho R (by decide)) _, fun k hk e => ?_⟩
  rcases hat with h1 | h1
  · exact h.ap k hk (h1 ▸ e)
  · have e1 : some w.heap.size = some k := h1.symm.trans e
    have e2 := Option.some.inj e1
    have := (h.fi.lt k hk).2
    omega
end
/-- The parts of kids, in a row. -/
structure KR (w : World) (B : Nat) (A : Option Addr) (c : Nat) (ks : List Tv) : Prop where
  row : w.ownsRow B 57 3 (.slice A ks.length c) ks.length (ptsC ks)
  ok : ∀ x ∈ ks, PtOk w B x
theorem KR.below {w w' : World} {B : Nat} {A : Option Addr} {c : Nat} {ks : List Tv} (h : KR w B A c ks) (hb : Below w.heap.size w w') : KR w' B A c ks := ⟨own_below h.row hb (Nat.le_refl _), fun x hx => ptok_below (h.ok x hx) hb⟩
theorem KR.at_ {w : World} {B : Nat} {A : Option Addr} {c : Nat} {ks : List Tv} (h : KR w B A c ks) {j : Nat} (hj : j < ks.length) : ∃ g, A = some ⟨g, 0, none⟩ ∧ g < w.heap.size ∧ w.rangeAt g (j * 3) (ptL ks[j]) ∧ PtOk w B ks[j] := by
  obtain ⟨g, c', hv, hB, hg⟩ := own_pos h.row (by omega)
  injection hv with hA _ _
  refine ⟨g, hA, hg, fun i v hi => ?_, h.ok _ (List.getElem_mem hj)⟩
  have hi3 : i < 3 := by
    rcases Nat.lt_or_ge i 3 with q | q
    · exact q
    · rw [List.getElem?_eq_none (by show 3 ≤ i; exact q)] at hi; cases hi
  have := h.row.cells (g := g) (by rw [hA]; rfl) (j * 3 + i) v (by rw [ptsC_at ks j i _ (List.getElem?_eq_getElem hj) hi3]; exact hi)
  rw [addr_add] at this
  exact this
theorem pt_infoL (x : Tv) : (Try.prog.info? 57).map (·.size) = some (ptL x).length := by
  show _ = some 3
  kernel_rfl
end Go.Proofs.Ytahhiajliomcfaa.Sy.Gl

namespace Go.Proofs.Ytahhiajliomcfaa.Sy.Gl
open Go.RowKit Go.Proofs.Ytahhiajliomcfaa.Sy.Ap Go.Proofs.Ytahhiajliomcfaa.Sy.Ap.Wk Go.Proofs.Ytahhiajliomcfaa.Sy.Lg Go.Proofs.Ytahhiajliomcfaa.Sy.Pl
set_option maxRecDepth 100000
set_option linter.unusedVariables false

abbrev fiL (ks : List Tv) : List Nat := ks.flatMap fun x => x.1.first
abbrev laL (ks : List Tv) : List Nat := ks.flatMap fun x => x.1.last
theorem fiL_take {ks : List Tv} {j : Nat} (h : j < ks.length) : fiL (ks.take (j + 1)) = fiL (ks.take j) ++ ks[j].1.first := by
  rw [List.take_succ_eq_append_getElem h]
  unfold fiL
  rw [List.flatMap_append]
  simp
theorem laL_take {ks : List Tv} {j : Nat} (h : j < ks.length) : laL (ks.take (j + 1)) = laL (ks.take j) ++ ks[j].1.last := by
  rw [List.take_succ_eq_append_getElem h]
  unfold laL
  rw [List.flatMap_append]
  simp
theorem fiL_le (ks : List Tv) (j : Nat) : (fiL (ks.take j)).length ≤ (fiL ks).length := by
  conv => rhs; rw [← List.take_append_drop j ks]
  unfold fiL
  rw [List.flatMap_append, List.length_append]
  omega
theorem laL_le (ks : List Tv) (j : Nat) : (laL (ks.take j)).length ≤ (laL ks).length := by
  conv => rhs; rw [← List.take_append_drop j ks]
  unfold laL
  rw [List.flatMap_append, List.length_append]
  omega
/-- What stays where one row of the growing part grew, and was stored. -/
theorem wh_step {base q n i : Nat} {w w5 : World} {v z : Value} {ys : List Value} {cs : Array Value} (hr : w.ownsRow base 3 1 v n ys) (hg : w.grownBy w5 v.ownBlock) (hq : base ≤ q) (hb : base ≤ w.heap.size) (R5 : RowA w5 q 57 cs) :
    Below base w (w5.setCell ⟨q, i, none⟩ z) ∧ (∀ (g : Nat) (t : TypeId) (cs' : Array Value), t ≠ 3 → g ≠ q → RowA w g t cs' → RowA (w5.setCell ⟨q, i, none⟩ z) g t cs') ∧ (∀ (B : Nat) (A : Option Addr) (c : Nat) (xs : List Nat), (∀ k, (Value.slice A xs.length c).ownBlock = some k → k < base) → IR w B A c xs → IR (w5.setCell ⟨q, i, none⟩ z) B A c xs) := by
  refine ⟨bel_set (bel_row (Below.refl _ _) hb hg (fun k hk => (hr.lt k hk).1)) _ _ hq, fun g t cs' ht hgq r => ?_, fun B A c xs hk h => ?_⟩
  · have r5 : RowA w5 g t cs' := (hg.block g r.lt (fun e => own_neR hr r (fun e => ht e.symm) e.symm)).trans r
    exact r5.far (a := ⟨q, i, none⟩) hgq _
  · have h5 := own_kept h hg (fun k hk2 e => by
      have h1 := (hr.lt k hk2).1
      have h2 := hk k e
      omega)
    exact own_sb h5 (own_neR h5 R5 (by decide)) _
set_option maxHeartbeats 1000000 in
theorem oneOf_any {B : Nat} {u : World} (A : Option Addr) (c : Nat) (ks : List Tv) (hK : KR u B A c ks) (h1 : (fiL ks).length ≤ 1000) (h2 : (laL ks).length ≤ 1000) (hB : B ≤ u.heap.size) (hn : ks.length ≤ 100000) :
    Calls Try.prog 61 #[.slice A ks.length c] u fun e u' => ∃ A1 c1 A2 c2, e = .returned (.agg (ptA A1 (fiL ks).length c1 A2 (laL ks).length c2 false)) ∧ Below u.heap.size u u' ∧ PtOk u' B (⟨fiL ks, laL ks, false⟩, (A1, c1), A2, c2) := by
  have HK := hidd hK
  have H1 := hidd h1
  have H2 := hidd h2
  obtain ⟨n, hnn⟩ : ∃ n, ks.length = n := ⟨_, rfl⟩
  have HN := hidd hnn
  rw [hnn] at hn ⊢
  have R1 := RowA.new u 57 ptZ
  have hs1 : (u.alloc (.cells ptZ 57)).heap.size = u.heap.size + 1 := World.size_alloc ..
  have R2 := RowA.new (u.alloc (.cells ptZ 57)) 57 ptZ
  have b2 : Below u.heap.size u ((u.alloc (.cells ptZ 57)).alloc (.cells ptZ 57)) := ((Below.refl _ _).alloc (Nat.le_refl _) _).alloc (by rw [hs1]; omega) _
  have R1b := R1.alloc (.cells ptZ 57)
  rw [hs1] at R2
  obtain ⟨base, hbs⟩ : ∃ base, u.heap.size = base := ⟨_, rfl⟩
  have W0 : WhS base ((u.alloc (.cells ptZ 57)).alloc (.cells ptZ 57)) (u.heap.size + 1) ⟨[], [], false⟩ none 0 none 0 false := ⟨R2, World.ownsRow_nil _ _ _ _, World.ownsRow_nil _ _ _ _, fun k hk => by cases hk⟩
  have HW0 := hidd W0
  have HR0 := hidd R1b
  have HB2 := hidd b2
  clear hK h1 h2 hnn R1 hs1 R2 b2 R1b W0
  go_enter Try.func61, Try.ntmps61
  go_wp2
  generalize (u.alloc (.cells ptZ 57)).alloc (.cells ptZ 57) = w0 at *
  have HBS := hidd hbs
  rw [hbs] at HW0 HR0
  clear hbs
  obtain ⟨i0, hi0, hz0, hz1, hz2⟩ := info_parts int_info
  go_loopw [8] (fun s8 wr => ∃ (j : Nat) (p : Pt) (A1 : Option Addr) (c1 : Nat) (A2 : Option Addr) (c2 : Nat), j ≤ n ∧ s8 = .int .i64 (j : Int) ∧ p.first = fiL (ks.take j) ∧ p.last = laL (ks.take j) ∧ WhS base wr (base + 1) p A1 c1 A2 c2 false ∧ RowA wr base 57 ptZ ∧ Below u.heap.size u wr) (fun s8 _ => n - (intOf s8).toNat)
  case atStart => exact ⟨0, _, _, _, _, _, Nat.zero_le _, rfl, rfl, rfl, HW0.out, HR0.out, HB2.out⟩
  case round =>
    clear HW0 HR0 HB2
    obtain ⟨j, p, A1, c1, A2, c2, hj0, rfl, hpf, hpl, W, R0, hb⟩ := hrel
    by_cases hlt : j < n
    · have hlt2 : j < ks.length := by rw [HN.out]; exact hlt
      have hKb := HK.out.below hb
      obtain ⟨gk, rfl, hgk, r1, hpo⟩ := hKb.at_ hlt2
      have HPF : Hid (p.first ++ ks[j].1.first = fiL (ks.take (j + 1)) ∧ p.last ++ ks[j].1.last = laL (ks.take (j + 1))) := ⟨by rw [fiL_take hlt2, hpf], by rw [laL_take hlt2, hpl]⟩
      have hle1 : p.first.length + ks[j].1.first.length ≤ 1000 := by
        have := fiL_le ks (j + 1)
        rw [← HPF.out.1, List.length_append] at this
        have := H1.out
        omega
      have hle2 : p.last.length + ks[j].1.last.length ≤ 1000 := by
        have := laL_le ks (j + 1)
        rw [← HPF.out.2, List.length_append] at this
        have := H2.out
        omega
      have HPO := hidd hpo
      have HPU := hidd (HK.out.ok ks[j] (List.getElem_mem hlt2))
      have HW := hidd W
      have HR0 := hidd R0
      have HB := hidd hb
      generalize ks[j] = x at *
      clear hKb hpf hpl hpo W R0 hb hlt2
      have hji : (j : Int) < (n : Int) := by omega
      have r1b := r1
      have Z1 := RowA.new wr 57 ptZ
      have hW1 : Below wr.heap.size wr ((wr.alloc (.cells ptZ 57)).setRow wr.heap.size (ptL x).toArray) := bel_setRow ((Below.refl _ _).alloc (Nat.le_refl _) _) _ _ (Nat.le_refl _)
      have R1 := Z1.row (ptL x).toArray
      go_upto_region 5 with (first
        | refine wpList_load_mid rfl 57 (.tmp 10) rfl gk (j * 3) rfl (ptL x) _ r1 Try.underlying57 rfl (pt_infoL x) ?_
        | refine wpList_store_row rfl 57 (.tmp 5) (.tmp 11) rfl wr.heap.size (ptL x).toArray rfl rfl 57 ptZ Z1 (pt_info _ _ _) rfl (pt_ones _ _ _ _ _ _ _) ?_)
      change RowA ((wr.alloc (.cells ptZ 57)).setRow wr.heap.size (ptL x).toArray) _ _ _ at R1
      have hqs := R1.lt
      generalize (wr.alloc (.cells ptZ 57)).setRow wr.heap.size (ptL x).toArray = w2 at *
      obtain ⟨q5, hq5⟩ : ∃ q5, wr.heap.size = q5 := ⟨_, rfl⟩
      rw [hq5] at R1
      rw [hq5]
      rw [put_non]
      have HQ5 := hidd hq5
      have HR1 := hidd R1
      have HW1 := hidd hW1
      clear Z1 r1 r1b hW1 R1 hq5
      have HWW := hidd (HW.out.below HW1.out)
      have hbase : base ≤ w2.heap.size := by have h1 := HW1.out.size; have h2 := HB.out.size; have h3 := HBS.out; omega
      have hpo2 := ptok_below HPO.out HW1.out
      have d0 : w2.cell? ⟨base + 1, 0, none⟩ = some (.slice A1 p.first.length c1) := HWW.out.box.at_ rfl
      have e0 : w2.cell? ⟨q5, 0, none⟩ = some (.slice x.2.1.1 x.1.first.length x.2.1.2) := HR1.out.at_ rfl
      go_upto_region 6 with (at_builtin; refine wpList_plain rfl fun K hK => ?_; refine wp_app_more (.tmp 13) (.tmp 15) rfl base (.slice A1 p.first.length c1) p.first rfl HWW.out.fi _ _ x.1.first rfl hpo2.1.its (by omega) hbase ?_; intro A' c' w5 o5 g5 at5; have RW5 := WhS.first HWW.out o5 g5 at5; generalize hm5 : (p.first ++ x.1.first).length = m5 at RW5 at5 ⊢; have f0 := RW5.1.at_ (k := 0) rfl; have ht := RW5.1.thawed; refine hK _ _ ?_)
      have hq5b : base + 1 < q5 := by
        have h1 := HW.out.box.lt
        have h2 := HQ5.out
        omega
      have hlt5 : ∀ (A : Option Addr) (n c : Nat) (xs : List Nat), IR u B A c xs → ∀ k, (Value.slice A xs.length c).ownBlock = some k → k < base := fun A n c xs h k hk => by
        have h1 := (h.lt k hk).2
        have h2 := HBS.out
        omega
      have HZ1 := hidd (HR0.out.below HW1.out HR0.out.lt)
      have HB1 : Hid (Below base u w2) := by
        have h1 := HB.out
        rw [HBS.out] at h1
        exact h1.trans (HW1.out.mono (by have := HB.out.size; have := HBS.out; omega))
      clear HW HB HR0 HW1 HPO
      obtain ⟨hb6, hr6, hi6⟩ := wh_step (i := 0) (z := .slice A' m5 c') HWW.out.fi g5 (show base ≤ base + 1 by omega) hbase RW5.1
      have HW6 := hidd RW5.2
      have HR6 := hidd (hr6 q5 _ _ (by decide) (by omega) HR1.out)
      have HP6 : Hid (PtOk (w5.setCell ⟨base + 1, 0, none⟩ (.slice A' m5 c')) B x) := ⟨hi6 _ _ _ _ (hlt5 _ 0 _ _ HPU.out.1) hpo2.1, hi6 _ _ _ _ (hlt5 _ 0 _ _ HPU.out.2) hpo2.2⟩
      have HZ6 := hidd (hr6 base _ _ (by decide) (by omega) HZ1.out)
      have HB6 : Hid (Below base u (w5.setCell ⟨base + 1, 0, none⟩ (.slice A' m5 c'))) := HB1.out.trans hb6
      have hs6 : base ≤ (w5.setCell ⟨base + 1, 0, none⟩ (.slice A' m5 c')).heap.size := by have := hb6.size; omega
      clear RW5 o5 g5 at5 d0 e0 HWW HR1 hb6 hr6 hi6 hpo2 HZ1 HB1 hbase hm5
      go_upto_region 6 with fail
      generalize w5.setCell ⟨base + 1, 0, none⟩ (.slice A' m5 c') = w6 at *
      clear f0 ht
      have HWW := HW6
      have HR1 := HR6
      have HZ1 := HZ6
      have HB1 := HB6
      have hpo2 := HP6.out
      have hbase := hs6
      clear HW6 HR6 HZ6 HB6 HP6 hs6
      have d0 : w6.cell? ⟨base + 1, 1, none⟩ = some (.slice A2 p.last.length c2) := HWW.out.box.at_ rfl
      have e0 : w6.cell? ⟨q5, 1, none⟩ = some (.slice x.2.2.1 x.1.last.length x.2.2.2) := HR1.out.at_ rfl
      go_upto_region 7 with (at_builtin; refine wpList_plain rfl fun K hK => ?_; refine wp_app_more (.tmp 19) (.tmp 21) rfl base (.slice A2 p.last.length c2) p.last rfl HWW.out.la _ _ x.1.last rfl hpo2.2.its (by omega) hbase ?_; intro A' c' w5 o5 g5 at5; have RW5 := WhS.last HWW.out o5 g5 at5; generalize hm5 : (p.last ++ x.1.last).length = m5 at RW5 at5 ⊢; have f0 := RW5.1.at_ (k := 1) rfl; have ht := RW5.1.thawed; refine hK _ _ ?_)
      obtain ⟨hb6, hr6, hi6⟩ := wh_step (i := 1) (z := .slice A' m5 c') HWW.out.la g5 (show base ≤ base + 1 by omega) hbase RW5.1
      have HW6 := hidd RW5.2
      have HR6 := hidd (hr6 q5 _ _ (by decide) (by omega) HR1.out)
      have HP6 : Hid (PtOk (w5.setCell ⟨base + 1, 1, none⟩ (.slice A' m5 c')) B x) := ⟨hi6 _ _ _ _ (hlt5 _ 0 _ _ HPU.out.1) hpo2.1, hi6 _ _ _ _ (hlt5 _ 0 _ _ HPU.out.2) hpo2.2⟩
      have HZ6 := hidd (hr6 base _ _ (by decide) (by omega) HZ1.out)
      have HB6 : Hid (Below base u (w5.setCell ⟨base + 1, 1, none⟩ (.slice A' m5 c'))) := HB1.out.trans hb6
      have hs6 : base ≤ (w5.setCell ⟨base + 1, 1, none⟩ (.slice A' m5 c')).heap.size := by have := hb6.size; omega
      clear RW5 o5 g5 at5 d0 e0 HWW HR1 hb6 hr6 hi6 hpo2 HZ1 HB1 hbase hm5
      go_upto_region 7 with fail
      generalize w5.setCell ⟨base + 1, 1, none⟩ (.slice A' m5 c') = w6 at *
      clear f0 ht
      go_wp2
      exact ⟨⟨j + 1, _, _, _, _, _, by omega, rfl, HPF.out.1, HPF.out.2, HW6.out, HZ6.out, by rw [HBS.out]; exact HB6.out⟩, by simp [intOf]; omega⟩
    · have hje : n = j := by omega
      subst hje
      rw [List.take_of_length_le (by rw [HN.out]; exact Nat.le_refl _)] at hpf hpl
      have HF : Hid (Below u.heap.size u (wr.setRow base (ptA A1 p.first.length c1 A2 p.last.length c2 false)) ∧ PtOk (wr.setRow base (ptA A1 p.first.length c1 A2 p.last.length c2 false)) B (⟨fiL ks, laL ks, false⟩, (A1, c1), A2, c2)) := by
        refine ⟨bel_setRow hb _ _ (by rw [HBS.out]; exact Nat.le_refl _), ?_⟩
        rw [← hpf, ← hpl]
        have hbb : B ≤ base := by rw [← HBS.out]; exact hB
        exact ⟨own_setRow (own_base W.fi hbb) (own_neR W.fi R0 (by decide)) _, own_setRow (own_base W.la hbb) (own_neR W.la R0 (by decide)) _⟩
      have HL := hidd (And.intro hpf hpl)
      have R9 := R0.row (ptA A1 p.first.length c1 A2 p.last.length c2 false)
      have HR9 := hidd R9
      have WB := W.box
      clear W hb hpf hpl R9
      go_wp2_with (first
        | refine wpList_load_row rfl 57 (.tmp 3) rfl (base + 1) rfl 57 (ptA A1 p.first.length c1 A2 p.last.length c2 false) (0, 0) _ WB Try.underlying57 rfl (pt_info _ _ _) ?_
        | refine wpList_store_row rfl 57 (.tmp 2) (.tmp 25) rfl base (ptA A1 p.first.length c1 A2 p.last.length c2 false) rfl rfl 57 ptZ R0 (pt_info _ _ _) rfl (pt_ones _ _ _ _ _ _ _) ?_)
      exact ret_part Try.results61 rfl HR9.out rfl ⟨A1, c1, A2, c2, by rw [HL.out.1, HL.out.2], HF.out⟩
end Go.Proofs.Ytahhiajliomcfaa.Sy.Gl

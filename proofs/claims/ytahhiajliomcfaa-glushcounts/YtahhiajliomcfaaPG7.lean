/- The landed builder: parts in a row. -/
import Derived.Test.YtahhiajliomcfaaPG6
namespace Go.Proofs.Ytahhiajliomcfaa.Sy.Gl
open Go.RowKit Go.Proofs.Ytahhiajliomcfaa.Sy.Ap Go.Proofs.Ytahhiajliomcfaa.Sy.Ap.Wk Go.Proofs.Ytahhiajliomcfaa.Sy.Lg Go.Proofs.Ytahhiajliomcfaa.Sy.Pl
set_option maxRecDepth 100000
set_option linter.unusedVariables false

section
variable {B : Nat} {w w' u : World} {bb fb many : Nat} {pv z : Value} {l : List Pv} {f : Fol}
theorem rowF_keeps {P : Nat → Prop} {g n : Nat} {t : TypeId} {h : Nat → Value} (r : RowF w g t n h) (hk : Keeps P w w') (hp : ¬ P g) : RowF w' g t n h := (hk.block g r.lt hp).trans r
/-- Its blocks stay. -/
theorem BS.stay {P : Nat → Prop} (h : BS B w bb fb many pv l f) (hk : Keeps P w w') (hw : ∀ k, Wb bb fb pv k → ¬ P k) (hn : ∀ x ∈ l, ∀ k, (Value.slice x.2.1 x.1.next.length x.2.2).ownBlock = some k → ¬ P k) : BS B w' bb fb many pv l f :=
  ⟨row_keeps h.row hk (hw _ (.inl rfl)), rowF_keeps h.fol hk (hw _ (.inr (.inl rfl))), own_keeps h.places hk (fun k hk2 => hw k (.inr (.inr hk2))), fun x hx => own_keeps (h.nexts x hx) hk (hn x hx), h.hb, h.hf, h.few, h.nxt⟩
theorem KR.keeps {β : Nat} {A : Option Addr} {c : Nat} {ks : List Tv} (hS : BS B w bb fb many pv l f) (h : KR w β A c ks) (hk : Keeps (Wb bb fb pv) w w') : KR w' β A c ks :=
  ⟨own_keeps h.row hk (fun k hk2 => by
    rintro (rfl | rfl | q)
    · exact own_neR h.row hS.row (by decide) hk2
    · exact own_neF h.row hS.fol (by decide) hk2
    · exact own_apart h.row hS.places (by decide) k hk2 q), fun x hx => ptok_keeps hS (h.ok x hx) hk⟩
theorem WhS.keeps {base q : Nat} {p : Pt} {A1 A2 : Option Addr} {c1 c2 : Nat} {z : Bool} (hS : BS B w bb fb many pv l f) (h : WhS base w q p A1 c1 A2 c2 z) (hk : Keeps (Wb bb fb pv) w w') (hq : ¬ Wb bb fb pv q) : WhS base w' q p A1 c1 A2 c2 z :=
  ⟨row_keeps h.box hk hq, ir_keeps hS h.fi hk, ir_keeps hS h.la hk, h.ap⟩
theorem keeps_bel {P : Nat → Prop} {base : Nat} (h : Keeps P u w) (hb : Below base w w') (he : u.heap.size = base) : Keeps P u w' :=
  ⟨hb.os.trans h.os, hb.tape.trans h.tape, hb.output.trans h.output, Nat.le_trans h.size hb.size, fun k hk hn => (hb.block k (by omega)).trans (h.block k hk hn)⟩
theorem keeps_of_base {base : Nat} (hb : Below base w w') : Keeps (fun k => base ≤ k) w w' := ⟨hb.os, hb.tape, hb.output, hb.size, fun k hk hn => hb.block k (by omega)⟩
theorem WhS.re {base q : Nat} {p p' : Pt} {A1 A2 : Option Addr} {c1 c2 : Nat} {z : Bool} (h : WhS base w q p A1 c1 A2 c2 z) (h1 : p'.first = p.first) (h2 : p'.last = p.last) : WhS base w q p' A1 c1 A2 c2 z := by
  obtain ⟨a, b, n⟩ := p
  obtain ⟨a', b', n'⟩ := p'
  obtain rfl : a' = a := h1
  obtain rfl : b' = b := h2
  exact ⟨h.box, h.fi, h.la, h.ap⟩
/-- No last places any more. -/
theorem WhS.clear {base q : Nat} {p : Pt} {A1 A2 : Option Addr} {c1 c2 : Nat} {z : Bool} (h : WhS base w q p A1 c1 A2 c2 z) : WhS base (w.setCell ⟨q, 1, none⟩ (.slice none 0 0)) q ⟨p.first, [], p.nul⟩ A1 c1 none 0 z :=
  ⟨h.box.set 1 _, own_sb h.fi (own_neR h.fi h.box (by decide)) _, World.ownsRow_nil _ _ _ _, fun k _ e => by cases e⟩
end
abbrev pts (ks : List Tv) : List Pt := ks.map (·.1)
theorem pts_take {ks : List Tv} {j : Nat} (h : j < ks.length) : pts (ks.take (j + 1)) = pts (ks.take j) ++ [ks[j].1] := by
  unfold pts
  rw [List.take_succ_eq_append_getElem h, List.map_append]
  rfl
theorem row_lens (f : Fol) : ∀ (j : Nat) (ks : List Pt), ks.length = j → (rowG ks f).1.first.length ≤ (ks.flatMap Pt.first).length ∧ (rowG ks f).1.last.length ≤ (ks.flatMap Pt.last).length
  | 0, ks, h => by rw [List.eq_nil_of_length_eq_zero h]; exact ⟨Nat.le_refl _, Nat.le_refl _⟩
  | j + 1, ks, h => by
    rcases list_snoc ks with e | ⟨r, n, e⟩
    · rw [e] at h; simp at h
    · subst e
      rw [List.length_append, List.length_singleton] at h
      obtain ⟨h1, h2⟩ := row_lens f j r (by omega)
      rw [rowG_snoc, List.flatMap_append, List.flatMap_append, List.length_append, List.length_append]
      have e1 : ([n].flatMap Pt.first).length = n.first.length := by simp
      have e2 : ([n].flatMap Pt.last).length = n.last.length := by simp
      rw [e1, e2]
      constructor
      · show (if (rowG r f).1.nul then (rowG r f).1.first ++ n.first else (rowG r f).1.first).length ≤ _
        split
        · rw [List.length_append]; omega
        · omega
      · show ((if n.nul then (rowG r f).1.last else []) ++ n.last).length ≤ _
        rw [List.length_append]
        split
        · omega
        · simp
theorem fi_pts (ks : List Tv) : (pts ks).flatMap Pt.first = fiL ks := by unfold pts fiL; rw [List.flatMap_map]
theorem la_pts (ks : List Tv) : (pts ks).flatMap Pt.last = laL ks := by unfold pts laL; rw [List.flatMap_map]
set_option maxHeartbeats 2000000 in
theorem rowp_any {B : Nat} {u : World} {bb fb many : Nat} {pv : Value} {l : List Pv} {f : Fol} (hS : BS B u bb fb many pv l f) (A : Option Addr) (c : Nat) (ks : List Tv) {β : Nat} (hβ : β ≤ u.heap.size) (hK : KR u β A c ks) (h1 : (fiL ks).length ≤ 1000) (h2 : (laL ks).length ≤ 1000) (hn : ks.length ≤ 100000) (hm : ∀ x ∈ ks, PtB many x.1) :
    Calls Try.prog 60 #[.pointer (some ⟨bb, 0, none⟩), .slice A ks.length c] u fun e u' => ∃ A1 c1 A2 c2, e = .returned (.agg (ptA A1 (rowG (pts ks) f).1.first.length c1 A2 (rowG (pts ks) f).1.last.length c2 false)) ∧ BS B u' bb fb many pv l (rowG (pts ks) f).2 ∧ Keeps (Wb bb fb pv) u u' ∧ PtOk u' β (⟨(rowG (pts ks) f).1.first, (rowG (pts ks) f).1.last, false⟩, (A1, c1), A2, c2) := by
  have HK := hidd hK
  have HL1 := hidd h1
  have HL2 := hidd h2
  have HM := hidd hm
  have HS0 := hidd hS
  have hB := hS.size
  obtain ⟨n, hnn⟩ : ∃ n, ks.length = n := ⟨_, rfl⟩
  have HN := hidd hnn
  rw [hnn] at hn ⊢
  have R1 := RowA.new u 57 ptZ
  have hs1 : (u.alloc (.cells ptZ 57)).heap.size = u.heap.size + 1 := World.size_alloc ..
  have R2 := RowA.new (u.alloc (.cells ptZ 57)) 57 ptZ
  have b2 : Below u.heap.size u ((u.alloc (.cells ptZ 57)).alloc (.cells ptZ 57)) := ((Below.refl _ _).alloc (Nat.le_refl _) _).alloc (by rw [hs1]; omega) _
  have R1b := R1.alloc (.cells ptZ 57)
  rw [hs1] at R2
  obtain ⟨base, hbs⟩ : ∃ base, u.heap.size = base := ⟨_, rfl⟩
  have W0 : WhS base ((u.alloc (.cells ptZ 57)).alloc (.cells ptZ 57)) (u.heap.size + 1) ⟨[], [], true⟩ none 0 none 0 false := ⟨R2, World.ownsRow_nil _ _ _ _, World.ownsRow_nil _ _ _ _, fun k hk => by cases hk⟩
  have HW0 := hidd W0
  have HR0 := hidd R1b
  have HB2 : Hid (Keeps (Wb bb fb pv) u ((u.alloc (.cells ptZ 57)).alloc (.cells ptZ 57))) := Keeps.of_below b2
  have HSW := hidd (hS.below b2)
  have HWB : Hid (∀ k, Wb bb fb pv k → ¬ base ≤ k) := fun k hk => by have := hS.wlt k hk; omega
  have HNB : Hid (∀ x ∈ l, ∀ k, (Value.slice x.2.1 x.1.next.length x.2.2).ownBlock = some k → ¬ base ≤ k) := fun x hx k hk => by have := ((hS.nexts x hx).lt k hk).2; omega
  clear hK h1 h2 hnn R1 hs1 R2 b2 R1b W0 hm hS
  go_enter Try.func60, Try.ntmps60
  go_wp2
  generalize (u.alloc (.cells ptZ 57)).alloc (.cells ptZ 57) = w0 at *
  have HBS := hidd hbs
  rw [hbs] at HW0 HR0
  clear hbs
  obtain ⟨i0, hi0, hz0, hz1, hz2⟩ := info_parts int_info
  go_loopw [6, 11] (fun s6 s11 wr => ∃ (j : Nat) (p : Pt) (A1 : Option Addr) (c1 : Nat) (A2 : Option Addr) (c2 : Nat) (f' : Fol), j ≤ n ∧ s11 = .int .i64 (j : Int) ∧ s6 = .bool p.nul ∧ (p, f') = rowG (pts (ks.take j)) f ∧ WhS base wr (base + 1) p A1 c1 A2 c2 false ∧ RowA wr base 57 ptZ ∧ BS B wr bb fb many pv l f' ∧ Keeps (Wb bb fb pv) u wr) (fun _ s11 _ => n - (intOf s11).toNat)
  case atStart => exact ⟨0, _, _, _, _, _, _, Nat.zero_le _, rfl, rfl, rfl, HW0.out, HR0.out, HSW.out, HB2.out⟩
  case round =>
    clear HW0 HR0 HB2 HSW
    obtain ⟨j, p, A1, c1, A2, c2, f', hj0, rfl, rfl, hrg, W, R0, S, hkp⟩ := hrel
    by_cases hlt : j < n
    · have hlt2 : j < ks.length := by rw [HN.out]; exact hlt
      have hKb := HK.out.keeps HS0.out hkp
      obtain ⟨gk, rfl, hgk, r1, hpo⟩ := hKb.at_ hlt2
      have HSTEP : Hid (rowStep (p, f') ks[j].1 = rowG (pts (ks.take (j + 1))) f) := by
        show _ = _
        rw [pts_take hlt2, rowG_snoc, ← hrg]
      have hlens := row_lens f _ (pts (ks.take (j + 1))) rfl
      have hlens0 := row_lens f _ (pts (ks.take j)) rfl
      rw [← hrg, fi_pts, la_pts] at hlens0
      have hle : p.first.length + ks[j].1.first.length ≤ 1000 ∧ p.last.length + ks[j].1.last.length ≤ 1000 := by
        have h1 := fiL_le ks (j + 1)
        have h2 := laL_le ks (j + 1)
        rw [fiL_take hlt2, List.length_append] at h1
        rw [laL_take hlt2, List.length_append] at h2
        have := HL1.out
        have := HL2.out
        have h3 := hlens0.1
        have h4 := hlens0.2
        simp only at h3 h4
        omega
      have HLE := hidd hle
      have HLE0 : Hid (p.first.length + ks[j].1.first.length ≤ 1000 ∧ ([] : List Nat).length + ks[j].1.last.length ≤ 1000) := ⟨hle.1, by have := hle.2; simp only [List.length_nil]; omega⟩
      have HPO := hidd hpo
      have HPU := hidd (HK.out.ok ks[j] (List.getElem_mem hlt2))
      have HMX := hidd (HM.out ks[j] (List.getElem_mem hlt2))
      have HMP : Hid (∀ x ∈ p.last, x < many) := by
        have h := rowG_ptB (m := many) f _ (pts (ks.take j)) rfl (fun q hq => by
          obtain ⟨y, hy, rfl⟩ := List.mem_map.1 hq
          exact HM.out y (List.mem_of_mem_take hy))
        rw [← hrg] at h
        exact h.2
      have HW := hidd W
      have HR0 := hidd R0
      have HB := hidd hkp
      have HSS := hidd S
      generalize ks[j] = x at *
      clear hKb hpo W R0 hkp hlt2 S hrg hlens hlens0 hle
      have hji : (j : Int) < (n : Int) := by omega
      have r1b := r1
      have Z1 := RowA.new wr 57 ptZ
      have hW1 : Below wr.heap.size wr ((wr.alloc (.cells ptZ 57)).setRow wr.heap.size (ptL x).toArray) := bel_setRow ((Below.refl _ _).alloc (Nat.le_refl _) _) _ _ (Nat.le_refl _)
      have R1 := Z1.row (ptL x).toArray
      go_upto_region 6 with (first
        | refine wpList_load_mid rfl 57 (.tmp 13) rfl gk (j * 3) rfl (ptL x) _ r1 Try.underlying57 rfl (pt_infoL x) ?_
        | refine wpList_store_row rfl 57 (.tmp 8) (.tmp 14) rfl wr.heap.size (ptL x).toArray rfl rfl 57 ptZ Z1 (pt_info _ _ _) rfl (pt_ones _ _ _ _ _ _ _) ?_)
      change RowA ((wr.alloc (.cells ptZ 57)).setRow wr.heap.size (ptL x).toArray) _ _ _ at R1
      have hqs := R1.lt
      generalize (wr.alloc (.cells ptZ 57)).setRow wr.heap.size (ptL x).toArray = w2 at *
      obtain ⟨q5, hq5⟩ : ∃ q5, wr.heap.size = q5 := ⟨_, rfl⟩
      rw [hq5] at R1
      rw [hq5]
      rw [put_non]
      have HQ5 := hidd hq5
      have HR1 := hidd R1
      have HW1 := hidd hW1
      clear Z1 r1 r1b hW1 R1 hq5
      have hq5b : base + 1 < q5 := by
        have h1 := HW.out.box.lt
        have h2 := HQ5.out
        omega
      have hlt5 : ∀ (A : Option Addr) (n c : Nat) (xs : List Nat), IR u β A c xs → ∀ k, (Value.slice A xs.length c).ownBlock = some k → k < base := fun A n c xs h k hk => by
        have h1 := (h.lt k hk).2
        have h2 := HBS.out
        omega
      have W2 := HW.out.below HW1.out
      have S2 := HSS.out.below HW1.out
      have P2 := ptok_below HPO.out HW1.out
      have hBb : β ≤ base := by have := HBS.out; omega
      have hc := link_any S2 (own_base W2.la hBb) P2.1 HMP.out HMX.out.1
      have hK2 := keepsW_trans HB.out (Keeps.of_below (P := Wb bb fb pv) HW1.out)
      have d1 : w2.cell? ⟨base + 1, 1, none⟩ = some (.slice A2 p.last.length c2) := W2.box.at_ rfl
      have e0 : w2.cell? ⟨q5, 0, none⟩ = some (.slice x.2.1.1 x.1.first.length x.2.1.2) := HR1.out.at_ rfl
      have HW2 := hidd W2
      have HS2 := hidd S2
      have HP2 := hidd P2
      have HK2 := hidd hK2
      have HZ0 := hidd (HR0.out.below HW1.out HR0.out.lt)
      clear W2 S2 P2 hK2 HW HR0 HB HSS HW1 HPO HMP HMX
      go_wp2_with fail
      refine hc.mono ?_
      rintro e w3 ⟨rfl, S3, K3⟩
      have hnw : ∀ k, base ≤ k → ¬ Wb bb fb pv k := fun k hk h => HWB.out k h hk
      have HWW := hidd (HW2.out.keeps HS2.out K3 (hnw _ (by omega)))
      have HR1b := hidd (row_keeps HR1.out K3 (hnw q5 (by omega)))
      have HZ1 := hidd (row_keeps HZ0.out K3 (hnw base (Nat.le_refl _)))
      have hpo2 := ptok_keeps HS2.out HP2.out K3
      have HB1 := hidd (keepsW_trans HK2.out K3)
      have HS1 := hidd S3
      have hbase : base ≤ w3.heap.size := by have := HB1.out.size; have := HBS.out; omega
      clear HR1 HW2 HS2 HP2 HK2 HZ0 S3 K3 hc d1 e0 hnw
      have HR1 := HR1b
      clear HR1b
      cases hpn : p.nul with
      | true =>
        have d0 : w3.cell? ⟨base + 1, 0, none⟩ = some (.slice A1 p.first.length c1) := HWW.out.box.at_ rfl
        have e0 : w3.cell? ⟨q5, 0, none⟩ = some (.slice x.2.1.1 x.1.first.length x.2.1.2) := HR1.out.at_ rfl
        go_upto_region 9 with (at_builtin; refine wpList_plain rfl fun K hK => ?_; refine wp_app_more (.tmp 23) (.tmp 25) rfl base (.slice A1 p.first.length c1) (p.first) rfl HWW.out.fi _ _ x.1.first rfl hpo2.1.its (by have := HLE.out; omega) hbase ?_; intro A' c' w5 o5 g5 at5; have RW5 := WhS.first HWW.out o5 g5 at5; generalize hm5 : (p.first ++ x.1.first).length = m5 at RW5 at5 ⊢; have f0 := RW5.1.at_ (k := 0) rfl; have ht := RW5.1.thawed; refine hK _ _ ?_)
        obtain ⟨hb6, hr6, hi6⟩ := wh_step (i := 0) (z := .slice A' m5 c') HWW.out.fi g5 (show base ≤ base + 1 by omega) hbase RW5.1
        have HW6 := hidd RW5.2
        have HR6 := hidd (hr6 q5 _ _ (by decide) (by omega) HR1.out)
        have HP6 : Hid (PtOk (w5.setCell ⟨base + 1, 0, none⟩ (.slice A' m5 c')) β x) := ⟨hi6 _ _ _ _ (hlt5 _ 0 _ _ HPU.out.1) hpo2.1, hi6 _ _ _ _ (hlt5 _ 0 _ _ HPU.out.2) hpo2.2⟩
        have HZ6 := hidd (hr6 base _ _ (by decide) (by omega) HZ1.out)
        have HS6 := hidd (HS1.out.stay (keeps_of_base hb6) HWB.out HNB.out)
        have HB6 := hidd (keeps_bel HB1.out hb6 HBS.out)
        have hs6 : base ≤ (w5.setCell ⟨base + 1, 0, none⟩ (.slice A' m5 c')).heap.size := by have := hb6.size; omega
        clear RW5 o5 g5 at5 d0 e0 HWW HR1 hb6 hr6 hi6 hpo2 HZ1 HB1 HS1 hbase hm5
        go_upto_region 9 with fail
        generalize w5.setCell ⟨base + 1, 0, none⟩ (.slice A' m5 c') = w6 at *
        clear f0 ht
        have HWW := HW6
        have HR1 := HR6
        have HZ1 := HZ6
        have HB1 := HB6
        have HS1 := HS6
        have hpo2 := HP6.out
        have hbase := hs6
        clear HW6 HR6 HZ6 HB6 HP6 HS6 hs6
        have e2 : w6.cell? ⟨q5, 2, none⟩ = some (.bool x.1.nul) := HR1.out.at_ rfl
        cases hxn : x.1.nul with
        | true =>
          rw [hxn] at e2
          have HRG : Hid ((⟨p.first ++ x.1.first, p.last ++ x.1.last, true⟩, linkF f' p.last x.1.first) = rowG (pts (ks.take (j + 1))) f) := by
            show _ = _
            rw [← HSTEP.out]
            unfold rowStep
            rw [hpn, hxn]
            simp
          have d0 : w6.cell? ⟨base + 1, 1, none⟩ = some (.slice A2 p.last.length c2) := HWW.out.box.at_ rfl
          have e0 : w6.cell? ⟨q5, 1, none⟩ = some (.slice x.2.2.1 x.1.last.length x.2.2.2) := HR1.out.at_ rfl
          go_upto_region 12 with fail
          go_upto_region 13 with (at_builtin; refine wpList_plain rfl fun K hK => ?_; refine wp_app_more (.tmp 38) (.tmp 40) rfl base (.slice A2 (p.last).length c2) (p.last) rfl HWW.out.la _ _ x.1.last rfl hpo2.2.its (by have := HLE.out; omega) hbase ?_; intro A' c' w5 o5 g5 at5; have RW5 := WhS.last HWW.out o5 g5 at5; generalize hm5 : (p.last ++ x.1.last).length = m5 at RW5 at5 ⊢; have f0 := RW5.1.at_ (k := 1) rfl; have ht := RW5.1.thawed; refine hK _ _ ?_)
          obtain ⟨hb6, hr6, hi6⟩ := wh_step (i := 1) (z := .slice A' m5 c') HWW.out.la g5 (show base ≤ base + 1 by omega) hbase RW5.1
          have HW6 := hidd RW5.2
          have HR6 := hidd (hr6 q5 _ _ (by decide) (by omega) HR1.out)
          have HP6 : Hid (PtOk (w5.setCell ⟨base + 1, 1, none⟩ (.slice A' m5 c')) β x) := ⟨hi6 _ _ _ _ (hlt5 _ 0 _ _ HPU.out.1) hpo2.1, hi6 _ _ _ _ (hlt5 _ 0 _ _ HPU.out.2) hpo2.2⟩
          have HZ6 := hidd (hr6 base _ _ (by decide) (by omega) HZ1.out)
          have HS6 := hidd (HS1.out.stay (keeps_of_base hb6) HWB.out HNB.out)
          have HB6 := hidd (keeps_bel HB1.out hb6 HBS.out)
          have hs6 : base ≤ (w5.setCell ⟨base + 1, 1, none⟩ (.slice A' m5 c')).heap.size := by have := hb6.size; omega
          clear RW5 o5 g5 at5 d0 e0 HWW HR1 hb6 hr6 hi6 hpo2 HZ1 HB1 HS1 hbase hm5
          go_upto_region 13 with fail
          generalize w5.setCell ⟨base + 1, 1, none⟩ (.slice A' m5 c') = w6 at *
          clear f0 ht
          go_wp2
          exact ⟨⟨j + 1, _, _, _, _, _, _, by omega, rfl, rfl, HRG.out, HW6.out.re rfl rfl, HZ6.out, HS6.out, HB6.out⟩, by simp [intOf]; omega⟩
        | false =>
          rw [hxn] at e2
          have HRG : Hid ((⟨p.first ++ x.1.first, [] ++ x.1.last, false⟩, linkF f' p.last x.1.first) = rowG (pts (ks.take (j + 1))) f) := by
            show _ = _
            rw [← HSTEP.out]
            unfold rowStep
            rw [hpn, hxn]
            simp
          have d9 : w6.cell? ⟨base + 1, 1, none⟩ = some (.slice A2 p.last.length c2) := HWW.out.box.at_ rfl
          have t9 := HWW.out.box.thawed
          have W7 := HWW.out.clear
          have R7 := HR1.out.far (a := ⟨base + 1, 1, none⟩) (by show q5 ≠ base + 1; omega) (.slice none 0 0)
          have P7 : PtOk (w6.setCell ⟨base + 1, 1, none⟩ (.slice none 0 0)) β x := ⟨own_sb hpo2.1 (own_neR hpo2.1 HWW.out.box (by decide)) _, own_sb hpo2.2 (own_neR hpo2.2 HWW.out.box (by decide)) _⟩
          have Z7 := HZ1.out.far (a := ⟨base + 1, 1, none⟩) (by show base ≠ base + 1; omega) (.slice none 0 0)
          have h7 : Below base w6 (w6.setCell ⟨base + 1, 1, none⟩ (.slice none 0 0)) := bel_set (Below.refl _ _) _ _ (by show base ≤ base + 1; omega)
          have S7 := HS1.out.stay (keeps_of_base h7) HWB.out HNB.out
          have B7 := keeps_bel HB1.out h7 HBS.out
          have hbase7 : base ≤ (w6.setCell ⟨base + 1, 1, none⟩ (.slice none 0 0)).heap.size := by have := h7.size; omega
          have HWW := hidd W7
          have HR1 := hidd R7
          have HZ1 := hidd Z7
          have HB1 := hidd B7
          have HS1 := hidd S7
          have hpo2 := P7
          clear W7 R7 Z7 B7 S7 P7 h7 hbase
          have hbase := hbase7
          clear hbase7
          go_upto_region 12 with fail
          generalize w6.setCell ⟨base + 1, 1, none⟩ (.slice none 0 0) = w7 at *
          clear d9 t9 e2
          have d0 : w7.cell? ⟨base + 1, 1, none⟩ = some (.slice none 0 0) := HWW.out.box.at_ rfl
          have e0 : w7.cell? ⟨q5, 1, none⟩ = some (.slice x.2.2.1 x.1.last.length x.2.2.2) := HR1.out.at_ rfl
          have HLE := hidd HLE0.out
          go_upto_region 13 with (at_builtin; refine wpList_plain rfl fun K hK => ?_; refine wp_app_more (.tmp 38) (.tmp 40) rfl base (.slice (none : Option Addr) (([] : List Nat)).length 0) (([] : List Nat)) rfl HWW.out.la _ _ x.1.last rfl hpo2.2.its (by have := HLE.out; omega) hbase ?_; intro A' c' w5 o5 g5 at5; have RW5 := WhS.last HWW.out o5 g5 at5; generalize hm5 : (([] : List Nat) ++ x.1.last).length = m5 at RW5 at5 ⊢; have f0 := RW5.1.at_ (k := 1) rfl; have ht := RW5.1.thawed; refine hK _ _ ?_)
          obtain ⟨hb6, hr6, hi6⟩ := wh_step (i := 1) (z := .slice A' m5 c') HWW.out.la g5 (show base ≤ base + 1 by omega) hbase RW5.1
          have HW6 := hidd RW5.2
          have HR6 := hidd (hr6 q5 _ _ (by decide) (by omega) HR1.out)
          have HP6 : Hid (PtOk (w5.setCell ⟨base + 1, 1, none⟩ (.slice A' m5 c')) β x) := ⟨hi6 _ _ _ _ (hlt5 _ 0 _ _ HPU.out.1) hpo2.1, hi6 _ _ _ _ (hlt5 _ 0 _ _ HPU.out.2) hpo2.2⟩
          have HZ6 := hidd (hr6 base _ _ (by decide) (by omega) HZ1.out)
          have HS6 := hidd (HS1.out.stay (keeps_of_base hb6) HWB.out HNB.out)
          have HB6 := hidd (keeps_bel HB1.out hb6 HBS.out)
          have hs6 : base ≤ (w5.setCell ⟨base + 1, 1, none⟩ (.slice A' m5 c')).heap.size := by have := hb6.size; omega
          clear RW5 o5 g5 at5 d0 e0 HWW HR1 hb6 hr6 hi6 hpo2 HZ1 HB1 HS1 hbase hm5
          go_upto_region 13 with fail
          generalize w5.setCell ⟨base + 1, 1, none⟩ (.slice A' m5 c') = w6 at *
          clear f0 ht
          go_wp2
          exact ⟨⟨j + 1, _, _, _, _, _, _, by omega, rfl, rfl, HRG.out, HW6.out.re rfl rfl, HZ6.out, HS6.out, HB6.out⟩, by simp [intOf]; omega⟩
      | false =>
        go_upto_region 9 with fail
        have e2 : w3.cell? ⟨q5, 2, none⟩ = some (.bool x.1.nul) := HR1.out.at_ rfl
        cases hxn : x.1.nul with
        | true =>
          rw [hxn] at e2
          have HRG : Hid ((⟨p.first, p.last ++ x.1.last, false⟩, linkF f' p.last x.1.first) = rowG (pts (ks.take (j + 1))) f) := by
            show _ = _
            rw [← HSTEP.out]
            unfold rowStep
            rw [hpn, hxn]
            simp
          have d0 : w3.cell? ⟨base + 1, 1, none⟩ = some (.slice A2 p.last.length c2) := HWW.out.box.at_ rfl
          have e0 : w3.cell? ⟨q5, 1, none⟩ = some (.slice x.2.2.1 x.1.last.length x.2.2.2) := HR1.out.at_ rfl
          go_upto_region 12 with fail
          go_upto_region 13 with (at_builtin; refine wpList_plain rfl fun K hK => ?_; refine wp_app_more (.tmp 38) (.tmp 40) rfl base (.slice A2 (p.last).length c2) (p.last) rfl HWW.out.la _ _ x.1.last rfl hpo2.2.its (by have := HLE.out; omega) hbase ?_; intro A' c' w5 o5 g5 at5; have RW5 := WhS.last HWW.out o5 g5 at5; generalize hm5 : (p.last ++ x.1.last).length = m5 at RW5 at5 ⊢; have f0 := RW5.1.at_ (k := 1) rfl; have ht := RW5.1.thawed; refine hK _ _ ?_)
          obtain ⟨hb6, hr6, hi6⟩ := wh_step (i := 1) (z := .slice A' m5 c') HWW.out.la g5 (show base ≤ base + 1 by omega) hbase RW5.1
          have HW6 := hidd RW5.2
          have HR6 := hidd (hr6 q5 _ _ (by decide) (by omega) HR1.out)
          have HP6 : Hid (PtOk (w5.setCell ⟨base + 1, 1, none⟩ (.slice A' m5 c')) β x) := ⟨hi6 _ _ _ _ (hlt5 _ 0 _ _ HPU.out.1) hpo2.1, hi6 _ _ _ _ (hlt5 _ 0 _ _ HPU.out.2) hpo2.2⟩
          have HZ6 := hidd (hr6 base _ _ (by decide) (by omega) HZ1.out)
          have HS6 := hidd (HS1.out.stay (keeps_of_base hb6) HWB.out HNB.out)
          have HB6 := hidd (keeps_bel HB1.out hb6 HBS.out)
          have hs6 : base ≤ (w5.setCell ⟨base + 1, 1, none⟩ (.slice A' m5 c')).heap.size := by have := hb6.size; omega
          clear RW5 o5 g5 at5 d0 e0 HWW HR1 hb6 hr6 hi6 hpo2 HZ1 HB1 HS1 hbase hm5
          go_upto_region 13 with fail
          generalize w5.setCell ⟨base + 1, 1, none⟩ (.slice A' m5 c') = w6 at *
          clear f0 ht
          go_wp2
          exact ⟨⟨j + 1, _, _, _, _, _, _, by omega, rfl, rfl, HRG.out, HW6.out.re rfl rfl, HZ6.out, HS6.out, HB6.out⟩, by simp [intOf]; omega⟩
        | false =>
          rw [hxn] at e2
          have HRG : Hid ((⟨p.first, [] ++ x.1.last, false⟩, linkF f' p.last x.1.first) = rowG (pts (ks.take (j + 1))) f) := by
            show _ = _
            rw [← HSTEP.out]
            unfold rowStep
            rw [hpn, hxn]
            simp
          have d9 : w3.cell? ⟨base + 1, 1, none⟩ = some (.slice A2 p.last.length c2) := HWW.out.box.at_ rfl
          have t9 := HWW.out.box.thawed
          have W7 := HWW.out.clear
          have R7 := HR1.out.far (a := ⟨base + 1, 1, none⟩) (by show q5 ≠ base + 1; omega) (.slice none 0 0)
          have P7 : PtOk (w3.setCell ⟨base + 1, 1, none⟩ (.slice none 0 0)) β x := ⟨own_sb hpo2.1 (own_neR hpo2.1 HWW.out.box (by decide)) _, own_sb hpo2.2 (own_neR hpo2.2 HWW.out.box (by decide)) _⟩
          have Z7 := HZ1.out.far (a := ⟨base + 1, 1, none⟩) (by show base ≠ base + 1; omega) (.slice none 0 0)
          have h7 : Below base w3 (w3.setCell ⟨base + 1, 1, none⟩ (.slice none 0 0)) := bel_set (Below.refl _ _) _ _ (by show base ≤ base + 1; omega)
          have S7 := HS1.out.stay (keeps_of_base h7) HWB.out HNB.out
          have B7 := keeps_bel HB1.out h7 HBS.out
          have hbase7 : base ≤ (w3.setCell ⟨base + 1, 1, none⟩ (.slice none 0 0)).heap.size := by have := h7.size; omega
          have HWW := hidd W7
          have HR1 := hidd R7
          have HZ1 := hidd Z7
          have HB1 := hidd B7
          have HS1 := hidd S7
          have hpo2 := P7
          clear W7 R7 Z7 B7 S7 P7 h7 hbase
          have hbase := hbase7
          clear hbase7
          go_upto_region 12 with fail
          generalize w3.setCell ⟨base + 1, 1, none⟩ (.slice none 0 0) = w7 at *
          clear d9 t9 e2
          have d0 : w7.cell? ⟨base + 1, 1, none⟩ = some (.slice none 0 0) := HWW.out.box.at_ rfl
          have e0 : w7.cell? ⟨q5, 1, none⟩ = some (.slice x.2.2.1 x.1.last.length x.2.2.2) := HR1.out.at_ rfl
          have HLE := hidd HLE0.out
          go_upto_region 13 with (at_builtin; refine wpList_plain rfl fun K hK => ?_; refine wp_app_more (.tmp 38) (.tmp 40) rfl base (.slice (none : Option Addr) (([] : List Nat)).length 0) (([] : List Nat)) rfl HWW.out.la _ _ x.1.last rfl hpo2.2.its (by have := HLE.out; omega) hbase ?_; intro A' c' w5 o5 g5 at5; have RW5 := WhS.last HWW.out o5 g5 at5; generalize hm5 : (([] : List Nat) ++ x.1.last).length = m5 at RW5 at5 ⊢; have f0 := RW5.1.at_ (k := 1) rfl; have ht := RW5.1.thawed; refine hK _ _ ?_)
          obtain ⟨hb6, hr6, hi6⟩ := wh_step (i := 1) (z := .slice A' m5 c') HWW.out.la g5 (show base ≤ base + 1 by omega) hbase RW5.1
          have HW6 := hidd RW5.2
          have HR6 := hidd (hr6 q5 _ _ (by decide) (by omega) HR1.out)
          have HP6 : Hid (PtOk (w5.setCell ⟨base + 1, 1, none⟩ (.slice A' m5 c')) β x) := ⟨hi6 _ _ _ _ (hlt5 _ 0 _ _ HPU.out.1) hpo2.1, hi6 _ _ _ _ (hlt5 _ 0 _ _ HPU.out.2) hpo2.2⟩
          have HZ6 := hidd (hr6 base _ _ (by decide) (by omega) HZ1.out)
          have HS6 := hidd (HS1.out.stay (keeps_of_base hb6) HWB.out HNB.out)
          have HB6 := hidd (keeps_bel HB1.out hb6 HBS.out)
          have hs6 : base ≤ (w5.setCell ⟨base + 1, 1, none⟩ (.slice A' m5 c')).heap.size := by have := hb6.size; omega
          clear RW5 o5 g5 at5 d0 e0 HWW HR1 hb6 hr6 hi6 hpo2 HZ1 HB1 HS1 hbase hm5
          go_upto_region 13 with fail
          generalize w5.setCell ⟨base + 1, 1, none⟩ (.slice A' m5 c') = w6 at *
          clear f0 ht
          go_wp2
          exact ⟨⟨j + 1, _, _, _, _, _, _, by omega, rfl, rfl, HRG.out, HW6.out.re rfl rfl, HZ6.out, HS6.out, HB6.out⟩, by simp [intOf]; omega⟩
    · have hje : n = j := by omega
      subst hje
      rw [List.take_of_length_le (by rw [HN.out]; exact Nat.le_refl _)] at hrg
      have hbb : β ≤ base := by have := HBS.out; omega
      have HF : Hid (BS B (wr.setRow base (ptA A1 p.first.length c1 A2 p.last.length c2 false)) bb fb many pv l f' ∧ Keeps (Wb bb fb pv) u (wr.setRow base (ptA A1 p.first.length c1 A2 p.last.length c2 false)) ∧ PtOk (wr.setRow base (ptA A1 p.first.length c1 A2 p.last.length c2 false)) β (⟨p.first, p.last, false⟩, (A1, c1), A2, c2)) :=
        ⟨BS.setRow S R0 (by decide) _, keeps_setRow hkp _ _ (.inr (by have := HBS.out; omega)), own_setRow (own_base W.fi hbb) (own_neR W.fi R0 (by decide)) _, own_setRow (own_base W.la hbb) (own_neR W.la R0 (by decide)) _⟩
      have HRG := hidd hrg
      have R9 := R0.row (ptA A1 p.first.length c1 A2 p.last.length c2 false)
      have HR9 := hidd R9
      have WB := W.box
      clear W S hkp hrg R9
      go_wp2_with (first
        | refine wpList_load_row rfl 57 (.tmp 5) rfl (base + 1) rfl 57 (ptA A1 p.first.length c1 A2 p.last.length c2 false) (0, 0) _ WB Try.underlying57 rfl (pt_info _ _ _) ?_
        | refine wpList_store_row rfl 57 (.tmp 4) (.tmp 44) rfl base (ptA A1 p.first.length c1 A2 p.last.length c2 false) rfl rfl 57 ptZ R0 (pt_info _ _ _) rfl (pt_ones _ _ _ _ _ _ _) ?_)
      refine ret_part Try.results60 rfl HR9.out rfl ?_
      rw [← HRG.out]
      exact ⟨A1, c1, A2, c2, rfl, HF.out⟩
end Go.Proofs.Ytahhiajliomcfaa.Sy.Gl

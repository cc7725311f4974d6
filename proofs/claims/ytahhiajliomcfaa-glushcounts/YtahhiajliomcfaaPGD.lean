/- The landed builder: a plan's places are put. -/
import Derived.Test.YtahhiajliomcfaaPGC
namespace Go.Proofs.Ytahhiajliomcfaa.Sy.Gl
open Go.RowKit Go.Proofs.Ytahhiajliomcfaa.Sy.Ap Go.Proofs.Ytahhiajliomcfaa.Sy.Ap.Wk Go.Proofs.Ytahhiajliomcfaa.Sy.Lg Go.Proofs.Ytahhiajliomcfaa.Sy.Pl
set_option maxRecDepth 100000
set_option linter.unusedVariables false

theorem BS.notW {B : Nat} {w : World} {bb fb many : Nat} {pv : Value} {l : List Pv} {f : Fol} {q : Nat} {t : TypeId} {cs : Array Value} (h : BS B w bb fb many pv l f) (r : RowA w q t cs) (ht : t ≠ 55 ∧ t ≠ 84 ∧ t ≠ 44) : ¬ Wb bb fb pv q := by
  rintro (e | e | e)
  · subst e
    have h1 := h.row
    unfold RowA at h1 r
    rw [r] at h1
    injection h1 with h1
    injection h1 with _ h3
    exact ht.1 h3
  · subst e
    have h1 := h.fol
    unfold RowF at h1
    unfold RowA at r
    rw [r] at h1
    injection h1 with h1
    injection h1 with _ h3
    exact ht.2.1 h3
  · exact own_neR h.places r (fun e => ht.2.2 e.symm) e
/-- What stays where a cell of a row of parts is written. -/
structure Kp1 (u : World) (q : Nat) (w w' : World) : Prop where
  bs : ∀ {B : Nat} {bb fb many : Nat} {pv : Value} {l : List Pv} {f : Fol}, BS B w bb fb many pv l f → BS B w' bb fb many pv l f
  ir : ∀ {B : Nat} {A : Option Addr} {c : Nat} {xs : List Nat}, IR w B A c xs → IR w' B A c xs
  row : ∀ {g : Nat} {t : TypeId} {cs : Array Value}, g ≠ q → RowA w g t cs → RowA w' g t cs
  own : ∀ {B : Nat} {e : TypeId} {sz n : Nat} {v : Value} {xs : List Value}, v.ownBlock ≠ some q → w.ownsRow B e sz v n xs → w'.ownsRow B e sz v n xs
  kp : ∀ {P : Nat → Prop}, Keeps P u w → Keeps P u w'
theorem kp1_set {u w : World} {q : Nat} {cs : Array Value} (r : RowA w q 57 cs) (hu : u.heap.size ≤ q) (o : Nat) (v : Value) : Kp1 u q w (w.setCell ⟨q, o, none⟩ v) := by
  refine ⟨fun {B bb fb many pv l f} h => ?_, fun {B A c xs} h => own_sb h (own_neR h r (by decide)) _, fun hg h => h.far (a := ⟨q, o, none⟩) hg _, fun hv h => own_sb h hv _, fun h => keeps_set h _ _ (.inr hu)⟩
  have n1 : bb ≠ q := fun e => h.notW r (by decide) (.inl e.symm)
  have n2 : fb ≠ q := fun e => h.notW r (by decide) (.inr (.inl e.symm))
  exact ⟨h.row.far (a := ⟨q, o, none⟩) n1 _, h.fol.far (a := ⟨q, o, none⟩) n2 _, own_sb h.places (own_neR h.places r (by decide)) _, fun x hx => own_sb (h.nexts x hx) (own_neR (h.nexts x hx) r (by decide)) _, h.hb, h.hf, h.few, h.nxt⟩
theorem Kp1.trans {u w w1 w2 : World} {q : Nat} (h : Kp1 u q w w1) (h2 : Kp1 u q w1 w2) : Kp1 u q w w2 :=
  ⟨fun x => h2.bs (h.bs x), fun x => h2.ir (h.ir x), fun hg x => h2.row hg (h.row hg x), fun hv x => h2.own hv (h.own hv x), fun x => h2.kp (h.kp x)⟩
theorem kp1_set3 {u w : World} {q : Nat} {cs : Array Value} (r : RowA w q 57 cs) (hu : u.heap.size ≤ q) (o : Nat) (a b c : Value) : Kp1 u q w (w.setCells q o [a, b, c]) := by
  have h1 := kp1_set r hu o a
  have h2 := kp1_set (r.set o a) hu (o + 1) b
  have h3 := kp1_set ((r.set o a).set (o + 1) b) hu (o + 1 + 1) c
  exact (h1.trans h2).trans h3
theorem there_part {w : World} {q : Nat} {P : List Tv} (r : RowA w q 57 (ptsC P).toArray) {k : Nat} (hk : k < P.length) : w.there q (k * 3) 3 := there_row r (by rw [List.size_toArray, ptsC_len]; omega)
/-- What holds where i nodes were taken. -/
structure AdS (B : Nat) (u : World) (bb fb many q6 qp n : Nat) (pv : Value) (rule : Nat) (ns : List Nd) (g0 : Gs) (i : Nat) (P : List Tv) (pv' : Value) (l' : List Pv) (wr : World) : Prop where
  len : P.length = n
  pt : ∀ k, k < i → (P.getD k tv0).1 = PT rule ns g0 k
  ok : ∀ x ∈ P, PtOk wr u.heap.size x
  row : RowA wr qp 57 (ptsC P).toArray
  bs : BS B wr bb fb many pv' l' (addG rule (ns.take i) g0).2.f
  ps : l'.map (·.1) = (addG rule (ns.take i) g0).2.ps
  kp : Keeps (Wb bb fb pv) u wr
  li : Lies u pv pv'
  res : RowA wr q6 57 ptZ
  ne : q6 ≠ qp
  hq : u.heap.size ≤ q6 ∧ u.heap.size ≤ qp
theorem node_facts {ns : List Nd} (ht : TreeN ns) {k : Nat} {n : Nd} (hk : ns[k]? = some n) : (∀ c ∈ n.l, c < k) ∧ n.l.length ≤ k ∧ k < 1024 ∧ shapeB n = true ∧ ∃ c, Forest ns c k n.l := by
  have hl := (List.getElem?_eq_some_iff.1 hk).1
  have hf := ht.few
  obtain ⟨c, n', e1, e2, e3⟩ := forest_node ht.frs k (Nat.zero_le _) hl
  rw [hk] at e1
  cases e1
  have h1 := Ap.Forest.lenL e2
  exact ⟨forest_lt e2, by omega, by omega, ht.shp n (List.mem_of_getElem? hk), c, e2⟩
theorem kids_few {rule : Nat} {ns : List Nd} {g : Gs} {m : Nat} (ht : TreeN ns) (hm : g.ps.length + bytesN ns ≤ m) {k : Nat} {n : Nd} (hk : ns[k]? = some n) : ((n.l.map (PT rule ns g)).flatMap Pt.first).length ≤ m ∧ ((n.l.map (PT rule ns g)).flatMap Pt.last).length ≤ m := by
  have hl := (List.getElem?_eq_some_iff.1 hk).1
  obtain ⟨-, -, -, -, c, hf⟩ := node_facts ht hk
  obtain ⟨⟨r1, s1⟩, r2, s2⟩ := parts_rise (rule := rule) (g := g) hf (by omega)
  have hq : plQ ns g k ≤ m := by
    have h1 := plQ_le (ns := ns) (g := g) (i := k) (j := ns.length) (by omega) (Nat.le_refl _)
    have h2 : plQ ns g ns.length = g.ps.length + bytesN ns := by unfold plQ; rw [List.take_length]
    omega
  rw [List.flatMap_map, List.flatMap_map]
  exact ⟨by have := rise_len _ _ _ r1 s1; omega, by have := rise_len _ _ _ r2 s2; omega⟩
set_option maxHeartbeats 4000000 in
theorem add_any {B : Nat} {u : World} {bb fb many : Nat} {pv : Value} {l : List Pv} {f : Fol} (hS : BS B u bb fb many pv l f) (gs : List Gd) (ns : List Nd) (A : Option Addr) (c : Nat) (hN : Nds u B A gs) (hg : GN gs ns) (ht : TreeN ns) (hr : Rp ns) (rule : Nat) (hm : l.length + bytesN ns ≤ many) :
    Calls Try.prog 24 #[.pointer (some ⟨bb, 0, none⟩), .slice A gs.length c, .int .i64 (rule : Int)] u fun e u' => PtR B u.heap.size u bb fb many pv (addG rule ns ⟨l.map (·.1), f⟩).2.ps (addG rule ns ⟨l.map (·.1), f⟩).2.f (rootG rule ns ⟨l.map (·.1), f⟩) e u' := by
  obtain ⟨g0, hg0⟩ : ∃ g0 : Gs, g0 = ⟨l.map (·.1), f⟩ := ⟨_, rfl⟩
  have hgl : g0.ps.length = l.length := by rw [hg0, List.length_map]
  have hgf : g0.f = f := by rw [hg0]
  rw [← hg0]
  have hfew := hS.few
  have hpos := ht.pos
  have hlen := hg.1
  have hfw := ht.few
  obtain ⟨n, hn⟩ : ∃ n, gs.length = n := ⟨_, rfl⟩
  rw [hn] at hlen ⊢
  have HN := hidd hN
  have HG := hidd hg
  have HT := hidd ht
  have HRP := hidd hr
  have HM : Hid (g0.ps.length + bytesN ns ≤ many) := by show _ ≤ _; rw [hgl]; exact hm
  have HSZ := hidd hS.size
  have HWB := hidd hS.wb
  have HWL := hidd hS.wlt
  have hmk := make_parts n (by omega)
  have R6 := RowA.new u 57 ptZ
  have hs6 : (u.alloc (.cells ptZ 57)).heap.size = u.heap.size + 1 := World.size_alloc ..
  have Rp1 := RowA.new (u.alloc (.cells ptZ 57)) 57 (ptsC (List.replicate n tv0)).toArray
  have b1 : Below u.heap.size u ((u.alloc (.cells ptZ 57)).alloc (.cells (ptsC (List.replicate n tv0)).toArray 57)) := ((Below.refl _ _).alloc (Nat.le_refl _) _).alloc (by rw [hs6]; omega) _
  have R6b := R6.alloc (.cells (ptsC (List.replicate n tv0)).toArray 57)
  rw [hs6] at Rp1
  have S1 := hS.below b1
  have HA0 : Hid (AdS B u bb fb many u.heap.size (u.heap.size + 1) n pv rule ns g0 0 (List.replicate n tv0) pv l ((u.alloc (.cells ptZ 57)).alloc (.cells (ptsC (List.replicate n tv0)).toArray 57))) := by
    refine ⟨List.length_replicate, fun k hk => absurd hk (Nat.not_lt_zero _), fun x hx => ?_, Rp1, ?_, ?_, Keeps.of_below b1, lies_refl _ _, R6b, by omega, Nat.le_refl _, by omega⟩
    · rw [List.eq_of_mem_replicate hx]
      exact ⟨World.ownsRow_nil _ _ _ _, World.ownsRow_nil _ _ _ _⟩
    · show BS B _ bb fb many pv l g0.f
      rw [hgf]
      exact S1
    · show _ = g0.ps
      rw [hg0]
  obtain ⟨RES, hRES⟩ : ∃ RES, rootG rule ns g0 = RES := ⟨_, rfl⟩
  have HROOT : Hid (PT rule ns g0 (n - 1) = RES) := by
    show _ = _
    rw [← hRES]
    unfold rootG
    rw [← hlen]
    have h := PT_at (rule := rule) (ns := ns) (g := g0) (k := n - 1) (i := n) (by omega) (by omega)
    rw [List.take_of_length_le (by omega)] at h
    exact h.symm
  rw [hRES]
  have HLN := hidd hlen
  have hn1 : 1 ≤ n := by omega
  clear hg0 hgl hgf hN hg ht hr hm R6 hs6 Rp1 b1 R6b S1 hRES hlen hpos hS hn
  have hn2 : n ≤ 1024 := by have := HLN.out; omega
  clear hfw
  go_enter Try.func24, Try.ntmps24
  go_wp2
  generalize (u.alloc (.cells ptZ 57)).alloc (.cells (ptsC (List.replicate n tv0)).toArray 57) = w0 at *
  obtain ⟨q6, hq6⟩ : ∃ q6, u.heap.size = q6 := ⟨_, rfl⟩
  have HQ6 := hidd hq6
  rw [hq6] at HA0
  rw [hq6]
  obtain ⟨qp, hqp⟩ : ∃ qp, q6 + 1 = qp := ⟨_, rfl⟩
  rw [hqp] at HA0
  rw [hqp]
  clear hq6 hqp
  obtain ⟨if0, hif, hz0, hz1, hz2⟩ := info_parts part_info
  go_loopw [18] (fun s18 wr => ∃ (i : Nat) (P : List Tv) (pv' : Value) (l' : List Pv), i ≤ n ∧ s18 = .int .i64 (i : Int) ∧ AdS B u bb fb many q6 qp n pv rule ns g0 i P pv' l' wr) (fun s18 _ => n - (intOf s18).toNat)
  case atStart => exact ⟨0, _, _, _, Nat.zero_le _, rfl, HA0.out⟩
  case round =>
    clear HA0
    obtain ⟨i, P, pv', l', hi0, rfl, HA⟩ := hrel
    generalize wr = wo at *
    by_cases hlt : i < n
    · have hig : i < gs.length := by have := HG.out.1; have := HLN.out; omega
      have hin : i < ns.length := by have := HLN.out; omega
      have hnd : ns[i]? = some ns[i] := List.getElem?_eq_getElem hin
      obtain ⟨hlow, hkl, hi1024, hsh, -⟩ := node_facts HT.out hnd
      have hkf := kids_few (rule := rule) HT.out HM.out hnd
      have hgn := HG.out.2 i hig
      have e0 : ns.getD i nd0 = ns[i] := by rw [List.getD_eq_getElem?_getD, hnd]; rfl
      rw [e0] at hgn
      have hBW : Below B u wo := HA.kp.below HSZ.out HWB.out
      obtain ⟨b1, oz, rfl, hb1, A3, c3, hI, r1⟩ := (HN.out.below hBW).at_ hig
      have HAA := hidd HA
      have HPE := hidd (PT_eq (rule := rule) (g := g0) hnd hlow)
      have HND := hidd hnd
      have HRN := hidd (HRP.out ns[i] (List.getElem_mem hin))
      have hct : ∀ (h5 : ns[i].op = 5), ns[i].hi ≠ -1 → (ns.getD (ns[i].l.getD 0 0) nd00).op = 2 := fun h5 hh => by
        rcases HRN.out h5 with q | q
        · unfold starB at q
          simp only [Bool.and_eq_true, beq_iff_eq] at q
          exact absurd q.2 hh
        · unfold ctB at q
          simp only [Bool.and_eq_true, beq_iff_eq] at q
          exact q.1.1.2
      have HCT := hidd hct
      have HPS : Hid (l'.length + (if ns[i].op = 2 then 1 else 0) ≤ many) := by
        have h1 := congrArg List.length HA.ps
        rw [List.length_map, plQ_eq] at h1
        have h2 := plQ_succ (g := g0) hnd
        have h3 := plQ_le (ns := ns) (g := g0) (i := i + 1) (j := ns.length) (by omega) (Nat.le_refl _)
        have h4 : plQ ns g0 ns.length = g0.ps.length + bytesN ns := by unfold plQ; rw [List.take_length]
        have := HM.out
        show _ ≤ _
        omega
      have HLOW := hidd hlow
      have HKF := hidd hkf
      have HSH := hidd hsh
      have HI := hidd hI
      have hgl : (gs.getD i gd0).l = ns[i].l.map fun k : Nat => (k : Int) := hgn.l
      generalize gs.getD i gd0 = gd at *
      generalize ns[i] = nd at *
      have HGN := hidd hgn
      have HGL := hidd hgl
      obtain ⟨m, hm⟩ : ∃ m, nd.l.length = m := ⟨_, rfl⟩
      have hgm : gd.l.length = m := by rw [hgl, List.length_map, hm]
      have HML := hidd hm
      have hrow : gdL gd A3 c3 = [.int .u8 gd.op, .int .u64 (W gd.s 0), .int .u64 (W gd.s 1), .int .u64 (W gd.s 2), .int .u64 (W gd.s 3), .slice A3 m c3, .int .i64 gd.lo, .int .i64 gd.hi, .string gd.nm] := by unfold gdL; rw [hgm]
      have HROW := hidd hrow
      have hm1024 : m < 1024 := by omega
      have Z1 := RowA.new wo 42 zeroC
      have hW1 : Below wo.heap.size wo ((wo.alloc (.cells zeroC 42)).setRow wo.heap.size (gdL gd A3 c3).toArray) := bel_setRow ((Below.refl _ _).alloc (Nat.le_refl _) _) _ _ (Nat.le_refl _)
      have R1 := Z1.row (gdL gd A3 c3).toArray
      have hini : (i : Int) < (n : Int) := by omega
      clear HA hig hin hnd hlow hkl hi1024 hsh hkf hgn e0 hBW hI hgl hm hgm hrow hct hb1
      go_upto_region 5 with (first
        | refine wpList_load_mid rfl 42 (.tmp 21) rfl b1 (oz + i * 9) rfl (gdL gd A3 c3) _ r1 Try.underlying42 rfl (gdL_info gd A3 c3) ?_
        | refine wpList_store_row rfl 42 (.tmp 9) (.tmp 22) rfl wo.heap.size (gdL gd A3 c3).toArray rfl rfl 42 zeroC Z1 (gdL_infoA gd A3 c3) rfl (gdL_one gd A3 c3) ?_)
      change RowA ((wo.alloc (.cells zeroC 42)).setRow wo.heap.size (gdL gd A3 c3).toArray) _ _ _ at R1
      generalize (wo.alloc (.cells zeroC 42)).setRow wo.heap.size (gdL gd A3 c3).toArray = w2 at *
      obtain ⟨q9, hq9⟩ : ∃ q9, wo.heap.size = q9 := ⟨_, rfl⟩
      rw [hq9] at R1
      rw [hq9]
      rw [put_non, HROW.out]
      have HQ9 := hidd hq9
      rw [HROW.out] at R1
      have HR1 := hidd R1
      have x5 : w2.cell? ⟨q9, 5, none⟩ = some (.slice A3 m c3) := R1.at_ rfl
      have HW1 := hidd hW1
      have HRP2 := hidd (HAA.out.row.below hW1 HAA.out.row.lt)
      clear Z1 r1 hW1 R1 hq9
      go_wp2
      go_loopw [10, 26] (fun s10 s26 wr => ∃ (j : Nat) (kA : Option Addr) (kc : Nat), j ≤ m ∧ s26 = .int .i64 (j : Int) ∧ s10 = .slice kA j kc ∧ wr.ownsRow w2.heap.size 57 3 (.slice kA j kc) j (ptsC ((nd.l.take j).map fun k => P.getD k tv0)) ∧ Below w2.heap.size w2 wr) (fun _ s26 _ => m - (intOf s26).toNat)
      case atStart => exact ⟨0, none, 0, Nat.zero_le _, rfl, rfl, World.ownsRow_nil _ _ _ _, Below.refl _ _⟩
      case round =>
        obtain ⟨j, kA, kc, hj0, rfl, rfl, oK, hb2⟩ := hrel
        clear x5
        by_cases hltj : j < m
        · have hjl : j < nd.l.length := by rw [HML.out]; exact hltj
          have hjg : j < gd.l.length := by rw [HGL.out, List.length_map]; exact hjl
          obtain ⟨gk, ok, rfl, hgk, hcell⟩ := HI.out (fun q => by rw [q] at hjg; cases hjg)
          have hgj : gd.l.getD j 0 = (nd.l[j] : Int) := by
            rw [HGL.out, List.getD_eq_getElem?_getD, List.getElem?_map, List.getElem?_eq_getElem hjl]
            rfl
          have xk0 := hcell j hjg
          rw [hgj] at xk0
          have hgs : gk < wo.heap.size := by have h1 := HAA.out.kp.below HSZ.out HWB.out; have := h1.size; have := HSZ.out; omega
          have xk := (hb2.cell (p := ⟨gk, ok + j, none⟩) (by show gk < _; have := HW1.out.size; omega)).trans ((HW1.out.cell (p := ⟨gk, ok + j, none⟩) (by show gk < _; exact hgs)).trans xk0)
          have hci := HLOW.out nd.l[j] (List.getElem_mem hjl)
          have HTK : Hid ((nd.l.take (j + 1)).map (fun k => P.getD k tv0) = (nd.l.take j).map (fun k => P.getD k tv0) ++ [P.getD nd.l[j] tv0]) := by
            show _ = _
            rw [List.take_succ_eq_append_getElem hjl, List.map_append]
            rfl
          have hcP : nd.l[j] < P.length := by rw [HAA.out.len]; omega
          have hrg := parts_at (HRP2.out.below hb2 HRP2.out.lt) hcP
          have hcn : nd.l[j] < n := by omega
          generalize nd.l[j] = k at *
          obtain ⟨x, hx⟩ : ∃ x, P.getD k tv0 = x := ⟨_, rfl⟩
          rw [hx] at hrg HTK
          obtain ⟨p, ⟨A1, c1⟩, A2, c2⟩ := x
          have hrg : wr.rangeAt qp (k * 3) [.slice A1 p.first.length c1, .slice A2 p.last.length c2, .bool p.nul] := hrg
          have hown := oK.alloc (.cells #[.slice A1 p.first.length c1, .slice A2 p.last.length c2, .bool p.nul] 57)
          have hnews : ∀ j v, ([.slice A1 p.first.length c1, .slice A2 p.last.length c2, .bool p.nul] : List Value)[j]? = some v → (wr.alloc (.cells #[.slice A1 p.first.length c1, .slice A2 p.last.length c2, .bool p.nul] 57)).cell? ((⟨wr.heap.size, 0, none⟩ : Addr).add j) = some v := World.news_of_block (RowA.new wr 57 #[.slice A1 p.first.length c1, .slice A2 p.last.length c2, .bool p.nul])
          have hH : (wr.alloc (.cells #[.slice A1 p.first.length c1, .slice A2 p.last.length c2, .bool p.nul] 57)).heap.size = wr.heap.size + 1 := World.size_alloc ..
          have hbase : w2.heap.size ≤ (wr.alloc (.cells #[.slice A1 p.first.length c1, .slice A2 p.last.length c2, .bool p.nul] 57)).heap.size := by rw [hH]; have := hb2.size; omega
          have HB2 : Hid (Below w2.heap.size w2 (wr.alloc (.cells #[.slice A1 p.first.length c1, .slice A2 p.last.length c2, .bool p.nul] 57))) := hb2.trans (((Below.refl _ _).alloc (Nat.le_refl _) _).mono hb2.size)
          have hji : (j : Int) < (m : Int) := by omega
          have hki : (k : Int) < (n : Int) := by omega
          clear hjl hjg hcell hgj xk0 hgs hci hcP hx oK hb2 hgk
          go_upto_region 10 with (first
            | refine wpList_load_mid rfl 57 (.tmp 33) rfl qp (k * 3) rfl [.slice A1 p.first.length c1, .slice A2 p.last.length c2, .bool p.nul] _ hrg Try.underlying57 rfl (pt_infoL (p, (A1, c1), A2, c2)) ?_
            | (at_builtin; refine wpList_append_lies _ rfl (.tmp 30) (.tmp 35) 81 rfl w2.heap.size 57 if0 _ 3 56 Try.underlying81 hif hz0 hz1 hz2 rfl (by omega) (.slice kA j kc) j _ rfl hown ⟨wr.heap.size, 0, none⟩ 1 1 [.slice A1 p.first.length c1, .slice A2 p.last.length c2, .bool p.nul] rfl rfl hnews (by simp [Value.oneCell']) (by omega) (by simp only [maxLen]; omega) (by omega) hbase (wr.heap.size + 1) hH ?_; intro g7 cap7 w7 hown7 hgrow hat hlt7; refine Hid.out ?_))
          have HF : Hid (w7.ownsRow w2.heap.size 57 3 (.slice (some ⟨g7, 0, none⟩) (j + 1) cap7) (j + 1) (ptsC ((nd.l.take (j + 1)).map fun k => P.getD k tv0)) ∧ Below w2.heap.size w2 w7) := by
            refine ⟨?_, bel_row HB2.out hbase hgrow (fun k hk => (hown.lt k hk).1)⟩
            rw [HTK.out, ← ptsC_snoc]
            exact hown7
          clear hown hnews hH hbase hown7 hgrow hat hlt7 HB2 hrg xk HTK
          refine Lib.hid ?_
          go_wp2
          exact ⟨⟨j + 1, _, _, by omega, rfl, rfl, HF.out.1, HF.out.2⟩, by simp [intOf]; omega⟩
        · have hje : m = j := by omega
          subst hje
          rw [List.take_of_length_le (l := nd.l) (by rw [HML.out]; exact Nat.le_refl _)] at oK
          obtain ⟨KS, hKS⟩ : ∃ KS, nd.l.map (fun k => P.getD k tv0) = KS := ⟨_, rfl⟩
          rw [hKS] at oK
          have hkl : KS.length = m := by rw [← hKS, List.length_map, HML.out]
          have hpts : pts KS = nd.l.map (PT rule ns g0) := by
            rw [← hKS]
            unfold pts
            rw [List.map_map]
            apply List.map_congr_left
            intro k hk
            exact HAA.out.pt k (HLOW.out k hk)
          have hbA : Below wo.heap.size wo wr := HW1.out.trans (hb2.mono HW1.out.size)
          have hpB : ∀ x ∈ P, PtOk wr u.heap.size x := fun x hx => ptok_below (HAA.out.ok x hx) hbA
          have hKin : ∀ x ∈ KS, PtOk wr u.heap.size x := fun x hx => by
            rw [← hKS] at hx
            obtain ⟨k, hk, rfl⟩ := List.mem_map.1 hx
            have hkP : k < P.length := by rw [HAA.out.len]; have := HLOW.out k hk; omega
            have e : P.getD k tv0 = P[k] := by rw [List.getD_eq_getElem?_getD, List.getElem?_eq_getElem hkP]; rfl
            rw [e]
            exact hpB _ (List.getElem_mem hkP)
          have hBw : u.heap.size ≤ w2.heap.size := by
            have h1 := HAA.out.kp.size
            have h2 := HW1.out.size
            omega
          have hKR : KR wr u.heap.size kA kc KS := ⟨by rw [hkl]; exact own_base oK hBw, hKin⟩
          have S2 := HAA.out.bs.below hbA
          have hl'l : l'.length = (addG rule (ns.take i) g0).2.ps.length := by have := congrArg List.length HAA.out.ps; rw [List.length_map] at this; exact this
          have hPB : ∀ x ∈ KS, PtB l'.length x.1 := fun x hx => by
            have h1 : x.1 ∈ pts KS := List.mem_map.2 ⟨x, hx, rfl⟩
            rw [hpts] at h1
            obtain ⟨k, hk, hk2⟩ := List.mem_map.1 h1
            rw [← hk2, hl'l, ← PT_at (rule := rule) (ns := ns) (g := g0) (k := k) (i := i) (HLOW.out k hk) (by have := HLN.out; omega)]
            exact ptB_getD (addG_ptB rule g0 _ (ns.take i) rfl) k
          have hTG : (⟨l'.map (·.1), (addG rule (ns.take i) g0).2.f⟩ : Gs) = (addG rule (ns.take i) g0).2 := by rw [HAA.out.ps]
          obtain ⟨T, hT⟩ : ∃ T, takeG rule nd (pts KS) ⟨l'.map (·.1), (addG rule (ns.take i) g0).2.f⟩ = T := ⟨_, rfl⟩
          have hTP : takeG rule nd (nd.l.map (PT rule ns g0)) (addG rule (ns.take i) g0).2 = T := by rw [← hT, hpts, hTG]
          have h5one : nd.op = 5 → nd.l.length = 1 := fun h5 => (rep_one HSH.out h5).1
          have hc := Tk.take_any S2 gd nd A3 m c3 HGN.out kA kc KS (β := u.heap.size) (by have := HAA.out.kp.size; have := hbA.size; omega) hKR (by rw [← fi_pts, hpts]; have := HKF.out.1; omega) (by rw [← la_pts, hpts]; have := HKF.out.2; omega) (by omega) hPB (by have := HPS.out; omega) rule (fun h2 => by have := HPS.out; rw [if_pos h2] at this; omega) (fun h5 => by have := h5one h5; have := HML.out; omega) (fun h5 hh => by
            have h1 := h5one h5
            obtain ⟨c0, hc0⟩ := List.length_eq_one_iff.1 h1
            have hop := HCT.out h5 hh
            rw [hc0] at hop
            have hci := HLOW.out c0 (by rw [hc0]; exact List.mem_singleton.2 rfl)
            have hcn : c0 < ns.length := by have := HLN.out; omega
            have hnc : ns[c0]? = some ns[c0] := List.getElem?_eq_getElem hcn
            have e : ns.getD ([c0].getD 0 0) nd00 = ns[c0] := by
              show ns.getD c0 nd00 = _
              rw [List.getD_eq_getElem?_getD, hnc]
              rfl
            rw [e] at hop
            obtain ⟨pp, -, hpp⟩ := addG_byte rule g0 _ (ns.take i) rfl c0 ns[c0] (by rw [List.getElem?_take, if_pos hci]; exact hnc) hop
            rw [PT_at hci (by have := HLN.out; omega)] at hpp
            refine ⟨pp, ?_⟩
            rw [hpts, hc0]
            show (PT rule ns g0 c0).first = _
            rw [hpp]) hT
          rw [hkl] at hc
          have hR9 := HR1.out.below hb2 HR1.out.lt
          have hRQ := HRP2.out.below hb2 HRP2.out.lt
          have hR6 := HAA.out.res.below hbA HAA.out.res.lt
          obtain ⟨y0, y1, y2, y3, y4, y5, y6, y7, y8⟩ : wr.cell? ⟨q9, 0, none⟩ = some (.int .u8 gd.op) ∧ wr.cell? ⟨q9, 1, none⟩ = some (.int .u64 (W gd.s 0)) ∧ wr.cell? ⟨q9, 2, none⟩ = some (.int .u64 (W gd.s 1)) ∧ wr.cell? ⟨q9, 3, none⟩ = some (.int .u64 (W gd.s 2)) ∧ wr.cell? ⟨q9, 4, none⟩ = some (.int .u64 (W gd.s 3)) ∧ wr.cell? ⟨q9, 5, none⟩ = some (.slice A3 m c3) ∧ wr.cell? ⟨q9, 6, none⟩ = some (.int .i64 gd.lo) ∧ wr.cell? ⟨q9, 7, none⟩ = some (.int .i64 gd.hi) ∧ wr.cell? ⟨q9, 8, none⟩ = some (.string gd.nm) := ⟨hR9.at_ rfl, hR9.at_ rfl, hR9.at_ rfl, hR9.at_ rfl, hR9.at_ rfl, hR9.at_ rfl, hR9.at_ rfl, hR9.at_ rfl, hR9.at_ rfl⟩
          have hKu : Keeps (Wb bb fb pv) u wr := keepsW_trans HAA.out.kp (Keeps.of_below hbA)
          have HKU := hidd hKu
          have HS2 := hidd S2
          have HKR := hidd hKR
          have HKL := hidd hkl
          have HOK := hidd (own_base oK hBw)
          have hkq : (Value.slice kA m kc).ownBlock ≠ some qp := fun e => by
            have h1 := (oK.lt qp e).1
            have h2 := HRP2.out.lt
            omega
          have HKQ := hidd hkq
          have HPB := hidd hpB
          have HR9 := hidd hR9
          have HRQ := hidd hRQ
          have HR6 := hidd hR6
          have HTP := hidd hTP
          have HPTS := hidd hpts
          have HZS : Hid (may1 (withL nd (List.range KS.length)) (zsOf KS) = may1 nd ((addG rule (ns.take i) g0).1.map Pt.nul)) := by
            show _ = _
            have h1 := may_leaves nd (addG rule (ns.take i) g0).1 (fun h5 e => by have := h5one h5; rw [e] at this; cases this)
            have h2 : kidsG nd (addG rule (ns.take i) g0).1 = pts KS := by
              rw [hpts]
              unfold kidsG
              apply List.map_congr_left
              intro k hk
              exact PT_at (HLOW.out k hk) (by have := HLN.out; omega)
            rw [h2] at h1
            rw [hkl, ← HML.out]
            have h3 : (pts KS).map Pt.nul = zsOf KS := by unfold pts zsOf; rw [List.map_map]; rfl
            rw [h3] at h1
            exact h1
          clear hKS hpts hbA hpB hKin hBw hKR S2 hl'l hPB hTG hT hTP h5one oK hb2 hkl hKu hkq hR9 hRQ hR6 HCT HRP2 HR1 HW1 HI HKF HPS HRN
          go_wp2_with fail
          refine hc.mono ?_
          rintro e w7 ⟨z, pv2, l2, A1, c1, A2, c2, rfl, S7, hl7, K7, L7, o7⟩
          have hqu := HAA.out.hq
          have hnW : ∀ {t : TypeId} {cs : Array Value} {q : Nat}, RowA wr q t cs → t ≠ 55 ∧ t ≠ 84 ∧ t ≠ 44 → ¬ Wb bb fb pv' q := fun r h => HS2.out.notW r h
          have R7 : RowA w7 qp 57 (ptsC P).toArray := row_keeps HRQ.out K7 (hnW HRQ.out (by decide))
          have Rn7 : RowA w7 q9 42 #[.int .u8 gd.op, .int .u64 (W gd.s 0), .int .u64 (W gd.s 1), .int .u64 (W gd.s 2), .int .u64 (W gd.s 3), .slice A3 m c3, .int .i64 gd.lo, .int .i64 gd.hi, .string gd.nm] := row_keeps HR9.out K7 (hnW HR9.out (by decide))
          have Rs7 : RowA w7 q6 57 ptZ := row_keeps HR6.out K7 (hnW HR6.out (by decide))
          have hiP : i < P.length := by rw [HAA.out.len]; omega
          have hk3 := kp1_set3 (u := u) R7 hqu.2 (i * 3) (.slice A1 T.1.1.length c1) (.slice A2 T.1.2.length c2) (.bool z)
          have R8 : RowA (w7.setCells qp (i * 3) [.slice A1 T.1.1.length c1, .slice A2 T.1.2.length c2, .bool z]) qp 57 (ptsC (P.set i (⟨T.1.1, T.1.2, z⟩, (A1, c1), A2, c2))).toArray := parts_set R7 hiP (⟨T.1.1, T.1.2, z⟩, (A1, c1), A2, c2)
          have hth := there_part R7 hiP
          have hKu7 : Keeps (Wb bb fb pv) u w7 := HKU.out.trans K7 (fun k hk h => lies_wb (u1 := u) HAA.out.li hk h)
          have hLI : Lies u pv pv2 := by
            have h1 := HAA.out.li
            have h2 := HKU.out.size
            rcases L7 with h | ⟨k, h, h3⟩
            · rcases h1 with h4 | ⟨k4, h4, h5⟩
              · exact .inl (h.trans h4)
              · exact .inr ⟨k4, h.trans h4, h5⟩
            · exact .inr ⟨k, h, by omega⟩
          have hP7 : ∀ x ∈ P, PtOk w7 u.heap.size x := fun x hx => ptok_keeps HS2.out (HPB.out x hx) K7
          have hKR7 := KR.keeps HS2.out HKR.out K7
          have hKK7 : w7.ownsRow u.heap.size 57 3 (.slice kA m kc) m (ptsC KS) := by
            have h := hKR7.row
            rw [HKL.out] at h
            exact h
          have S8 := hk3.bs S7
          have hP8 : (∀ x ∈ P, PtOk (w7.setCells qp (i * 3) [.slice A1 T.1.1.length c1, .slice A2 T.1.2.length c2, .bool z]) u.heap.size x) ∧ PtOk (w7.setCells qp (i * 3) [.slice A1 T.1.1.length c1, .slice A2 T.1.2.length c2, .bool z]) u.heap.size (⟨T.1.1, T.1.2, z⟩, (A1, c1), A2, c2) := ⟨fun x hx => ⟨hk3.ir (hP7 x hx).1, hk3.ir (hP7 x hx).2⟩, hk3.ir o7.1, hk3.ir o7.2⟩
          have hKR8 : KR (w7.setCells qp (i * 3) [.slice A1 T.1.1.length c1, .slice A2 T.1.2.length c2, .bool z]) u.heap.size kA kc KS := ⟨by rw [HKL.out]; exact hk3.own HKQ.out hKK7, fun x hx => ⟨hk3.ir (hKR7.ok x hx).1, hk3.ir (hKR7.ok x hx).2⟩⟩
          have Rn8 := hk3.row (show q9 ≠ qp from fun e => by subst e; unfold RowA at Rn7 R7; rw [R7] at Rn7; injection Rn7 with h1; injection h1 with _ h2; exact absurd h2 (by decide)) Rn7
          have Rs8 := hk3.row HAA.out.ne Rs7
          have K8 := hk3.kp hKu7
          have HALL := hidd (And.intro S8 (And.intro hP8 (And.intro hKR8 (And.intro Rn8 (And.intro Rs8 (And.intro K8 (And.intro R8 hLI)))))))
          have HL7 := hidd hl7
          have hii : (i : Int) < (n : Int) := hini
          have hth3 : w7.there qp (i * 3) 3 := hth
          clear hc S7 hl7 K7 L7 o7 hnW R7 Rn7 Rs7 hk3 R8 hKu7 hLI hP7 hKR7 hKK7 S8 hP8 hKR8 Rn8 Rs8 K8 hth y0 y1 y2 y3 y4 y5 y6 y7 y8 HKR HKQ HPB HR9 HRQ HR6 HS2 HKU HOK
          go_upto_region 12 with (refine wpList_store_mid rfl 57 (.tmp 45) (.tmp 44) rfl qp (i * 3) (ptA A1 T.1.1.length c1 A2 T.1.2.length c2 z) rfl rfl hth3 (pt_info _ _ _) (pt_ones _ _ _ _ _ _ _) ?_)
          generalize w7.setCells qp (i * 3) [.slice A1 T.1.1.length c1, .slice A2 T.1.2.length c2, .bool z] = w8 at *
          rw [put_non]
          obtain ⟨-, -, hKR8, Rn8, -⟩ := HALL.out
          have hc := mbn_any gd nd A3 m c3 HGN.out kA kc KS hKR8 (by rw [HKL.out]; omega) HSH.out (by rw [HML.out, HKL.out])
          rw [HKL.out] at hc
          have hzv : may1 (withL nd (List.range m)) (zsOf KS) = may1 nd ((addG rule (ns.take i) g0).1.map Pt.nul) := by rw [← HKL.out]; exact HZS.out
          rw [hzv] at hc
          obtain ⟨z2, hz2⟩ : ∃ z2, may1 nd ((addG rule (ns.take i) g0).1.map Pt.nul) = z2 := ⟨_, rfl⟩
          have HZ2 := hidd hz2
          rw [hz2] at hc
          obtain ⟨y0, y1, y2, y3, y4, y5, y6, y7, y8⟩ : w8.cell? ⟨q9, 0, none⟩ = some (.int .u8 gd.op) ∧ w8.cell? ⟨q9, 1, none⟩ = some (.int .u64 (W gd.s 0)) ∧ w8.cell? ⟨q9, 2, none⟩ = some (.int .u64 (W gd.s 1)) ∧ w8.cell? ⟨q9, 3, none⟩ = some (.int .u64 (W gd.s 2)) ∧ w8.cell? ⟨q9, 4, none⟩ = some (.int .u64 (W gd.s 3)) ∧ w8.cell? ⟨q9, 5, none⟩ = some (.slice A3 m c3) ∧ w8.cell? ⟨q9, 6, none⟩ = some (.int .i64 gd.lo) ∧ w8.cell? ⟨q9, 7, none⟩ = some (.int .i64 gd.hi) ∧ w8.cell? ⟨q9, 8, none⟩ = some (.string gd.nm) := ⟨Rn8.at_ rfl, Rn8.at_ rfl, Rn8.at_ rfl, Rn8.at_ rfl, Rn8.at_ rfl, Rn8.at_ rfl, Rn8.at_ rfl, Rn8.at_ rfl, Rn8.at_ rfl⟩
          clear hKR8 Rn8 hzv hz2 hth3
          go_wp2_with fail
          refine hc.mono ?_
          rintro e w9 ⟨rfl, b9⟩
          obtain ⟨S8, hP8, -, -, Rs8, K8, R8, hLI⟩ := HALL.out
          have R9 := R8.below b9 R8.lt
          have hiP2 : i < (P.set i ((⟨T.1.1, T.1.2, z⟩, (A1, c1), A2, c2) : Tv)).length := by rw [List.length_set]; exact hiP
          have hgd : (P.set i ((⟨T.1.1, T.1.2, z⟩, (A1, c1), A2, c2) : Tv)).getD i tv0 = (⟨T.1.1, T.1.2, z⟩, (A1, c1), A2, c2) := by rw [List.getD_eq_getElem?_getD, List.getElem?_set_self hiP]; rfl
          have R10 := parts_nul R9 hiP2 z2
          rw [hgd, List.set_set] at R10
          have hk1 := kp1_set (u := u) R9 hqu.2 (i * 3 + 2) (.bool z2)
          obtain ⟨hs1, hs2⟩ := there_part R9 hiP2 2 (by omega)
          obtain ⟨vo, hvo⟩ := Option.isSome_iff_exists.1 hs1
          have hP9 : (∀ x ∈ P, PtOk w9 u.heap.size x) ∧ PtOk w9 u.heap.size (⟨T.1.1, T.1.2, z⟩, (A1, c1), A2, c2) := ⟨fun x hx => ptok_below (hP8.1 x hx) b9, ptok_below hP8.2 b9⟩
          have hADS : AdS B u bb fb many q6 qp n pv rule ns g0 (i + 1) (P.set i ((⟨T.1.1, T.1.2, z2⟩, (A1, c1), A2, c2) : Tv)) pv2 l2 (w9.setCell ⟨qp, i * 3 + 2, none⟩ (.bool z2)) := by
            have hadd : (addG rule (ns.take (i + 1)) g0).2 = T.2 := by
              rw [addG_step HND.out]
              show (takeG rule nd (kidsG nd (addG rule (ns.take i) g0).1) (addG rule (ns.take i) g0).2).2 = _
              have h2 : kidsG nd (addG rule (ns.take i) g0).1 = nd.l.map (PT rule ns g0) := by
                unfold kidsG
                apply List.map_congr_left
                intro k hk
                exact PT_at (HLOW.out k hk) (by have := HLN.out; omega)
              rw [h2, HTP.out]
            refine ⟨by rw [List.length_set]; exact HAA.out.len, fun k hk => ?_, fun x hx => ?_, R10, by rw [hadd]; exact hk1.bs (S8.below b9), by rw [hadd]; exact HL7.out, hk1.kp (keepsW_trans K8 (Keeps.of_below b9)), hLI, hk1.row HAA.out.ne (Rs8.below b9 Rs8.lt), HAA.out.ne, hqu⟩
            · rcases Nat.lt_or_ge k i with q | q
              · rw [List.getD_eq_getElem?_getD, List.getElem?_set_ne (by omega), ← List.getD_eq_getElem?_getD]
                exact HAA.out.pt k q
              · have : k = i := by omega
                subst this
                rw [List.getD_eq_getElem?_getD, List.getElem?_set_self hiP, HPE.out, HTP.out, HZ2.out]
                rfl
            · rcases List.mem_or_eq_of_mem_set hx with h | h
              · exact ⟨hk1.ir (hP9.1 x h).1, hk1.ir (hP9.1 x h).2⟩
              · subst h
                exact ⟨hk1.ir hP9.2.1, hk1.ir hP9.2.2⟩
          have HADS := hidd hADS
          clear hADS R9 hgd R10 hk1 hs1 hP9 S8 hP8 Rs8 K8 R8 hLI b9 hc
          go_wp2
          exact ⟨⟨i + 1, _, _, _, by omega, rfl, HADS.out⟩, by simp [intOf]; omega⟩
    · have hie : n = i := by omega
      subst hie
      have hnn : n - 1 < P.length := by rw [HA.len]; omega
      have hp1 := HA.pt (n - 1) (by omega)
      rw [HROOT.out] at hp1
      have hr1 := parts_at HA.row hnn
      have hok1 : PtOk wo u.heap.size (P.getD (n - 1) tv0) := by
        have e : P.getD (n - 1) tv0 = P[n - 1] := by rw [List.getD_eq_getElem?_getD, List.getElem?_eq_getElem hnn]; rfl
        rw [e]
        exact HA.ok _ (List.getElem_mem hnn)
      generalize P.getD (n - 1) tv0 = x at *
      obtain ⟨p, ⟨A1, c1⟩, A2, c2⟩ := x
      obtain rfl : p = RES := hp1
      have hr1 : wo.rangeAt qp ((n - 1) * 3) [.slice A1 p.first.length c1, .slice A2 p.last.length c2, .bool p.nul] := hr1
      have htk : ns.take n = ns := List.take_of_length_le (by have := HLN.out; omega)
      have hS9 := HA.bs
      have hps9 := HA.ps
      rw [htk] at hS9 hps9
      have hR6 := HA.res
      have R9 := hR6.row (ptA A1 p.first.length c1 A2 p.last.length c2 p.nul)
      have HF : Hid (PtR B u.heap.size u bb fb many pv (addG rule ns g0).2.ps (addG rule ns g0).2.f p (.returned (.agg (ptA A1 p.first.length c1 A2 p.last.length c2 p.nul))) (wo.setRow q6 (ptA A1 p.first.length c1 A2 p.last.length c2 p.nul))) :=
        ⟨pv', l', A1, c1, A2, c2, rfl, BS.setRow hS9 hR6 (by decide) _, hps9, keeps_setRow HA.kp _ _ (.inr HA.hq.1), HA.li, own_setRow hok1.1 (own_neR hok1.1 hR6 (by decide)) _, own_setRow hok1.2 (own_neR hok1.2 hR6 (by decide)) _⟩
      have HR9 := hidd R9
      obtain ⟨k, hk⟩ : ∃ k, n = k + 1 := ⟨n - 1, by omega⟩
      have hk1 : ((n : Int) - 1) = (k : Int) := by omega
      have hk2 : n - 1 = k := by omega
      rw [hk2] at hr1
      have hkn : (k : Int) < (n : Int) := by omega
      clear HA hok1 htk hS9 hps9 R9 hnn hk hk2
      go_wp2_with (first
        | refine wpList_load_mid rfl 57 (.tmp 58) rfl qp (k * 3) rfl [.slice A1 p.first.length c1, .slice A2 p.last.length c2, .bool p.nul] _ hr1 Try.underlying57 rfl (pt_infoL (p, (A1, c1), A2, c2)) ?_
        | refine wpList_store_row rfl 57 (.tmp 6) (.tmp 59) rfl q6 (ptA A1 p.first.length c1 A2 p.last.length c2 p.nul) rfl rfl 57 ptZ hR6 (pt_info _ _ _) rfl (pt_ones _ _ _ _ _ _ _) ?_)
      exact ret_part Try.results24 rfl HR9.out rfl HF.out
end Go.Proofs.Ytahhiajliomcfaa.Sy.Gl

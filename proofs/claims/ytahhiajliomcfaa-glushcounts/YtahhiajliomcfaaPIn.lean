/- The reference's planner: the plan of a node. -/
import Derived.Test.YtahhiajliomcfaaPIm
namespace Go.Proofs.Ytahhiajliomcfaa.Sy.Pl.Qr
open Go.RowKit Go.Proofs.Ytahhiajliomcfaa.Sy.Ap
set_option maxRecDepth 100000
set_option linter.unusedVariables false

section
variable {F F' : Nat → Prop} {B b : Nat} {At : Option Addr} {ct : Nat} {gs : List Gd} {most : Int} {w w' : World} {O : Option (List Nd)}
/-- A block that lies apart is written. -/
theorem RS.setq (h : RS F B b At ct gs most w O) {q : Nat} (hq : F q) (i : Nat) (v : Value) : RS F B b At ct gs most (w.setCell ⟨q, i, none⟩ v) O := by
  obtain ⟨nv, l, p, h1, h2, h3, h4⟩ := h
  obtain ⟨q1, q2, q3, q4⟩ := h4 q hq
  have hs : (w.setCell ⟨q, i, none⟩ v).heap.size = w.heap.size := by rw [World.setCell]; simp only [Array.size_modify]
  exact ⟨nv, l, ⟨p.row.far (a := ⟨q, i, none⟩) (fun e => q2 e.symm) v, own_sb p.nodes q3 v, fun x hx => own_sb (p.kids x hx) (q4 x hx) v, p.hb⟩, h1, h2, h3, fun k hk => ⟨by rw [hs]; exact (h4 k hk).1, (h4 k hk).2⟩⟩
end
set_option maxHeartbeats 2000000 in
theorem rplanC {B b : Nat} {At : Option Addr} {ct : Nat} {gs : List Gd} {ns : List Nd} {most : Nat} (hm1 : 1 ≤ most) (hg : GN gs ns) (ht : TreeN ns) (hp : PlainN ns) : ∀ k, k < ns.length → PCr B b At ct gs (most : Int) (pl ns most k) k := by
  intro k
  induction k using Nat.strongRecOn with
  | ind k ih =>
    intro hk F w O hS hN
    have hkg : k < gs.length := by rw [hg.1]; exact hk
    have hgn := hg.2 k hkg
    have hnk : ns[k]? = some ns[k] := List.getElem?_eq_getElem hk
    have e0 : ns.getD k nd0 = ns[k] := by rw [List.getD_eq_getElem?_getD, hnk]; rfl
    rw [e0] at hgn
    obtain ⟨hb, hBb, d0, -, d3⟩ := hS.lens
    obtain ⟨b1, oz, rfl, hb1, A3, c3, hI, r1⟩ := hN.at_ (k := k) hkg
    have hmem := List.mem_of_getElem? hnk
    have hsh := ht.shp _ hmem
    have hlow := (ht.low k _ hnk).2
    have hfew := ht.few
    have hpl : O.bind (pl ns most k) = O.bind (plan1 ns most ns[k] (pl ns most)) := by
      cases O with
      | none => rfl
      | some o => exact pl_eq ht.low most k hnk o
    rw [hpl]
    have hkids : ∀ c ∈ ns[k].l, PCr B b (some ⟨b1, oz, none⟩) ct gs (most : Int) (pl ns most c) c := fun c hc => ih c (hlow c hc) (by have := hlow c hc; omega)
    have hkl : ns[k].l.length ≤ 1024 := by
      have := kids_gn hg ht (gs.getD k gd0) (by rw [List.getD_eq_getElem?_getD, List.getElem?_eq_getElem hkg]; exact List.getElem_mem hkg)
      rw [hgn.l, List.length_map] at this
      omega
    have hkc : ∀ c ∈ ns[k].l, c < gs.length ∧ (gs.getD c gd0).op = ((ns.getD c nd00).op : Int) := fun c hc => by
      have h1 := hlow c hc
      have h2 : c < gs.length := by omega
      exact ⟨h2, (hg.2 c h2).op⟩
    generalize gs.getD k gd0 = g at *
    generalize ns[k] = nd at *
    have hgop : g.op = (nd.op : Int) := hgn.op
    have hgl : g.l = nd.l.map fun k : Nat => (k : Int) := hgn.l
    have hglo : g.lo = nd.lo := hgn.lo
    have hghi : g.hi = nd.hi := hgn.hi
    have hgll : g.l.length = nd.l.length := by rw [hgl, List.length_map]
    have Z1 := RowA.new w 42 zeroC
    have hW1 : Below w.heap.size w ((w.alloc (.cells zeroC 42)).setRow w.heap.size (gdL g A3 c3).toArray) := bel_setRow ((Below.refl _ _).alloc (Nat.le_refl _) _) _ _ (Nat.le_refl _)
    have R1 := Z1.row (gdL g A3 c3).toArray
    obtain ⟨ll, hll⟩ : ∃ ll, gs.length = ll := ⟨_, rfl⟩
    rw [hll] at d0 hkg
    have hkgi : (k : Int) < (ll : Int) := by omega
    have HK := hidd hkids
    have HKC := hidd hkc
    have HS0 := hidd hS
    have HN0 := hidd hN
    have HI := hidd hI
    have HG := hidd hgn
    have HBB : Hid (B ≤ w.heap.size) := by show _ ≤ _; omega
    have hbq0 : b < w.heap.size := hb
    obtain ⟨RES, hRES⟩ : ∃ RES, O.bind (plan1 ns most nd (pl ns most)) = RES := ⟨_, rfl⟩
    have HRES := hidd hRES
    rw [hRES]
    have HD3 := hidd d3
    clear ih hN hg ht hp hgn hnk e0 hmem hlow hfew hkids hkc hS hI hll hpl hRES d3
    go_enter Try.func68, Try.ntmps68
    go_upto_region 2 with (first
      | refine wpList_load_mid rfl 42 (.tmp 13) rfl b1 (oz + k * 9) rfl (gdL g A3 c3) _ r1 Try.underlying42 rfl (gdL_info g A3 c3) ?_
      | refine wpList_store_row rfl 42 (.tmp 5) (.tmp 14) rfl w.heap.size (gdL g A3 c3).toArray rfl rfl 42 zeroC Z1 (gdL_infoA g A3 c3) rfl (gdL_one g A3 c3) ?_)
    change RowA ((w.alloc (.cells zeroC 42)).setRow w.heap.size (gdL g A3 c3).toArray) _ _ _ at R1
    have R1s := R1.lt
    generalize (w.alloc (.cells zeroC 42)).setRow w.heap.size (gdL g A3 c3).toArray = w2 at *
    have HS2 := hidd (HS0.out.more (F' := fun x => F x ∨ x = w.heap.size) hW1 (fun x hx => hx.elim .inl (fun e => .inr ⟨by omega, by rw [e]; exact R1s⟩)))
    have HB2 := hidd (HS0.out.bf hW1)
    have HN2 := hidd (HN0.out.below (hW1.mono HBB.out))
    have HI2 := hidd (HI.out.below (hW1.mono HBB.out))
    obtain ⟨q, hq⟩ : ∃ q, w.heap.size = q := ⟨_, rfl⟩
    rw [hq] at R1 HS2
    rw [hq]
    generalize hFF : (fun x => F x ∨ x = q) = F' at HS2
    have HFF : Hid ((∀ x, F x → F' x) ∧ F' q ∧ ∀ x, F x → x ≠ q) := by
      subst hFF
      exact ⟨fun _ h => .inl h, .inr rfl, fun x hx e => by have := HS0.out.far hx; omega⟩
    have HFL : Hid (∀ x, F' x → x < w2.heap.size) := fun x hx => HS2.out.far hx
    have HBW : Hid (B ≤ w2.heap.size) := HS2.out.size
    clear hFF
    rw [put_non]
    have HQ := hidd hq
    have hqs : q < w2.heap.size := R1.lt
    have HR1 := hidd R1
    have hb2 : b < w2.heap.size := by have := hW1.size; omega
    have x0 : w2.cell? ⟨q, 0, none⟩ = some (.int .u8 g.op) := R1.at_ rfl
    have d3 := HS2.out.lens.2.2.2.2
    clear Z1 r1 hq hW1 R1 HS0 HN0 HI d0 hb hbq0 R1s HD3
    rw [hgop] at x0
    cases O with
    | none =>
      have hno : RES = none := HRES.out.symm
      subst hno
      have d3 : w2.cell? ⟨b, 3, none⟩ = some (.bool true) := d3
      have HF : Hid (RR F B b (some ⟨b1, oz, none⟩) ct gs (most : Int) w none (.returned (.int .i64 0)) w2) := RR.back HFF.out.1 HB2.out ⟨BF.refl _ _ _, 0, rfl, (fun o ho => by cases ho), HS2.out⟩
      clear hsh
      go_wp2
      go_ret
      exact HF.out
    | some o =>
    have d3 : w2.cell? ⟨b, 3, none⟩ = some (.bool false) := d3
    have HRES : Hid (plan1 ns most nd (pl ns most) o = RES) := HRES.out
    by_cases h5 : nd.op = 5
    · have h5g : g.op = 5 := by rw [hgop, h5]; rfl
      rw [h5] at x0
      obtain ⟨hl1, p0, p1, p2⟩ := rep_one hsh h5
      obtain ⟨c, hc⟩ : ∃ c, nd.l = [c] := List.length_eq_one_iff.1 hl1
      have HF : Hid (RES = repF (pl ns most c) ((ns.getD c nd00).op == 2) most nd.lo nd.hi o) := by
        show _ = _
        rw [← HRES.out]
        unfold plan1
        rw [if_pos h5, hc]
        rfl
      clear HRES
      rw [hc] at hgl
      obtain ⟨gk, ok, rfl, hgk, hcell⟩ := HI2.out (by rw [hgl]; simp)
      have xk0 := hcell 0 (by rw [hgl]; simp)
      rw [hgl] at xk0
      have xk1 : w2.cell? ⟨gk, ok, none⟩ = some (.int .i64 (c : Int)) := xk0
      have hg1 : g.l.length = 1 := by rw [hgl]; rfl
      have hrow : gdL g (some ⟨gk, ok, none⟩) c3 = [.int .u8 5, .int .u64 (W g.s 0), .int .u64 (W g.s 1), .int .u64 (W g.s 2), .int .u64 (W g.s 3), .slice (some ⟨gk, ok, none⟩) 1 c3, .int .i64 nd.lo, .int .i64 nd.hi, .string g.nm] := by unfold gdL; rw [hg1, hglo, hghi, h5g]
      obtain ⟨hcg, hcop⟩ := HKC.out c (by rw [hc]; exact List.mem_singleton.2 rfl)
      have hc2 := rrepC (HK.out c (by rw [hc]; exact List.mem_singleton.2 rfl)) hcg hcop hm1 g gk ok c3 hg1 hglo hghi p0 p1 (by rcases p2 with q | q; exact .inl q; exact .inr ⟨q.1, q.2.1⟩) xk1 (Nat.lt_of_lt_of_le hgk HBW.out) HS2.out HN2.out
      rw [hrow] at hc2
      have HR2 := HR1
      rw [hrow] at HR2
      have R2 := HR2.out
      obtain ⟨y0, y1, y2, y3, y4, y5, y6, y7, y8⟩ : w2.cell? ⟨q, 0, none⟩ = some (.int .u8 5) ∧ w2.cell? ⟨q, 1, none⟩ = some (.int .u64 (W g.s 0)) ∧ w2.cell? ⟨q, 2, none⟩ = some (.int .u64 (W g.s 1)) ∧ w2.cell? ⟨q, 3, none⟩ = some (.int .u64 (W g.s 2)) ∧ w2.cell? ⟨q, 4, none⟩ = some (.int .u64 (W g.s 3)) ∧ w2.cell? ⟨q, 5, none⟩ = some (.slice (some ⟨gk, ok, none⟩) 1 c3) ∧ w2.cell? ⟨q, 6, none⟩ = some (.int .i64 nd.lo) ∧ w2.cell? ⟨q, 7, none⟩ = some (.int .i64 nd.hi) ∧ w2.cell? ⟨q, 8, none⟩ = some (.string g.nm) := ⟨R2.at_ rfl, R2.at_ rfl, R2.at_ rfl, R2.at_ rfl, R2.at_ rfl, R2.at_ rfl, R2.at_ rfl, R2.at_ rfl, R2.at_ rfl⟩
      rw [Option.bind_some, ← HF.out] at hc2
      generalize nd.lo = lo at *
      generalize nd.hi = hi at *
      clear hc hgl hcell xk0 xk1 hg1 hrow HK HKC p0 p1 p2 hl1 hgk HI2 hsh hkl hgll hglo hghi HG h5 h5g hgop R2 HR1 HR2 x0 hcg hcop HF
      have hc := hc2
      clear hc2
      go_wp2_with fail
      refine hc.mono ?_
      rintro e w9 ⟨b9, z9, rfl, hz9, S9⟩
      have HF : Hid (RR F B b (some ⟨b1, oz, none⟩) ct gs (most : Int) w RES (.returned (.int .i64 z9)) w9) := RR.back HFF.out.1 HB2.out ⟨b9, z9, rfl, hz9, S9⟩
      clear hc b9 hz9 S9
      go_wp2
      go_ret
      exact HF.out
    · have h5b : ((nd.op : Int) == 5) = false := beq_eq_false_iff_ne.2 (by omega)
      obtain ⟨m, hm⟩ : ∃ m, nd.l.length = m := ⟨_, rfl⟩
      have hgm : g.l.length = m := by rw [hgll, hm]
      obtain ⟨T, hT⟩ : ∃ T, kidsF (pl ns most) nd.l o [] = T := ⟨_, rfl⟩
      have HR : Hid (RES = T.bind fun q => putF (withL nd q.2) q.1) := by
        show _ = _
        rw [← HRES.out, ← hT]
        unfold plan1
        rw [if_neg h5]
      have HT := hidd hT
      have HL := hidd hm
      have HGM := hidd hgm
      have hrow : gdL g A3 c3 = [.int .u8 g.op, .int .u64 (W g.s 0), .int .u64 (W g.s 1), .int .u64 (W g.s 2), .int .u64 (W g.s 3), .slice A3 m c3, .int .i64 g.lo, .int .i64 g.hi, .string g.nm] := by unfold gdL; rw [hgm]
      have HROW := hidd hrow
      have x5 : w2.cell? ⟨q, 5, none⟩ = some (.slice A3 m c3) := by
        have h := HR1.out
        rw [hrow] at h
        exact h.at_ rfl
      have HGL := hidd hgl
      rw [hm] at hkl
      obtain ⟨j0, hj0i, hy0, hy1, hy2⟩ := info_parts int_info
      clear hm hgm hT HRES hrow hgl hgll hglo hghi hsh
      go_wp2
      go_loopw [6, 7] (fun s6 s7 wr => ∃ (j : Nat) (vs : List Int) (rs : List Nat) (kA : Option Addr) (kc : Nat) (O' : Option (List Nd)), j ≤ m ∧ s7 = .int .i64 (j : Int) ∧ s6 = .slice kA j kc ∧ vs.length = j ∧ wr.ownsRow w2.heap.size 3 1 (.slice kA j kc) j (ints vs) ∧ RS (fun x => F' x ∨ (Value.slice kA j kc).ownBlock = some x) B b (some ⟨b1, oz, none⟩) ct gs (most : Int) wr O' ∧ BF B F' w2 wr ∧ (∀ o', O' = some o' → vs = rs.map (fun k : Nat => (k : Int)) ∧ rs.length = j ∧ kidsF (pl ns most) (nd.l.drop j) o' rs = T) ∧ (O' = none → T = none)) (fun _ s7 _ => m - (intOf s7).toNat)
      case atStart => exact ⟨0, [], [], none, 0, some o, Nat.zero_le _, rfl, rfl, rfl, World.ownsRow_nil _ _ _ _, HS2.out.less (fun q hq => hq.elim id (fun e => by cases e)), BF.refl _ _ _, fun o' ho => by cases ho; exact ⟨rfl, rfl, HT.out⟩, fun ho => by cases ho⟩
      case round =>
        obtain ⟨j, vs, rs, kA, kc, O', hj0, rfl, rfl, hvl, ho1, S1, b4, hr1, hr2⟩ := hrel
        clear x0 x5 d3
        have R4 := b4.row HFF.out.2.1 HR1.out
        rw [HROW.out] at R4
        have x5 : wr.cell? ⟨q, 5, none⟩ = some (.slice A3 m c3) := R4.at_ rfl
        clear R4 HS2
        by_cases hlt : j < m
        · have hjl : j < nd.l.length := by rw [HL.out]; exact hlt
          have hdrop : nd.l.drop j = nd.l[j] :: nd.l.drop (j + 1) := List.drop_eq_getElem_cons hjl
          have hcm : nd.l[j] ∈ nd.l := List.getElem_mem hjl
          have hjg : j < g.l.length := by rw [HGM.out]; exact hlt
          obtain ⟨gk, ok, rfl, hgk, hcell⟩ := HI2.out (fun q => by rw [q] at hjg; cases hjg)
          have xk := (b4.bel.cell (p := ⟨gk, ok + j, none⟩) hgk).trans (hcell j hjg)
          have hgj : g.l.getD j 0 = (nd.l[j] : Int) := by
            rw [HGL.out, List.getD_eq_getElem?_getD, List.getElem?_map, List.getElem?_eq_getElem hjl]
            rfl
          rw [hgj] at xk
          have hc := HK.out _ hcm _ wr O' S1 (HN2.out.below b4.bel)
          have hji : (j : Int) < (m : Int) := by omega
          have HT1 : Hid (∀ o', O' = some o' → vs = rs.map (fun k : Nat => (k : Int)) ∧ rs.length = j ∧ (match pl ns most nd.l[j] o' with | none => none | some o'' => kidsF (pl ns most) (nd.l.drop (j + 1)) o'' (rs ++ [o''.length - 1])) = T) := fun o' ho => by
            obtain ⟨h1, h2, h3⟩ := hr1 o' ho
            rw [hdrop, kidsF] at h3
            exact ⟨h1, h2, h3⟩
          have HT2 := hidd hr2
          have HO1 := hidd ho1
          have HB1 := hidd b4
          have HVL := hidd hvl
          generalize nd.l[j] = c at *
          clear hdrop hjl hcm hjg hcell hgk hgj S1 hr1 hr2 ho1 b4
          have HTT : Hid (∃ rs', (∀ o'' z, O'.bind (pl ns most c) = some o'' → z = ((o''.length - 1 : Nat) : Int) → vs ++ [z] = rs'.map (fun k : Nat => (k : Int)) ∧ rs'.length = j + 1 ∧ kidsF (pl ns most) (nd.l.drop (j + 1)) o'' rs' = T) ∧ (O'.bind (pl ns most c) = none → T = none)) := by
            cases O' with
            | none => exact ⟨[], (fun _ _ h => by cases h), fun _ => HT2.out rfl⟩
            | some o' =>
              obtain ⟨h1, h2, h3⟩ := HT1.out o' rfl
              rw [Option.bind_some]
              cases hq : pl ns most c o' with
              | none =>
                rw [hq] at h3
                exact ⟨[], (fun _ _ h => by cases h), fun _ => h3.symm⟩
              | some o5 =>
                rw [hq] at h3
                refine ⟨rs ++ [o5.length - 1], fun o'' z ho hz => ?_, (fun h => by cases h)⟩
                cases ho
                exact ⟨by rw [h1, hz, List.map_append]; rfl, by rw [List.length_append, h2]; rfl, h3⟩
          clear HT1 HT2
          generalize O'.bind (pl ns most c) = O5 at *
          go_wp2_with fail
          refine hc.mono ?_
          rintro e w5 ⟨b5', z5, rfl, hz5, S5⟩
          have b5 : BF B F' w2 w5 := HB1.out.trans (b5'.less (fun q hq => .inl hq))
          have ho5 := b5'.own HO1.out (fun k hk => .inr hk)
          have HZ5 := hidd hz5
          clear hc b5' hz5 HO1 HB1 x5 xk
          have hown := ho5.alloc (.cells #[.int .i64 z5] 3)
          have hnews := int_news w5 z5
          have hH : (w5.alloc (.cells #[.int .i64 z5] 3)).heap.size = w5.heap.size + 1 := World.size_alloc ..
          have hbase : w2.heap.size ≤ (w5.alloc (.cells #[.int .i64 z5] 3)).heap.size := by rw [hH]; have := b5.bel.size; omega
          have HO5 := hidd ho5
          have HB5 := hidd b5
          have HS5b := hidd S5
          clear ho5 b5 S5
          go_upto_region 9 with (at_builtin; refine wpList_append_lies _ rfl _ _ _ rfl w2.heap.size 3 j0 (.int .i64 0) 1 8 Try.underlying23 hj0i hy0 hy1 hy2 rfl (by omega) _ j (ints vs) rfl hown ⟨w5.heap.size, 0, none⟩ 1 1 [.int .i64 z5] rfl rfl hnews (by simp [Value.oneCell']) (by omega) (by simp only [maxLen]; omega) (by omega) hbase (w5.heap.size + 1) hH ?_; intro g7 cap7 w7 hown7 hgrow hat hlt7; refine Hid.out ?_)
          obtain ⟨b7, S7⟩ := row_more (cap7 := cap7) HB5.out HS5b.out HFL.out HBW.out HO5.out hgrow hat hlt7
          have HO7 : Hid (w7.ownsRow w2.heap.size 3 1 (.slice (some ⟨g7, 0, none⟩) (j + 1) cap7) (j + 1) (ints (vs ++ [z5]))) := by
            show World.ownsRow _ _ _ _ _ _ _
            rw [← ints_snoc1]
            exact hown7
          have HB7 := hidd b7
          have HS7 := hidd S7
          clear hown hnews hH hbase hown7 hgrow hat hlt7 HO5 HB5 HS5b b7 S7
          refine Lib.hid ?_
          go_wp2
          obtain ⟨rs', hf1, hf2⟩ := HTT.out
          exact ⟨⟨j + 1, vs ++ [z5], rs', some ⟨g7, 0, none⟩, cap7, O5, by omega, rfl, rfl, by rw [List.length_append, HVL.out]; rfl, HO7.out, HS7.out, HB7.out, fun o'' ho => hf1 o'' z5 ho (HZ5.out o'' ho), hf2⟩, by simp [intOf]; omega⟩
        · have hje : m = j := by omega
          subst hje
          have hnil : nd.l.drop m = [] := List.drop_of_length_le (by rw [HL.out]; exact Nat.le_refl _)
          have HV0 : Hid (RES = O'.bind (putF (withL nd rs)) ∧ ∀ o', O' = some o' → vs = rs.map (fun k : Nat => (k : Int))) := by
            refine ⟨?_, fun o' ho => (hr1 o' ho).1⟩
            rw [HR.out]
            cases O' with
            | none => rw [hr2 rfl]; rfl
            | some o' =>
              have h3 := (hr1 o' rfl).2.2
              rw [hnil, kidsF] at h3
              rw [← h3]
              rfl
          have R4 := b4.row HFF.out.2.1 HR1.out
          have ht4 := R4.thawed
          have R5 := R4.set 5 (.slice kA m kc)
          have S5 := (S1.less (F' := F') (fun q hq => .inl hq)).setq HFF.out.2.1 5 (.slice kA m kc)
          have ho5 : (wr.setCell ⟨q, 5, none⟩ (.slice kA m kc)).ownsRow w2.heap.size 3 1 (.slice kA m kc) m (ints vs) := own_sb ho1 (own_neR ho1 R4 (by decide)) _
          have hbf : BF B F w (wr.setCell ⟨q, 5, none⟩ (.slice kA m kc)) := HB2.out.trans ⟨bel_set b4.bel _ _ (by have := HQ.out; have := HBB.out; show B ≤ q; omega), fun x hx => (Below.heap_setCell _ _ _ _ (HFF.out.2.2 x hx)).trans (b4.keep x (HFF.out.1 x hx))⟩
          have hset : (gdL g A3 c3).toArray.setIfInBounds 5 (.slice kA m kc) = (gdL (withG g vs) kA kc).toArray := by rw [← hvl]; rfl
          rw [hset] at R5
          have hrow2 : (gdL (withG g vs) kA kc).toArray = #[.int .u8 (nd.op : Int), .int .u64 (W g.s 0), .int .u64 (W g.s 1), .int .u64 (W g.s 2), .int .u64 (W g.s 3), .slice kA m kc, .int .i64 g.lo, .int .i64 g.hi, .string g.nm] := by
            unfold gdL withG
            rw [← hgop, ← hvl]
          have hc := rputC (S5.less HFF.out.1) (withG g vs) (withL nd rs) (fun o' ho => by
            have h := HV0.out.2 o' ho
            subst h
            exact ⟨HG.out.op, HG.out.s, rfl, HG.out.lo, HG.out.hi, HG.out.nm⟩) kA kc (by
              show World.ownsRow _ _ _ _ (.slice kA vs.length kc) vs.length (ints vs)
              rw [hvl]
              exact own_base ho5 HBW.out) (fun x hx => by
              show (Value.slice kA vs.length kc).ownBlock ≠ some x
              rw [hvl]
              exact row_apart ho5 HFL.out x (HFF.out.1 x hx))
          rw [← HV0.out.1, hrow2] at hc
          rw [hrow2] at R5
          have HBF := hidd hbf
          clear hnil HV0 R4 S1 ho1 ho5 S5 hbf hset hrow2 hr1 hr2 HR HG HROW HR1 b4
          go_upto_region 12 with fail
          change RowA (wr.setCell ⟨q, 5, none⟩ (.slice kA m kc)) _ _ _ at R5
          generalize wr.setCell ⟨q, 5, none⟩ (.slice kA m kc) = w5 at *
          obtain ⟨y0, y1, y2, y3, y4, y5, y6, y7, y8⟩ : w5.cell? ⟨q, 0, none⟩ = some (.int .u8 (nd.op : Int)) ∧ w5.cell? ⟨q, 1, none⟩ = some (.int .u64 (W g.s 0)) ∧ w5.cell? ⟨q, 2, none⟩ = some (.int .u64 (W g.s 1)) ∧ w5.cell? ⟨q, 3, none⟩ = some (.int .u64 (W g.s 2)) ∧ w5.cell? ⟨q, 4, none⟩ = some (.int .u64 (W g.s 3)) ∧ w5.cell? ⟨q, 5, none⟩ = some (.slice kA m kc) ∧ w5.cell? ⟨q, 6, none⟩ = some (.int .i64 g.lo) ∧ w5.cell? ⟨q, 7, none⟩ = some (.int .i64 g.hi) ∧ w5.cell? ⟨q, 8, none⟩ = some (.string g.nm) := ⟨R5.at_ rfl, R5.at_ rfl, R5.at_ rfl, R5.at_ rfl, R5.at_ rfl, R5.at_ rfl, R5.at_ rfl, R5.at_ rfl, R5.at_ rfl⟩
          clear R5 x5 ht4
          go_wp2_with fail
          refine hc.mono ?_
          rintro e w9 ⟨b9, z9, rfl, hz9, S9⟩
          have HF : Hid (RR F B b (some ⟨b1, oz, none⟩) ct gs (most : Int) w RES (.returned (.int .i64 z9)) w9) := ⟨HBF.out.trans b9, z9, rfl, hz9, S9⟩
          clear hc b9 hz9 S9
          go_wp2
          go_ret
          exact HF.out
end Go.Proofs.Ytahhiajliomcfaa.Sy.Pl.Qr

/- How many nodes a repetition has that is written out. Plain lists. -/
import Derived.Test.YtdaaigkmlbpbgaaPJe
import Derived.Test.YtdaaigkmlbpbgaaPJr
import Derived.Test.YtdaaigkmlbpbgaaPJx
import Derived.Test.YtdaaigkmlbpbgaaPJc
import Derived.Test.YtdaaigkmlbpbgaaPJn
import Derived.Test.YtdaaigkmlbpbgaaPIc
namespace Go.Proofs.Ytdaaigkmlbpbgaa.Sy.Pl
open Go.RowKit Go.Proofs.Ytdaaigkmlbpbgaa.Sy.Lg
set_option maxRecDepth 100000
set_option linter.unusedVariables false

/-- No repetition but a star. -/
def Star (n : Nd) : Prop := n.op = 5 → n.lo = 0 ∧ n.hi = -1
end Go.Proofs.Ytdaaigkmlbpbgaa.Sy.Pl

namespace Go.Proofs.Ytdaaigkmlbpbgaa.Sy.Pl
open Go.RowKit Go.Proofs.Ytdaaigkmlbpbgaa.Sy.Ap Go.Proofs.Ytdaaigkmlbpbgaa.Sy.Lg
set_option maxRecDepth 100000
set_option linter.unusedVariables false

/-! ### Plain -/
theorem star_bad {ns : List Nd} {n : Nd} (h : Star n) : ctB ns n = false ∧ badB ns n = false := by
  by_cases h5 : n.op = 5
  · obtain ⟨h1, h2⟩ := h h5
    have hc : ctB ns n = false := by
      unfold ctB
      have : decide (1 ≤ n.lo) = false := decide_eq_false (by omega)
      rw [this, Bool.and_false, Bool.false_and]
    refine ⟨hc, ?_⟩
    unfold badB starB
    have e1 : (n.op == 5) = true := by rw [h5]; rfl
    have e2 : (n.lo == 0) = true := by rw [h1]; rfl
    have e3 : (n.hi == -1) = true := by rw [h2]; rfl
    rw [e1, e2, e3]
    rfl
  · have e1 : (n.op == 5) = false := beq_eq_false_iff_ne.2 h5
    unfold badB ctB
    rw [e1]
    exact ⟨rfl, rfl⟩
theorem getD_mem {o : List Nd} {i : Nat} (h : i < o.length) : o.getD i nd0 ∈ o := by
  rw [List.getD_eq_getElem?_getD, List.getElem?_eq_getElem h]
  exact List.getElem_mem h
theorem stars {o : List Nd} (h : ∀ n ∈ o, Star n) : ctN o = 0 ∧ Rp o := by
  refine ⟨?_, rp_iff.2 fun k hk => (star_bad (h _ (getD_mem hk))).2⟩
  unfold ctN
  rw [List.countP_eq_zero]
  intro i hi
  rw [(star_bad (ns := o) (h _ (getD_mem (List.mem_range.1 hi)))).1]
  exact Bool.false_ne_true
/-! ### In memory -/
end Go.Proofs.Ytdaaigkmlbpbgaa.Sy.Pl

namespace Go.Proofs.Ytdaaigkmlbpbgaa.Sy.Pl
open Go.RowKit Go.Proofs.Ytdaaigkmlbpbgaa.Sy.Ap Go.Proofs.Ytdaaigkmlbpbgaa.Sy.Lg
set_option maxRecDepth 100000
set_option linter.unusedVariables false

/-- What asking a plan tells. -/
structure AskR (w : World) (A : Option Addr) (c n k : Nat) : Prop where
  cnt : ∀ u, Below w.heap.size w u → Calls Try.prog 17 #[.slice A n c] u fun e w' => e = .returned (.int .i64 (k : Int)) ∧ Below u.heap.size u w'
  rgt : ∀ u, Below w.heap.size w u → Calls Try.prog 15 #[.slice A n c] u fun e w' => e = .returned (.bool true) ∧ Below u.heap.size u w'
theorem ask_of {w : World} {A : Option Addr} {c : Nat} {go : List Gd} {o : List Nd} (hN : Nds w w.heap.size A go) (hg : GN go o) (ht : TreeN o) (hp : PlainN o) (hr : Rp o) : AskR w A c go.length (ctN o) := by
  have hl : go.length ≤ 2000 := by have := hg.1; have := ht.few; omega
  refine ⟨fun u hb => ?_, fun u hb => ?_⟩
  · refine (counted_any A c go u ((hN.below hb).more hb.size) hl (gn_sm hg ht)).mono ?_
    rintro e w' ⟨b, r, rfl, -, h⟩
    rw [h o hg ht hp hr]
    exact ⟨rfl, b⟩
  · refine (rightP_any A c go u ((hN.below hb).more hb.size) hl (gn_sm hg ht)).mono ?_
    rintro e w' ⟨⟨z, rfl, hz⟩, b⟩
    have : z = true := hz.2 ⟨o, hg, ht, hp, hr⟩
    subst this
    exact ⟨rfl, b⟩
end Go.Proofs.Ytdaaigkmlbpbgaa.Sy.Pl

namespace Go.Proofs.Ytdaaigkmlbpbgaa.Sy.Pl
open Go.RowKit Go.Proofs.Ytdaaigkmlbpbgaa.Sy.Ap Go.Proofs.Ytdaaigkmlbpbgaa.Sy.Lg
set_option maxRecDepth 100000
set_option linter.unusedVariables false

/-- A plan, and a tree without repetitions, stays. -/
theorem plan_stay {o : List Nd} (t2 : TreeN o) (p2 : PlainN o) {most : Nat} (hc : Ct most o) : planN o most = some o := by
  have hpos := t2.pos
  have hfew := t2.few
  have hf := t2.frs
  have e : o.length - 1 + 1 = o.length := by omega
  unfold planN
  rw [again_pl t2 p2 hc (o.length - 1) (by omega) 0 (by rw [e]; exact hf) []]
  unfold fitF
  rw [if_pos (by simp; omega), e, List.nil_append]
  congr 1
  unfold mvS
  rw [seg_all]
  have : mvN 0 ([] : List Nd).length = id := by
    funext n
    unfold mvN withL
    simp
  rw [this, List.map_id]
theorem ct_rp {o : List Nd} {most : Nat} (h : Ct most o) (hm : 1 ≤ most) : Rp o := fun n hn h5 => by
  obtain ⟨-, -, h1 | h1⟩ := h n hn h5
  · refine .inl ?_
    unfold starB
    rw [h5, h1.1, h1.2]
    rfl
  · refine .inr ?_
    unfold ctB
    rw [h5, h1.1]
    simp only [Bool.and_eq_true, decide_eq_true_eq]
    refine ⟨⟨⟨rfl, rfl⟩, h1.2.1⟩, by have := h1.2.2; omega⟩
theorem ct_hi {o : List Nd} {most : Nat} (h : Ct most o) : ∀ k, k < o.length → (o.getD k nd0).op = 5 → (o.getD k nd0).hi = -1 ∨ (most : Int) < (o.getD k nd0).hi := fun k hk h5 => by
  obtain ⟨-, -, h1 | h1⟩ := h _ (getD_mem hk) h5
  · exact .inl h1.2
  · exact .inr h1.2.2.2
set_option maxHeartbeats 700000 in
theorem lawRight_any (A : Option Addr) (c : Nat) (gs : List Gd) (x : Int) (w : World) (hN : Nds w w.heap.size A gs) (hc : gs.length ≤ c) (hm : gs.length ≤ maxLen) (hsm : Small gs) (hx : 0 ≤ x) :
    Calls Try.prog 4 #[.slice A gs.length c, .int .u16 x] w fun e w' => e = .returned (.bool true) ∧ Below w.heap.size w w' := by
  have hsh := shown8_any w
  have HF : Hid (∀ u, Calls Try.prog 11 #[.slice A gs.length c] u fun e w' => e = .returned (.slice A (gs.take 60).length c) ∧ w' = u) := fun u => few8_any A c gs u hc hm
  have hN4 := nds_take hN 60
  have hs4 := small_take hsm 60
  have hl4 : (gs.take 60).length ≤ 2000 := by rw [List.length_take]; omega
  obtain ⟨k, hk, hk4⟩ := mod_most hx 4096 (by omega)
  obtain ⟨m, hm1⟩ : ∃ m : Nat, (k : Int) + 1 = (m : Int) := ⟨k + 1, by omega⟩
  have hmm1 : 1 ≤ m := by omega
  have hmm2 : m ≤ 4096 := by omega
  clear hN hc hm hsm
  generalize gs.length = n at *
  generalize gs.take 60 = g4 at *
  clear gs
  have HT : Hid (∀ u, Below w.heap.size w u → Calls Try.prog 10 #[.slice A g4.length c, .int .i64 (m : Int)] u fun e w' => TrQ g4 (m : Int) u e w') := fun u hb => tree_q A c g4 (m : Int) u ((hN4.below hb).more hb.size) hl4 hs4
  have HPL : Hid (∀ u, Below w.heap.size w u → Calls Try.prog 19 #[.slice A g4.length c] u fun e w' => PlnR g4 u e w') := fun u hb => plain_any A c g4 u ((hN4.below hb).more hb.size) hl4 hs4
  have HN4 := hidd hN4
  clear hN4 hs4
  go_enter Try.func4, Try.ntmps4
  go_wp2_with fail
  refine hsh.mono ?_
  rintro e w1 ⟨rfl, b1⟩
  have HB1 := hidd b1
  clear hsh b1
  go_wp2_with fail
  refine (HF.out _).mono ?_
  rintro e u ⟨rfl, rfl⟩
  have hc := HT.out u HB1.out
  clear HT
  generalize hgl : g4.length = n4 at *
  have HGL := hidd hgl
  clear hgl
  go_wp2_with fail
  refine hc.mono ?_
  rintro e w2 ⟨b2, h⟩
  have HB2 := hidd (HB1.out.trans (b2.mono HB1.out.size))
  clear hc b2 HB1
  rcases h with ⟨rfl, hnp⟩ | ⟨ns, m', hmm, p1, p2, hg, ht, hp, ⟨hq, rfl⟩ | ⟨o, A2, c2, go, hq, rfl, N2, G2, -⟩⟩
  · have HNP : Hid (¬ PlainG g4) := fun q => hnp ⟨q, by omega, by omega⟩
    clear hnp
    go_wp2_with fail
    refine (HF.out _).mono ?_
    rintro e u ⟨rfl, rfl⟩
    have hpl := HPL.out u HB2.out
    clear HPL HF
    go_wp2_with fail
    refine hpl.mono ?_
    rintro e w3 ⟨z, rfl, hz, b3⟩
    have hzf : z = false := by
      cases z with
      | false => rfl
      | true => exact absurd (hz.1 rfl) HNP.out
    subst hzf
    have HB3 := hidd (HB2.out.trans (b3.mono HB2.out.size))
    clear hpl hz b3 HB2
    go_wp2
    go_ret
    exact ⟨rfl, HB3.out⟩
  · clear hq hg ht hp HPL HF
    go_wp2
    go_ret
    exact ⟨rfl, HB2.out⟩
  · have hmm3 : m = m' := by omega
    subst hmm3
    obtain ⟨t1, t2, -⟩ := plan_means ht hp hq
    have hct := plan_ct ht hp hq
    have hrp := ct_rp hct hmm1
    have hgl2 : go.length ≤ 2000 := by have := G2.1; have := t1.few; omega
    have HLO := hidd G2.1
    have hR1 := (ask_of (c := c2) N2 G2 t1 t2 hrp).rgt w2 (Below.refl _ _)
    have HR2 : Hid (∀ u, Below w2.heap.size w2 u → Calls Try.prog 16 #[.slice A2 go.length c2] u fun e w' => e = .returned (.bool true) ∧ Below u.heap.size u w') := fun u hb => (rright8_any A2 c2 go u ((N2.below hb).more hb.size) hgl2 (gn_sm G2 t1)).mono fun e w' ⟨⟨z, h1, h2⟩, hb2⟩ => by
      have : z = true := h2.2 ⟨o, G2, t1, t2, hrp⟩
      subst this
      exact ⟨h1, hb2⟩
    have HHI := hidd (ct_hi hct)
    have HGO : Hid (∀ k, k < go.length → (go.getD k gd0).op = ((o.getD k nd0).op : Int) ∧ (go.getD k gd0).hi = (o.getD k nd0).hi) := fun k hk => ⟨(G2.2 k hk).op, (G2.2 k hk).hi⟩
    have HG4 : Hid (∀ k, k < n4 → (g4.getD k gd0).op = ((ns.getD k nd0).op : Int)) := fun k hk => (hg.2 k (by rw [HGL.out]; exact hk)).op
    have HSM : Hid ((∀ k, k < n4 → (g4.getD k gd0).op ≠ 5) → ∀ u, Below w2.heap.size w2 u → Nds u u.heap.size A g4 → Calls Try.prog 14 #[.slice A2 go.length c2, .slice A n4 c] u fun e w' => e = .returned (.bool true) ∧ Below u.heap.size u w') := fun h u hb hn => by
      have hno : ∀ n ∈ ns, n.op ≠ 5 := fun n hn q => by
        obtain ⟨i, hi, rfl⟩ := List.getElem_of_mem hn
        have hi2 : i < n4 := by rw [← HGL.out, hg.1]; exact hi
        have e : ns.getD i nd0 = ns[i] := by rw [List.getD_eq_getElem?_getD, List.getElem?_eq_getElem hi]; rfl
        have := HG4.out i hi2
        rw [e, q] at this
        exact h i hi2 this
      have hst := plan_stay ht hp (most := m) (fun n hn q => absurd q (hno n hn))
      rw [hst] at hq
      obtain rfl := Option.some.inj hq
      have := same_tree (c := c2) (c' := c) ((N2.below hb).more hb.size) hn G2 hg ht
      rw [HGL.out] at this
      exact this
    have HN2 := hidd N2
    obtain ⟨n2, hn2⟩ : ∃ n2, go.length = n2 := ⟨_, rfl⟩
    rw [hn2] at hR1 HR2 HSM hgl2 HLO HGO
    have HL2 := hidd hn2
    have hpos2 : 0 < n2 := by rw [← hn2, G2.1]; exact t1.pos
    have hpos4 : 0 < n4 := by rw [← HGL.out, hg.1]; exact ht.pos
    obtain ⟨b5, o5, rfl, hb5, -⟩ := N2.at_ (k := 0) (by rw [hn2]; exact hpos2)
    obtain ⟨b4, o4, rfl, hb4, -⟩ := HN4.out.at_ (k := 0) (by rw [HGL.out]; exact hpos4)
    clear hct hrp t1 t2 hq hg ht hp N2 G2 hn2 HPL
    rw [show (go.length) = n2 from HL2.out]
    go_wp2_with fail
    refine hR1.mono ?_
    rintro e w3 ⟨rfl, b3⟩
    have hR2 := HR2.out w3 b3
    clear hR1 HR2
    go_wp2_with fail
    refine hR2.mono ?_
    rintro e w4 ⟨rfl, b4'⟩
    have HB4 := hidd (b3.trans (b4'.mono b3.size))
    clear hR2 b3 b4'
    go_wp2
    go_loopw [54] (fun s54 wr => ∃ k : Nat, k ≤ n2 ∧ s54 = .int .i64 (k : Int) ∧ Below w2.heap.size w2 wr) (fun s54 _ => n2 - (intOf s54).toNat)
    case atStart => exact ⟨0, Nat.zero_le _, rfl, HB4.out⟩
    case round =>
      obtain ⟨k5, hk0, rfl, hb⟩ := hrel
      have HB := hidd hb
      by_cases hlt : k5 < n2
      · obtain ⟨b6, o6, e6, hb6, A3, c3, hI, r1⟩ := ((HN2.out.below hb).more hb.size).at_ (k := k5) (by rw [HL2.out]; exact hlt)
        injection e6 with e6
        injection e6 with e7 e8
        subst e7 e8
        obtain ⟨q1, q2⟩ := HGO.out k5 hlt
        have q3 := HHI.out k5 (by rw [← HLO.out]; exact hlt)
        rw [← q2] at q3
        have HQ : Hid ((go.getD k5 gd0).op = 5 → (go.getD k5 gd0).hi = -1 ∨ (m : Int) < (go.getD k5 gd0).hi) := fun h => q3 (by omega)
        have hki : (k5 : Int) < (n2 : Int) := by omega
        clear q1 q2 q3 hI hb
        generalize go.getD k5 gd0 = g at *
        have Z1 := RowA.new wr 38 zeroC
        have hW1 : Below wr.heap.size wr ((wr.alloc (.cells zeroC 38)).setRow wr.heap.size (gdL g A3 c3).toArray) := bel_setRow ((Below.refl _ _).alloc (Nat.le_refl _) _) _ _ (Nat.le_refl _)
        have R1 := Z1.row (gdL g A3 c3).toArray
        go_upto_region 11 with (first
          | refine wpList_load_mid rfl 38 (.tmp 56) rfl b5 (o5 + k5 * 9) rfl (gdL g A3 c3) _ r1 Try.underlying38 rfl (gdL_info g A3 c3) ?_
          | refine wpList_store_row rfl 38 (.tmp 10) (.tmp 57) rfl wr.heap.size (gdL g A3 c3).toArray rfl rfl 38 zeroC Z1 (gdL_infoA g A3 c3) rfl (gdL_one g A3 c3) ?_)
        have HB5 := hidd (HB.out.trans (hW1.mono HB.out.size))
        change RowA ((wr.alloc (.cells zeroC 38)).setRow wr.heap.size (gdL g A3 c3).toArray) _ _ _ at R1
        generalize (wr.alloc (.cells zeroC 38)).setRow wr.heap.size (gdL g A3 c3).toArray = w5 at *
        rw [put_non]
        obtain ⟨q, hq⟩ : ∃ q, wr.heap.size = q := ⟨_, rfl⟩
        rw [hq] at R1
        rw [hq]
        have y0 : w5.cell? ⟨q, 0, none⟩ = some (.int .u8 g.op) := R1.at_ rfl
        have y7 : w5.cell? ⟨q, 7, none⟩ = some (.int .i64 g.hi) := R1.at_ rfl
        clear Z1 r1 hq hW1 R1
        by_cases h5 : g.op = 5
        · have h5b : (g.op == 5) = true := by simp [h5]
          rcases HQ.out h5 with hh | hh
          · have hhb : (g.hi != -1) = false := by simp [hh]
            clear h5 hh
            go_wp2
            exact ⟨⟨k5 + 1, by omega, rfl, HB5.out⟩, by simp [intOf]; omega⟩
          · have hhb : (g.hi != -1) = true := by simp; omega
            have hhc : ¬ g.hi ≤ (m : Int) := by omega
            clear h5 hh
            go_wp2
            exact ⟨⟨k5 + 1, by omega, rfl, HB5.out⟩, by simp [intOf]; omega⟩
        · have h5b : (g.op == 5) = false := by simp [h5]
          clear h5
          go_wp2
          exact ⟨⟨k5 + 1, by omega, rfl, HB5.out⟩, by simp [intOf]; omega⟩
      · clear hb HB4 HGO HHI
        go_wp2_with fail
        refine (HF.out _).mono ?_
        rintro e u ⟨rfl, rfl⟩
        have HBW := hidd HB.out
        go_wp2
        go_loopw [11, 76] (fun s11 s76 wr => ∃ (k : Nat) (z : Bool), k ≤ n4 ∧ s76 = .int .i64 (k : Int) ∧ s11 = .bool z ∧ (z = true → ∀ i, i < k → (g4.getD i gd0).op ≠ 5) ∧ Below w2.heap.size w2 wr) (fun _ s76 _ => n4 - (intOf s76).toNat)
        case atStart => exact ⟨0, true, Nat.zero_le _, rfl, rfl, fun _ i hi => absurd hi (Nat.not_lt_zero _), HBW.out⟩
        case round =>
          obtain ⟨k6, z, hk0, rfl, rfl, hz, hb⟩ := hrel
          have HB6 := hidd hb
          have HZ := hidd hz
          clear hz
          by_cases hlt : k6 < n4
          · have HN5 := (HN4.out.below (HB2.out.trans (hb.mono HB2.out.size))).more (HB2.out.trans (hb.mono HB2.out.size)).size
            obtain ⟨b6, o6, e6, hb6, A3, c3, hI, r1⟩ := HN5.at_ (k := k6) (by rw [HGL.out]; exact hlt)
            injection e6 with e6
            injection e6 with e7 e8
            subst e7 e8
            have hki : (k6 : Int) < (n4 : Int) := by omega
            have HZ2 : Hid (z = true → (g4.getD k6 gd0).op ≠ 5 → ∀ i, i < k6 + 1 → (g4.getD i gd0).op ≠ 5) := fun q1 q2 i hi => by
              by_cases e : i = k6
              · subst e; exact q2
              · exact HZ.out q1 i (by omega)
            clear HN5 hI hb
            generalize g4.getD k6 gd0 = g at *
            have Z1 := RowA.new wr 38 zeroC
            have hW1 : Below wr.heap.size wr ((wr.alloc (.cells zeroC 38)).setRow wr.heap.size (gdL g A3 c3).toArray) := bel_setRow ((Below.refl _ _).alloc (Nat.le_refl _) _) _ _ (Nat.le_refl _)
            have R1 := Z1.row (gdL g A3 c3).toArray
            go_upto_region 18 with (first
              | refine wpList_load_mid rfl 38 (.tmp 78) rfl b4 (o4 + k6 * 9) rfl (gdL g A3 c3) _ r1 Try.underlying38 rfl (gdL_info g A3 c3) ?_
              | refine wpList_store_row rfl 38 (.tmp 13) (.tmp 79) rfl wr.heap.size (gdL g A3 c3).toArray rfl rfl 38 zeroC Z1 (gdL_infoA g A3 c3) rfl (gdL_one g A3 c3) ?_)
            have HB5 := hidd (HB6.out.trans (hW1.mono HB6.out.size))
            change RowA ((wr.alloc (.cells zeroC 38)).setRow wr.heap.size (gdL g A3 c3).toArray) _ _ _ at R1
            generalize (wr.alloc (.cells zeroC 38)).setRow wr.heap.size (gdL g A3 c3).toArray = w5 at *
            rw [put_non]
            obtain ⟨q, hq⟩ : ∃ q, wr.heap.size = q := ⟨_, rfl⟩
            rw [hq] at R1
            rw [hq]
            have y0 : w5.cell? ⟨q, 0, none⟩ = some (.int .u8 g.op) := R1.at_ rfl
            clear Z1 r1 hq hW1 R1
            cases z with
            | false =>
              go_wp2
              exact ⟨⟨k6 + 1, false, by omega, rfl, rfl, (fun q => by cases q), HB5.out⟩, by simp [intOf]; omega⟩
            | true =>
              by_cases h5 : g.op = 5
              · have h5b : (g.op != 5) = false := by simp [h5]
                clear h5
                go_wp2
                exact ⟨⟨k6 + 1, false, by omega, rfl, rfl, (fun q => by cases q), HB5.out⟩, by simp [intOf]; omega⟩
              · have h5b : (g.op != 5) = true := by simp [h5]
                have HZ3 := hidd (HZ2.out rfl h5)
                clear h5
                go_wp2
                exact ⟨⟨k6 + 1, true, by omega, rfl, rfl, (fun _ => HZ3.out), HB5.out⟩, by simp [intOf]; omega⟩
          · have hke : k6 = n4 := by omega
            subst hke
            have HFW := hidd (HB2.out.trans (hb.mono HB2.out.size))
            cases z with
            | false =>
              clear hb
              go_wp2
              go_ret
              exact ⟨rfl, HFW.out⟩
            | true =>
              have hs := HSM.out (HZ.out rfl) wr hb ((HN4.out.below HFW.out).more HFW.out.size)
              clear HZ HSM hb
              go_wp2_with fail
              refine (HF.out _).mono ?_
              rintro e u ⟨rfl, rfl⟩
              go_wp2_with fail
              refine hs.mono ?_
              rintro e w8 ⟨rfl, b8⟩
              have HB8 := hidd (HFW.out.trans (b8.mono HFW.out.size))
              clear hs b8
              go_wp2
              go_ret
              exact ⟨rfl, HB8.out⟩
end Go.Proofs.Ytdaaigkmlbpbgaa.Sy.Pl

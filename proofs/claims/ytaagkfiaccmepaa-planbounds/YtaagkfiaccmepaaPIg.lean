/- Bounds above most that are others: the statement's walk. -/
import Derived.Test.YtaagkfiaccmepaaPAv
import Derived.Test.YtaagkfiaccmepaaPAz
import Derived.Test.YtaagkfiaccmepaaPRt
namespace Go.Proofs.Ytaagkfiaccmepaa.Sy.Pl
open Go.RowKit Go.Proofs.Ytaagkfiaccmepaa.Sy.Ap Go.Proofs.Ytaagkfiaccmepaa.Sy.Lg
set_option maxRecDepth 100000
set_option linter.unusedVariables false

/-- Tree, whatever it tells: a slice of nodes, and what is wrong. -/
theorem TrR.any {R : Option (List Nd)} {w : World} {e : Ending} {w' : World} (h : TrR R w e w') : Below w.heap.size w w' ∧ ∃ (A : Option Addr) (c : Nat) (ga : List Gd) (o : List Nd) (ev : Int), e = .returned (.tuple #[.slice A ga.length c, .int .i64 ev]) ∧ Nds w' w'.heap.size A ga ∧ GN ga o ∧ ((R = none ∧ o = [] ∧ ev = 3) ∨ (R = some o ∧ ev = 0)) := by
  obtain ⟨hb, h2⟩ := h
  refine ⟨hb, ?_⟩
  cases R with
  | none => exact ⟨none, 0, [], [], 3, h2, fun q => absurd rfl q, ⟨rfl, fun i hi => absurd hi (Nat.not_lt_zero _)⟩, .inl ⟨rfl, rfl, rfl⟩⟩
  | some o =>
    obtain ⟨A, c, go, e1, e2, e3, -⟩ := h2
    exact ⟨A, c, go, o, 0, e1, e2, e3, .inr ⟨rfl, rfl⟩⟩
theorem cnt_c {ga : List Gd} {o : List Nd} (h : o = [] ∨ (TreeN o ∧ PlainN o ∧ Rp o)) (hg : GN ga o) (A : Option Addr) (c : Nat) (w : World) (hN : Nds w w.heap.size A ga) :
    Calls Try.prog 12 #[.slice A ga.length c] w fun e w' => e = .returned (.int .i64 ((ctN o : Nat) : Int)) ∧ Below w.heap.size w w' := by
  rcases h with rfl | ⟨ht, hp, hr⟩
  · have hnil : ga = [] := List.eq_nil_of_length_eq_zero hg.1
    subst hnil
    refine (counted_any A c [] w hN (Nat.zero_le _) (fun g hg => absurd hg List.not_mem_nil)).mono ?_
    rintro e w' ⟨b, r, rfl, h0, -⟩
    have : r = 0 := h0 (fun ⟨ns, g1, g2, _⟩ => by have := g1.1; have := g2.pos; simp at *; omega)
    subst this
    exact ⟨rfl, b⟩
  · refine (counted_any A c ga w hN (by have := hg.1; have := ht.few; omega) (gn_sm hg ht)).mono ?_
    rintro e w' ⟨b, r, rfl, -, h1⟩
    rw [h1 o hg ht hp hr]
    exact ⟨rfl, b⟩
namespace Tq
theorem put_self2 {a : Act} {t g k : Nat} (e : (a.put (some t) (.pointer (some ⟨k, 0, none⟩))).tmps[t]? = some (.pointer (some ⟨g, 0, none⟩))) : g = k := by
  rw [put_tmps, Array.getElem?_setIfInBounds] at e
  simp only [if_true] at e
  split at e
  · cases e; rfl
  · cases e
/-- Two boxes made in any order are apart; the first is laid (c1) sooner or later. -/
structure TwQ (w : World) (c1 : Array Value) (fl : Bool) (a : Act) (v : World) : Prop where
  bel : Below w.heap.size w v
  p19 : ∀ g, a.tmps[19]? = some (.pointer (some ⟨g, 0, none⟩)) → g < v.heap.size ∧ (w.heap.size ≤ g → (fl = false → RowA v g 39 zeroC) ∧ (fl = true → RowA v g 39 c1))
  p20 : ∀ g, a.tmps[20]? = some (.pointer (some ⟨g, 0, none⟩)) → g < v.heap.size ∧ (w.heap.size ≤ g → RowA v g 39 zeroC)
  far : ∀ g h, a.tmps[19]? = some (.pointer (some ⟨g, 0, none⟩)) → a.tmps[20]? = some (.pointer (some ⟨h, 0, none⟩)) → w.heap.size ≤ g → w.heap.size ≤ h → g ≠ h
section
variable {w : World} {c1 : Array Value} {fl : Bool} {a : Act} {v v' : World}
theorem TwQ.below (h : TwQ w c1 fl a v) (hb : Below v.heap.size v v') : TwQ w c1 fl a v' :=
  ⟨h.bel.trans (hb.mono h.bel.size), fun g e => by
    obtain ⟨h1, h2⟩ := h.p19 g e
    exact ⟨Nat.lt_of_lt_of_le h1 hb.size, fun q => ⟨fun z => ((h2 q).1 z).below hb h1, fun z => ((h2 q).2 z).below hb h1⟩⟩, fun g e => by
    obtain ⟨h1, h2⟩ := h.p20 g e
    exact ⟨Nat.lt_of_lt_of_le h1 hb.size, fun q => (h2 q).below hb h1⟩, h.far⟩
theorem TwQ.put (h : TwQ w c1 fl a v) {d : Option Nat} (hd : (d != some 19 && d != some 20) = true) (u : Value) : TwQ w c1 fl (a.put d u) v := by
  have e1 : (a.put d u).tmps[19]? = a.tmps[19]? := by
    cases d with
    | none => rfl
    | some d => rw [put_tmps, Array.getElem?_setIfInBounds_ne (fun e => by subst e; simp at hd)]
  have e2 : (a.put d u).tmps[20]? = a.tmps[20]? := by
    cases d with
    | none => rfl
    | some d => rw [put_tmps, Array.getElem?_setIfInBounds_ne (fun e => by subst e; simp at hd)]
  exact ⟨h.bel, fun g e => h.p19 g (e1 ▸ e), fun g e => h.p20 g (e2 ▸ e), fun g k e f => h.far g k (e1 ▸ e) (e2 ▸ f)⟩
theorem TwQ.new19 (h : TwQ w c1 false a v) : TwQ w c1 false (a.put (some 19) (.pointer (some ⟨v.heap.size, 0, none⟩))) (v.alloc (.cells zeroC 39)) := by
  have h' := h.below ((Below.refl _ _).alloc (Nat.le_refl _) (.cells zeroC 39))
  have e2 : (a.put (some 19) (.pointer (some ⟨v.heap.size, 0, none⟩))).tmps[20]? = a.tmps[20]? := by rw [put_tmps, Array.getElem?_setIfInBounds_ne (by omega)]
  have hR := RowA.new v 39 zeroC
  exact ⟨h'.bel, fun g e => by rw [put_self2 e]; exact ⟨by simp, fun _ => ⟨fun _ => hR, fun q => by cases q⟩⟩, fun g e => h'.p20 g (e2 ▸ e), fun g k e f _ _ => by rw [put_self2 e]; have := (h.p20 k (e2 ▸ f)).1; omega⟩
theorem TwQ.new20 (h : TwQ w c1 fl a v) : TwQ w c1 fl (a.put (some 20) (.pointer (some ⟨v.heap.size, 0, none⟩))) (v.alloc (.cells zeroC 39)) := by
  have h' := h.below ((Below.refl _ _).alloc (Nat.le_refl _) (.cells zeroC 39))
  have e1 : (a.put (some 20) (.pointer (some ⟨v.heap.size, 0, none⟩))).tmps[19]? = a.tmps[19]? := by rw [put_tmps, Array.getElem?_setIfInBounds_ne (by omega)]
  have hR := RowA.new v 39 zeroC
  exact ⟨h'.bel, fun g e => h'.p19 g (e1 ▸ e), fun g e => by rw [put_self2 e]; exact ⟨by simp, fun _ => hR⟩, fun g k e f _ _ => by rw [put_self2 f]; have := (h.p19 g (e1 ▸ e)).1; omega⟩
theorem TwQ.lay (h : TwQ w c1 false a v) {g : Nat} (e : a.tmps[19]? = some (.pointer (some ⟨g, 0, none⟩))) (hg : w.heap.size ≤ g) : TwQ w c1 true a (v.setRow g c1) := by
  obtain ⟨h1, h2⟩ := h.p19 g e
  have r := (h2 hg).1 rfl
  have hs : (v.setRow g c1).heap.size = v.heap.size := by simp [World.setRow]
  refine ⟨bel_setRow h.bel _ _ hg, fun k q => ?_, fun k q => ?_, h.far⟩
  · have : Value.pointer (some ⟨g, 0, none⟩) = .pointer (some ⟨k, 0, none⟩) := Option.some.inj (e.symm.trans q)
    cases this
    exact ⟨by rw [hs]; exact h1, fun _ => ⟨(fun q => by cases q), fun _ => r.row _⟩⟩
  · obtain ⟨h4, h5⟩ := h.p20 k q
    exact ⟨by rw [hs]; exact h4, fun hk => (setRow_other v g k _ (fun x => h.far g k e q hg hk x.symm)).trans (h5 hk)⟩
end
/-- What an operation does to memory: new blocks, or a row that is laid. -/
def EbQ (_ : Option Nat) (u u' : World) : Prop := Below u.heap.size u u' ∨ ∃ g c0 c, RowA u g 39 c0 ∧ u' = u.setRow g c
theorem eby {d : Option Nat} {u u' : World} (_ : true = true) (h : Below u.heap.size u u') : EbQ d u u' := .inl h
set_option linter.unusedVariables false in
def PbGV (w : World) (b5 f5 b6 f6 na ca cb k : Nat) (r5 r6 : List Value) (t : Nat) : Option Value :=
  match t with
  | 14 => some (.slice (some ⟨b5, f5, none⟩) na ca)
  | 16 => some (.slice (some ⟨b6, f6, none⟩) na cb)
  | 18 => some (.int .i64 (k : Int))
  | 114 => some (.slice (some ⟨b5, f5, none⟩) na ca)
  | 115 => some (.int .i64 (k : Int))
  | 116 => some (.pointer (some ⟨b5, f5 + k * 9, none⟩))
  | 117 => some (.agg r5.toArray)
  | 118 => some (.slice (some ⟨b6, f6, none⟩) na cb)
  | 119 => some (.int .i64 (k : Int))
  | 120 => some (.pointer (some ⟨b6, f6 + k * 9, none⟩))
  | 121 => some (.agg r6.toArray)
  | _ => none
set_option linter.unusedVariables false in
def PbGP (w : World) (b5 f5 b6 f6 na ca cb k : Nat) (r5 r6 : List Value) (t : Nat) : Option (Value → World → Prop) :=
  match t with
  | 19 => some (fun z _ => ∃ q : Nat, z = .pointer (some ⟨q, 0, none⟩) ∧ w.heap.size ≤ q)
  | 20 => some (fun z _ => ∃ q : Nat, z = .pointer (some ⟨q, 0, none⟩) ∧ w.heap.size ≤ q)
  | _ => none
def PbG (w : World) (b5 f5 b6 f6 na ca cb k : Nat) (r5 r6 : List Value) (t : Nat) (v : Value) (u : World) : Prop := (∀ z9, PbGV w b5 f5 b6 f6 na ca cb k r5 r6 t = some z9 → v = z9) ∧ ∀ R, PbGP w b5 f5 b6 f6 na ca cb k r5 r6 t = some R → R v u
end Tq
theorem nd_arr_info (g : Gd) (A : Option Addr) (mm c : Nat) : (Try.prog.info? 39).map (·.size) = some (ndA g A mm c).size := by
  show _ = some 9
  kernel_rfl
theorem nd_arr_one (g : Gd) (A : Option Addr) (mm c : Nat) : (ndA g A mm c).all (·.oneCell') = true := by simp [ndA, Value.oneCell']
theorem nd_row_info (g : Gd) (A : Option Addr) (mm c : Nat) : (Try.prog.info? 39).map (·.size) = some ([.int .u8 g.op, .int .u64 (W g.s 0), .int .u64 (W g.s 1), .int .u64 (W g.s 2), .int .u64 (W g.s 3), .slice A mm c, .int .i64 g.lo, .int .i64 g.hi, .string g.nm] : List Value).length := by
  show _ = some 9
  kernel_rfl
namespace Tq
set_option maxHeartbeats 4000000 in
theorem lawBounds_any (A : Option Addr) (c : Nat) (gs : List Gd) (x : Int) (A2 : Option Addr) (c2 : Nat) (xs : List Int) (w : World) (hN : Nds w w.heap.size A gs) (hc : gs.length ≤ c) (hm : gs.length ≤ maxLen) (hsm : Small gs) (hx : 0 ≤ x) (hU : U16s w w.heap.size A2 xs) (hxm : xs.length ≤ maxLen) :
    Calls Try.prog 4 #[.slice A gs.length c, .int .u16 x, .slice A2 xs.length c2] w fun e w' => e = .returned (.bool true) ∧ Below w.heap.size w w' := by
  obtain ⟨i0, hi0, hz0, hz1, hz2⟩ := info_parts node_info
  have hsh := shown8_any w
  have HF : Hid (∀ u, Calls Try.prog 6 #[.slice A gs.length c] u fun e w' => e = .returned (.slice A (gs.take 60).length c) ∧ w' = u) := fun u => few8_any A c gs u hc hm
  have hN4 := nds_take hN 60
  have hs4 := small_take hsm 60
  have hl4 : (gs.take 60).length ≤ 2000 := by rw [List.length_take]; omega
  obtain ⟨k0, hk0, hk04⟩ := mod_most hx 2048 (by omega)
  obtain ⟨m, hm1⟩ : ∃ m : Nat, (k0 : Int) + 1 = (m : Int) := ⟨k0 + 1, by omega⟩
  have hmm1 : 1 ≤ m := by omega
  have hmm2 : m ≤ 4096 := by omega
  have hU0 := hidd hU
  unfold maxLen at hxm
  clear hN hc hm hsm hU
  generalize gs.length = n at *
  generalize gs.take 60 = g4 at *
  clear gs
  have HPL : Hid (∀ u, Below w.heap.size w u → Calls Try.prog 14 #[.slice A g4.length c] u fun e w' => PlnR g4 u e w') := fun u hb => plain_any A c g4 u ((hN4.below hb).more hb.size) hl4 hs4
  have HT : Hid (∀ u ns, Below w.heap.size w u → GN g4 ns → TreeN ns → PlainN ns → Calls Try.prog 5 #[.slice A g4.length c, .int .i64 (m : Int)] u fun e w' => TrR (planN ns m) u e w') := fun u ns hb h1 h2 h3 => tree_ok A c g4 ns m hmm1 hmm2 u ((hN4.below hb).more hb.size) h1 h2 h3
  have HTO : Hid (PlainG g4 → ∃ ns, GN g4 ns ∧ TreeN ns ∧ PlainN ns) := fun h => by
    obtain ⟨ns0, hg0, -⟩ := h.2
    exact tree_of hg0 h
  have HN4 := hidd hN4
  clear hN4 hs4
  obtain ⟨ml, hml⟩ : ∃ ml, xs.length = ml := ⟨_, rfl⟩
  have HML := hidd hml
  rw [hml] at hxm ⊢
  clear hml
  go_enter Try.func4, Try.ntmps4
  go_wp2_with fail
  refine hsh.mono ?_
  rintro e w1 ⟨rfl, b1⟩
  have HB1 := hidd b1
  clear hsh b1
  go_wp2_with fail
  refine (HF.out _).mono ?_
  rintro e u ⟨rfl, rfl⟩
  generalize hgl : g4.length = n4 at *
  have HGL := hidd hgl
  clear hgl HF
  go_wp2_with fail
  refine (HPL.out u HB1.out).mono ?_
  rintro e w2 ⟨z, rfl, hz, b2⟩
  have HB2 := hidd (HB1.out.trans (b2.mono HB1.out.size))
  have HZ := hidd hz
  clear HPL b2 hz HB1
  cases z with
  | false =>
    go_wp2
    go_ret
    exact ⟨rfl, HB2.out⟩
  | true =>
    obtain ⟨ns, hg, ht, hp⟩ := HTO.out (HZ.out.1 rfl)
    have HG := hidd hg
    have HTN := hidd ht
    have HP := hidd hp
    have hpos4 : 0 < n4 := by rw [← HGL.out, hg.1]; exact ht.pos
    have hN2 := (HN4.out.below HB2.out).more HB2.out.size
    obtain ⟨b4, o4, rfl, hb4, -⟩ := hN2.at_ (k := 0) (by rw [HGL.out]; exact hpos4)
    have HN2 := hidd hN2
    have HU : Hid (U16s w2 w2.heap.size A2 xs) := ⟨hU0.out.1, fun hne => by
      obtain ⟨g, off, e1, e2, e3⟩ := hU0.out.2 hne
      exact ⟨g, off, e1, Nat.lt_of_lt_of_le e2 HB2.out.size, fun i hi => (HB2.out.cell (p := ⟨g, off + i, none⟩) e2).trans (e3 i hi)⟩⟩
    clear hg ht hp HTO HZ hN2
    have HYS := hidd (YS.start w2 g4 ns m xs)
    go_wp2
    go_loopw [10, 34] (fun s10 s34 wr => ∃ k : Nat, k ≤ n4 ∧ s34 = .int .i64 (k : Int) ∧ YS w2 g4 ns m xs k s10 wr) (fun _ s34 _ => n4 - (intOf s34).toNat)
    case atStart => exact ⟨0, Nat.zero_le _, rfl, HYS.out⟩
    case round =>
      obtain ⟨k, hk9, rfl, hys⟩ := hrel
      obtain ⟨Ay, cy, rfl⟩ := hys.form
      have HY := hidd hys
      by_cases hlt : k < n4
      · have hkg : k < g4.length := by rw [HGL.out]; exact hlt
        obtain ⟨b6, o6, e6, hb6, A3, c3, hI, r1⟩ := (HN2.out.below hys.bel).at_ (k := k) hkg
        injection e6 with e6
        injection e6 with e7 e8
        subst e7 e8
        have hkn : k < ns.length := by rw [← HG.out.1]; exact hkg
        have e0 : ns.getD k nd0 = ns[k] := by rw [List.getD_eq_getElem?_getD, List.getElem?_eq_getElem hkn]; rfl
        have h1 := HG.out.2 k hkg
        have HKID : Hid ((ns.getD k nd0).op = 5 → ∃ gk ok j : Nat, A3 = some ⟨gk, ok, none⟩ ∧ 0 < (g4.getD k gd0).l.length ∧ j < n4 ∧ gk < w2.heap.size ∧ wr.cell? ⟨gk, ok, none⟩ = some (.int .i64 (j : Int)) ∧ wr.cell? ⟨b4, o4 + j * 9, none⟩ = some (.int .u8 ((ns.getD j nd00).op : Int)) ∧ (ns.getD k nd0).l.getD 0 0 = j) := fun h5 => by
          rw [e0] at h5 h1 ⊢
          obtain ⟨hl1, -⟩ := rep_one (HTN.out.shp _ (List.getElem_mem hkn)) h5
          obtain ⟨j, hj⟩ : ∃ j, ns[k].l = [j] := List.length_eq_one_iff.1 hl1
          have hjk : j < k := (HTN.out.low k _ (List.getElem?_eq_getElem hkn)).2 j (by rw [hj]; exact List.mem_singleton.2 rfl)
          have hjg : j < g4.length := by omega
          have hl : (g4.getD k gd0).l = [(j : Int)] := by rw [h1.l, hj]; rfl
          obtain ⟨gk, ok, rfl, hgk, hcell⟩ := hI (by rw [hl]; simp)
          have q1 := hcell 0 (by rw [hl]; simp)
          rw [hl] at q1
          obtain ⟨b7, o7, e7, hb7, A7, c7, -, r7⟩ := (HN2.out.below hys.bel).at_ (k := j) hjg
          injection e7 with e7
          injection e7 with e8 e9
          subst e8 e9
          have q2 : wr.cell? ⟨b4, o4 + j * 9, none⟩ = some (.int .u8 (g4.getD j gd0).op) := r7 0 _ rfl
          rw [(HG.out.2 j hjg).op] at q2
          exact ⟨gk, ok, j, rfl, by rw [hl]; simp, by omega, hgk, q1, q2, by rw [hj]; rfl⟩
        have HI := hidd hI
        have H1 := hidd h1
        have hki : (k : Int) < (n4 : Int) := by omega
        have HBY : Hid (∀ kb, byF xs k = kb → byF xs k = kb) := fun _ h => h
        clear hI h1 e0 hkn hkg hys HBY
        generalize g4.getD k gd0 = g at *
        generalize hmm : g.l.length = mm at *
        have R1 := RowA.new wr 39 (ndA g A3 mm c3)
        have hW1 : Below wr.heap.size wr (wr.alloc (.cells (ndA g A3 mm c3) 39)) := (Below.refl _ _).alloc (Nat.le_refl _) _
        have hrow : gdL g A3 c3 = [.int .u8 g.op, .int .u64 (W g.s 0), .int .u64 (W g.s 1), .int .u64 (W g.s 2), .int .u64 (W g.s 3), .slice A3 mm c3, .int .i64 g.lo, .int .i64 g.hi, .string g.nm] := by unfold gdL; rw [hmm]
        rw [hrow] at r1
        go_upto_region 11 with (refine wpList_load_mid rfl 39 (.tmp 37) rfl b4 (o4 + k * 9) rfl [.int .u8 g.op, .int .u64 (W g.s 0), .int .u64 (W g.s 1), .int .u64 (W g.s 2), .int .u64 (W g.s 3), .slice A3 mm c3, .int .i64 g.lo, .int .i64 g.hi, .string g.nm] _ r1 Try.underlying39 rfl (nd_row_info g A3 mm c3) ?_)
        generalize wr.alloc (.cells (ndA g A3 mm c3) 39) = w5 at *
        obtain ⟨q, hq⟩ : ∃ q, wr.heap.size = q := ⟨_, rfl⟩
        rw [hq] at R1
        rw [hq]
        have HQ := hidd hq
        have HB5 := hidd hW1
        have HRB := hidd R1
        clear r1 hq hW1 R1 hrow
        have HMM := hidd hmm
        have HBD : Hid ((ns.getD k nd0).op = 5 → -1 ≤ g.hi ∧ g.hi ≤ 4096) := fun h5 => by
          have hmem : ns.getD k nd0 ∈ ns := getD_mem (by rw [← HG.out.1, HGL.out]; exact hlt)
          obtain ⟨-, -, -, h⟩ := rep_one (HTN.out.shp _ hmem) h5
          rw [H1.out.hi]
          omega
        by_cases hkm : k < ml
        · have hkmi : (k : Int) < (ml : Int) := by omega
          have hkx : k < xs.length := by rw [HML.out]; exact hkm
          obtain ⟨gu, ou, rfl, hgu, hcu⟩ := HU.out.2 (fun q => by rw [q] at hkx; cases hkx)
          have cu := ((HY.out.bel.trans (HB5.out.mono HY.out.size)).cell (p := ⟨gu, ou + k, none⟩) hgu).trans (hcu k hkx)
          have hmem : xs.getD k 0 ∈ xs := by rw [List.getD_eq_getElem?_getD, List.getElem?_eq_getElem hkx]; exact List.getElem_mem hkx
          obtain ⟨kb, hkb, hkb2⟩ := mod_most (HU.out.1 _ hmem) 2049 (by omega)
          have hby : byF xs k = kb := by unfold byF; rw [if_pos hkx, hkb]; rfl
          obtain ⟨h9, hh9⟩ : ∃ h9, min (g.hi + (kb : Int)) 4096 = h9 := ⟨_, rfl⟩
          have HH9 : Hid (min (g.hi + (byF xs k : Nat)) 4096 = h9) := by show _ = _; rw [hby]; exact hh9
          clear hcu hkx hmem hby hgu
          generalize xs.getD k 0 = v at *
          go_upto_region 13 with fail
          clear cu hkb
          by_cases h5 : (ns.getD k nd0).op = 5
          · obtain ⟨gk, ok, j, rfl, hmm0, hjn, hgk, ck, co, hj0⟩ := HKID.out h5
            have h5b : (g.op == 5) = true := by rw [H1.out.op, h5]; rfl
            have ck5 := (HB5.out.cell (p := ⟨gk, ok, none⟩) (Nat.lt_of_lt_of_le hgk HY.out.size)).trans ck
            have co5 := (HB5.out.cell (p := ⟨b4, o4 + j * 9, none⟩) (Nat.lt_of_lt_of_le hb4 HY.out.size)).trans co
            obtain ⟨kop, hkop⟩ : ∃ kop : Int, ((ns.getD j nd00).op : Int) = kop := ⟨_, rfl⟩
            rw [hkop] at co5
            have HKOP := hidd hkop
            clear hkop
            have hji : (j : Int) < (n4 : Int) := by omega
            have hmmi : (0 : Int) < (mm : Int) := by omega
            have z0 : w5.cell? ⟨q, 0, none⟩ = some (.int .u8 g.op) := HRB.out.at_ rfl
            have z5 : w5.cell? ⟨q, 5, none⟩ = some (.slice (some ⟨gk, ok, none⟩) mm c3) := HRB.out.at_ rfl
            have z7 : w5.cell? ⟨q, 7, none⟩ = some (.int .i64 g.hi) := HRB.out.at_ rfl
            have tq := HRB.out.thawed
            have HLO := hidd (HBD.out h5)
            have hlo9 := HLO.out.1
            have hhi9 := HLO.out.2
            clear ck co HKID
            by_cases h2 : kop = 2
            · subst h2
              have h2 : (ns.getD j nd00).op = 2 := by have := HKOP.out; omega
              clear HKOP
              by_cases hgt : (m : Int) < g.hi
              · have HG9 : Hid (GN1 (hiG g h9) (upN ns m (byF xs k) (ns.getD k nd0))) := by
                  have h1 := H1.out
                  show GN1 _ _
                  rw [upN_yes ⟨h5, by rw [hj0]; exact h2, by rw [← h1.hi]; exact hgt⟩]
                  exact ⟨h1.op, h1.s, h1.l, h1.lo, by show h9 = min ((ns.getD k nd0).hi + (byF xs k : Nat)) 4096; rw [← h1.hi]; exact HH9.out.symm, h1.nm⟩
                clear h5 h2 hj0
                go_upto_region 15 with fail
                have HRB := hidd (HRB.out.set 7 (.int .i64 h9))
                have HB5 := hidd (bel_set HB5.out ⟨q, 7, none⟩ (.int .i64 h9) (by show _ ≤ q; exact Nat.le_of_eq HQ.out))
                generalize w5.setCell ⟨q, 7, none⟩ (.int .i64 h9) = w5 at *
                clear z0 z5 z7 tq ck5 co5
                obtain ⟨y0, y1, y2, y3, y4, y5, y6, y7, y8⟩ : w5.cell? ⟨q, 0, none⟩ = some (.int .u8 g.op) ∧ w5.cell? ⟨q, 1, none⟩ = some (.int .u64 (W g.s 0)) ∧ w5.cell? ⟨q, 2, none⟩ = some (.int .u64 (W g.s 1)) ∧ w5.cell? ⟨q, 3, none⟩ = some (.int .u64 (W g.s 2)) ∧ w5.cell? ⟨q, 4, none⟩ = some (.int .u64 (W g.s 3)) ∧ w5.cell? ⟨q, 5, none⟩ = some (.slice (some ⟨gk, ok, none⟩) mm c3) ∧ w5.cell? ⟨q, 6, none⟩ = some (.int .i64 g.lo) ∧ w5.cell? ⟨q, 7, none⟩ = some (.int .i64 h9) ∧ w5.cell? ⟨q, 8, none⟩ = some (.string g.nm) := ⟨HRB.out.at_ rfl, HRB.out.at_ rfl, HRB.out.at_ rfl, HRB.out.at_ rfl, HRB.out.at_ rfl, HRB.out.at_ rfl, HRB.out.at_ rfl, HRB.out.at_ rfl, HRB.out.at_ rfl⟩
                obtain ⟨l, hl1, hl2, hl3, hl4⟩ := HY.out.rows
                have HLK := hidd (And.intro hl1 (And.intro hl2 (And.intro hl3 hl4)))
                have hown := (own_below hl2 HB5.out (Nat.le_refl _)).alloc (.cells #[.int .u8 g.op, .int .u64 (W g.s 0), .int .u64 (W g.s 1), .int .u64 (W g.s 2), .int .u64 (W g.s 3), .slice (some ⟨gk, ok, none⟩) mm c3, .int .i64 g.lo, .int .i64 h9, .string g.nm] 39)
                have HBA := hidd (HB5.out.alloc HB5.out.size (.cells #[.int .u8 g.op, .int .u64 (W g.s 0), .int .u64 (W g.s 1), .int .u64 (W g.s 2), .int .u64 (W g.s 3), .slice (some ⟨gk, ok, none⟩) mm c3, .int .i64 g.lo, .int .i64 h9, .string g.nm] 39))
                have hnews : ∀ j' u, ([.int .u8 g.op, .int .u64 (W g.s 0), .int .u64 (W g.s 1), .int .u64 (W g.s 2), .int .u64 (W g.s 3), .slice (some ⟨gk, ok, none⟩) mm c3, .int .i64 g.lo, .int .i64 h9, .string g.nm] : List Value)[j']? = some u → (w5.alloc (.cells #[.int .u8 g.op, .int .u64 (W g.s 0), .int .u64 (W g.s 1), .int .u64 (W g.s 2), .int .u64 (W g.s 3), .slice (some ⟨gk, ok, none⟩) mm c3, .int .i64 g.lo, .int .i64 h9, .string g.nm] 39)).cell? ((⟨w5.heap.size, 0, none⟩ : Addr).add j') = some u := World.news_of_block (RowA.new w5 39 #[.int .u8 g.op, .int .u64 (W g.s 0), .int .u64 (W g.s 1), .int .u64 (W g.s 2), .int .u64 (W g.s 3), .slice (some ⟨gk, ok, none⟩) mm c3, .int .i64 g.lo, .int .i64 h9, .string g.nm])
                have hH : (w5.alloc (.cells #[.int .u8 g.op, .int .u64 (W g.s 0), .int .u64 (W g.s 1), .int .u64 (W g.s 2), .int .u64 (W g.s 3), .slice (some ⟨gk, ok, none⟩) mm c3, .int .i64 g.lo, .int .i64 h9, .string g.nm] 39)).heap.size = w5.heap.size + 1 := World.size_alloc ..
                have hbase : w2.heap.size ≤ (w5.alloc (.cells #[.int .u8 g.op, .int .u64 (W g.s 0), .int .u64 (W g.s 1), .int .u64 (W g.s 2), .int .u64 (W g.s 3), .slice (some ⟨gk, ok, none⟩) mm c3, .int .i64 g.lo, .int .i64 h9, .string g.nm] 39)).heap.size := by have := HY.out.size; have := HB5.out.size; rw [hH]; omega
                clear hl1 hl2 hl3 hl4
                go_wp2_with (at_builtin; refine wpList_append_lies _ rfl _ _ _ rfl w2.heap.size 39 i0 (.agg zeroC) 9 96 Try.underlying22 hi0 hz0 hz1 hz2 rfl (by omega) _ k (nodesC l) rfl hown ⟨w5.heap.size, 0, none⟩ 1 1 [.int .u8 g.op, .int .u64 (W g.s 0), .int .u64 (W g.s 1), .int .u64 (W g.s 2), .int .u64 (W g.s 3), .slice (some ⟨gk, ok, none⟩) mm c3, .int .i64 g.lo, .int .i64 h9, .string g.nm] rfl rfl hnews (by simp [Value.oneCell']) (by omega) (by simp only [maxLen]; omega) (by omega) hbase (w5.heap.size + 1) hH ?_; intro g8 cap8 w8 hown8 hgrow hat hlt8; refine Hid.out ?_)
                have HR : Hid (YS w2 g4 ns m xs (k + 1) (.slice (some ⟨g8, 0, none⟩) (k + 1) cap8) w8) := by
                  refine YS.next HY.out.bel HLK.out.1 HLK.out.2.1 HLK.out.2.2.1 HLK.out.2.2.2 HBA.out (g := hiG g h9) (A := (some ⟨gk, ok, none⟩)) (c := c3) HG9.out HI.out hgrow ?_
                  have e : gdL (hiG g h9) (some ⟨gk, ok, none⟩) c3 = [.int .u8 g.op, .int .u64 (W g.s 0), .int .u64 (W g.s 1), .int .u64 (W g.s 2), .int .u64 (W g.s 3), .slice (some ⟨gk, ok, none⟩) mm c3, .int .i64 g.lo, .int .i64 h9, .string g.nm] := by first | (unfold gdL hiG; rw [HMM.out]) | (unfold gdL; rw [HMM.out])
                  rw [e]
                  exact hown8
                clear hown hown8 hgrow hat hlt8 hnews hH hbase HBA HLK y0 y1 y2 y3 y4 y5 y6 y7 y8
                refine Lib.hid ?_
                go_wp2
                exact ⟨⟨k + 1, by omega, rfl, HR.out⟩, by simp [intOf]; omega⟩
              · have HG9 : Hid (GN1 g (upN ns m (byF xs k) (ns.getD k nd0))) := by
                  have h1 := H1.out
                  show GN1 _ _
                  rw [upN_no (fun q => hgt (by rw [h1.hi]; exact q.2.2))]
                  exact h1
                clear h5 h2 hj0 tq
                go_upto_region 15 with fail
                clear z0 z5 z7 ck5 co5
                obtain ⟨y0, y1, y2, y3, y4, y5, y6, y7, y8⟩ : w5.cell? ⟨q, 0, none⟩ = some (.int .u8 g.op) ∧ w5.cell? ⟨q, 1, none⟩ = some (.int .u64 (W g.s 0)) ∧ w5.cell? ⟨q, 2, none⟩ = some (.int .u64 (W g.s 1)) ∧ w5.cell? ⟨q, 3, none⟩ = some (.int .u64 (W g.s 2)) ∧ w5.cell? ⟨q, 4, none⟩ = some (.int .u64 (W g.s 3)) ∧ w5.cell? ⟨q, 5, none⟩ = some (.slice (some ⟨gk, ok, none⟩) mm c3) ∧ w5.cell? ⟨q, 6, none⟩ = some (.int .i64 g.lo) ∧ w5.cell? ⟨q, 7, none⟩ = some (.int .i64 g.hi) ∧ w5.cell? ⟨q, 8, none⟩ = some (.string g.nm) := ⟨HRB.out.at_ rfl, HRB.out.at_ rfl, HRB.out.at_ rfl, HRB.out.at_ rfl, HRB.out.at_ rfl, HRB.out.at_ rfl, HRB.out.at_ rfl, HRB.out.at_ rfl, HRB.out.at_ rfl⟩
                obtain ⟨l, hl1, hl2, hl3, hl4⟩ := HY.out.rows
                have HLK := hidd (And.intro hl1 (And.intro hl2 (And.intro hl3 hl4)))
                have hown := (own_below hl2 HB5.out (Nat.le_refl _)).alloc (.cells #[.int .u8 g.op, .int .u64 (W g.s 0), .int .u64 (W g.s 1), .int .u64 (W g.s 2), .int .u64 (W g.s 3), .slice (some ⟨gk, ok, none⟩) mm c3, .int .i64 g.lo, .int .i64 g.hi, .string g.nm] 39)
                have HBA := hidd (HB5.out.alloc HB5.out.size (.cells #[.int .u8 g.op, .int .u64 (W g.s 0), .int .u64 (W g.s 1), .int .u64 (W g.s 2), .int .u64 (W g.s 3), .slice (some ⟨gk, ok, none⟩) mm c3, .int .i64 g.lo, .int .i64 g.hi, .string g.nm] 39))
                have hnews : ∀ j' u, ([.int .u8 g.op, .int .u64 (W g.s 0), .int .u64 (W g.s 1), .int .u64 (W g.s 2), .int .u64 (W g.s 3), .slice (some ⟨gk, ok, none⟩) mm c3, .int .i64 g.lo, .int .i64 g.hi, .string g.nm] : List Value)[j']? = some u → (w5.alloc (.cells #[.int .u8 g.op, .int .u64 (W g.s 0), .int .u64 (W g.s 1), .int .u64 (W g.s 2), .int .u64 (W g.s 3), .slice (some ⟨gk, ok, none⟩) mm c3, .int .i64 g.lo, .int .i64 g.hi, .string g.nm] 39)).cell? ((⟨w5.heap.size, 0, none⟩ : Addr).add j') = some u := World.news_of_block (RowA.new w5 39 #[.int .u8 g.op, .int .u64 (W g.s 0), .int .u64 (W g.s 1), .int .u64 (W g.s 2), .int .u64 (W g.s 3), .slice (some ⟨gk, ok, none⟩) mm c3, .int .i64 g.lo, .int .i64 g.hi, .string g.nm])
                have hH : (w5.alloc (.cells #[.int .u8 g.op, .int .u64 (W g.s 0), .int .u64 (W g.s 1), .int .u64 (W g.s 2), .int .u64 (W g.s 3), .slice (some ⟨gk, ok, none⟩) mm c3, .int .i64 g.lo, .int .i64 g.hi, .string g.nm] 39)).heap.size = w5.heap.size + 1 := World.size_alloc ..
                have hbase : w2.heap.size ≤ (w5.alloc (.cells #[.int .u8 g.op, .int .u64 (W g.s 0), .int .u64 (W g.s 1), .int .u64 (W g.s 2), .int .u64 (W g.s 3), .slice (some ⟨gk, ok, none⟩) mm c3, .int .i64 g.lo, .int .i64 g.hi, .string g.nm] 39)).heap.size := by have := HY.out.size; have := HB5.out.size; rw [hH]; omega
                clear hl1 hl2 hl3 hl4
                go_wp2_with (at_builtin; refine wpList_append_lies _ rfl _ _ _ rfl w2.heap.size 39 i0 (.agg zeroC) 9 96 Try.underlying22 hi0 hz0 hz1 hz2 rfl (by omega) _ k (nodesC l) rfl hown ⟨w5.heap.size, 0, none⟩ 1 1 [.int .u8 g.op, .int .u64 (W g.s 0), .int .u64 (W g.s 1), .int .u64 (W g.s 2), .int .u64 (W g.s 3), .slice (some ⟨gk, ok, none⟩) mm c3, .int .i64 g.lo, .int .i64 g.hi, .string g.nm] rfl rfl hnews (by simp [Value.oneCell']) (by omega) (by simp only [maxLen]; omega) (by omega) hbase (w5.heap.size + 1) hH ?_; intro g8 cap8 w8 hown8 hgrow hat hlt8; refine Hid.out ?_)
                have HR : Hid (YS w2 g4 ns m xs (k + 1) (.slice (some ⟨g8, 0, none⟩) (k + 1) cap8) w8) := by
                  refine YS.next HY.out.bel HLK.out.1 HLK.out.2.1 HLK.out.2.2.1 HLK.out.2.2.2 HBA.out (g := g) (A := (some ⟨gk, ok, none⟩)) (c := c3) HG9.out HI.out hgrow ?_
                  have e : gdL (g) (some ⟨gk, ok, none⟩) c3 = [.int .u8 g.op, .int .u64 (W g.s 0), .int .u64 (W g.s 1), .int .u64 (W g.s 2), .int .u64 (W g.s 3), .slice (some ⟨gk, ok, none⟩) mm c3, .int .i64 g.lo, .int .i64 g.hi, .string g.nm] := by first | (unfold gdL hiG; rw [HMM.out]) | (unfold gdL; rw [HMM.out])
                  rw [e]
                  exact hown8
                clear hown hown8 hgrow hat hlt8 hnews hH hbase HBA HLK y0 y1 y2 y3 y4 y5 y6 y7 y8
                refine Lib.hid ?_
                go_wp2
                exact ⟨⟨k + 1, by omega, rfl, HR.out⟩, by simp [intOf]; omega⟩
            · have h2b : (kop == 2) = false := by simp [h2]
              have h2 : (ns.getD j nd00).op ≠ 2 := fun q => h2 (by rw [← HKOP.out, q]; rfl)
              clear HKOP
              have HG9 : Hid (GN1 g (upN ns m (byF xs k) (ns.getD k nd0))) := by
                show GN1 _ _
                rw [upN_no (fun q => h2 (by rw [← hj0]; exact q.2.1))]
                exact H1.out
              clear h5 h2 hj0 tq
              go_upto_region 15 with fail
              clear z0 z5 z7 ck5 co5
              obtain ⟨y0, y1, y2, y3, y4, y5, y6, y7, y8⟩ : w5.cell? ⟨q, 0, none⟩ = some (.int .u8 g.op) ∧ w5.cell? ⟨q, 1, none⟩ = some (.int .u64 (W g.s 0)) ∧ w5.cell? ⟨q, 2, none⟩ = some (.int .u64 (W g.s 1)) ∧ w5.cell? ⟨q, 3, none⟩ = some (.int .u64 (W g.s 2)) ∧ w5.cell? ⟨q, 4, none⟩ = some (.int .u64 (W g.s 3)) ∧ w5.cell? ⟨q, 5, none⟩ = some (.slice (some ⟨gk, ok, none⟩) mm c3) ∧ w5.cell? ⟨q, 6, none⟩ = some (.int .i64 g.lo) ∧ w5.cell? ⟨q, 7, none⟩ = some (.int .i64 g.hi) ∧ w5.cell? ⟨q, 8, none⟩ = some (.string g.nm) := ⟨HRB.out.at_ rfl, HRB.out.at_ rfl, HRB.out.at_ rfl, HRB.out.at_ rfl, HRB.out.at_ rfl, HRB.out.at_ rfl, HRB.out.at_ rfl, HRB.out.at_ rfl, HRB.out.at_ rfl⟩
              obtain ⟨l, hl1, hl2, hl3, hl4⟩ := HY.out.rows
              have HLK := hidd (And.intro hl1 (And.intro hl2 (And.intro hl3 hl4)))
              have hown := (own_below hl2 HB5.out (Nat.le_refl _)).alloc (.cells #[.int .u8 g.op, .int .u64 (W g.s 0), .int .u64 (W g.s 1), .int .u64 (W g.s 2), .int .u64 (W g.s 3), .slice (some ⟨gk, ok, none⟩) mm c3, .int .i64 g.lo, .int .i64 g.hi, .string g.nm] 39)
              have HBA := hidd (HB5.out.alloc HB5.out.size (.cells #[.int .u8 g.op, .int .u64 (W g.s 0), .int .u64 (W g.s 1), .int .u64 (W g.s 2), .int .u64 (W g.s 3), .slice (some ⟨gk, ok, none⟩) mm c3, .int .i64 g.lo, .int .i64 g.hi, .string g.nm] 39))
              have hnews : ∀ j' u, ([.int .u8 g.op, .int .u64 (W g.s 0), .int .u64 (W g.s 1), .int .u64 (W g.s 2), .int .u64 (W g.s 3), .slice (some ⟨gk, ok, none⟩) mm c3, .int .i64 g.lo, .int .i64 g.hi, .string g.nm] : List Value)[j']? = some u → (w5.alloc (.cells #[.int .u8 g.op, .int .u64 (W g.s 0), .int .u64 (W g.s 1), .int .u64 (W g.s 2), .int .u64 (W g.s 3), .slice (some ⟨gk, ok, none⟩) mm c3, .int .i64 g.lo, .int .i64 g.hi, .string g.nm] 39)).cell? ((⟨w5.heap.size, 0, none⟩ : Addr).add j') = some u := World.news_of_block (RowA.new w5 39 #[.int .u8 g.op, .int .u64 (W g.s 0), .int .u64 (W g.s 1), .int .u64 (W g.s 2), .int .u64 (W g.s 3), .slice (some ⟨gk, ok, none⟩) mm c3, .int .i64 g.lo, .int .i64 g.hi, .string g.nm])
              have hH : (w5.alloc (.cells #[.int .u8 g.op, .int .u64 (W g.s 0), .int .u64 (W g.s 1), .int .u64 (W g.s 2), .int .u64 (W g.s 3), .slice (some ⟨gk, ok, none⟩) mm c3, .int .i64 g.lo, .int .i64 g.hi, .string g.nm] 39)).heap.size = w5.heap.size + 1 := World.size_alloc ..
              have hbase : w2.heap.size ≤ (w5.alloc (.cells #[.int .u8 g.op, .int .u64 (W g.s 0), .int .u64 (W g.s 1), .int .u64 (W g.s 2), .int .u64 (W g.s 3), .slice (some ⟨gk, ok, none⟩) mm c3, .int .i64 g.lo, .int .i64 g.hi, .string g.nm] 39)).heap.size := by have := HY.out.size; have := HB5.out.size; rw [hH]; omega
              clear hl1 hl2 hl3 hl4
              go_wp2_with (at_builtin; refine wpList_append_lies _ rfl _ _ _ rfl w2.heap.size 39 i0 (.agg zeroC) 9 96 Try.underlying22 hi0 hz0 hz1 hz2 rfl (by omega) _ k (nodesC l) rfl hown ⟨w5.heap.size, 0, none⟩ 1 1 [.int .u8 g.op, .int .u64 (W g.s 0), .int .u64 (W g.s 1), .int .u64 (W g.s 2), .int .u64 (W g.s 3), .slice (some ⟨gk, ok, none⟩) mm c3, .int .i64 g.lo, .int .i64 g.hi, .string g.nm] rfl rfl hnews (by simp [Value.oneCell']) (by omega) (by simp only [maxLen]; omega) (by omega) hbase (w5.heap.size + 1) hH ?_; intro g8 cap8 w8 hown8 hgrow hat hlt8; refine Hid.out ?_)
              have HR : Hid (YS w2 g4 ns m xs (k + 1) (.slice (some ⟨g8, 0, none⟩) (k + 1) cap8) w8) := by
                refine YS.next HY.out.bel HLK.out.1 HLK.out.2.1 HLK.out.2.2.1 HLK.out.2.2.2 HBA.out (g := g) (A := (some ⟨gk, ok, none⟩)) (c := c3) HG9.out HI.out hgrow ?_
                have e : gdL (g) (some ⟨gk, ok, none⟩) c3 = [.int .u8 g.op, .int .u64 (W g.s 0), .int .u64 (W g.s 1), .int .u64 (W g.s 2), .int .u64 (W g.s 3), .slice (some ⟨gk, ok, none⟩) mm c3, .int .i64 g.lo, .int .i64 g.hi, .string g.nm] := by first | (unfold gdL hiG; rw [HMM.out]) | (unfold gdL; rw [HMM.out])
                rw [e]
                exact hown8
              clear hown hown8 hgrow hat hlt8 hnews hH hbase HBA HLK y0 y1 y2 y3 y4 y5 y6 y7 y8
              refine Lib.hid ?_
              go_wp2
              exact ⟨⟨k + 1, by omega, rfl, HR.out⟩, by simp [intOf]; omega⟩
          · have h5b : (g.op == 5) = false := by rw [H1.out.op]; exact beq_eq_false_iff_ne.2 (by omega)
            have z0 : w5.cell? ⟨q, 0, none⟩ = some (.int .u8 g.op) := HRB.out.at_ rfl
            have HG9 : Hid (GN1 g (upN ns m (byF xs k) (ns.getD k nd0))) := by
              show GN1 _ _
              rw [upN_no (fun q => h5 q.1)]
              exact H1.out
            clear h5 HKID
            go_upto_region 15 with fail
            clear z0
            obtain ⟨y0, y1, y2, y3, y4, y5, y6, y7, y8⟩ : w5.cell? ⟨q, 0, none⟩ = some (.int .u8 g.op) ∧ w5.cell? ⟨q, 1, none⟩ = some (.int .u64 (W g.s 0)) ∧ w5.cell? ⟨q, 2, none⟩ = some (.int .u64 (W g.s 1)) ∧ w5.cell? ⟨q, 3, none⟩ = some (.int .u64 (W g.s 2)) ∧ w5.cell? ⟨q, 4, none⟩ = some (.int .u64 (W g.s 3)) ∧ w5.cell? ⟨q, 5, none⟩ = some (.slice A3 mm c3) ∧ w5.cell? ⟨q, 6, none⟩ = some (.int .i64 g.lo) ∧ w5.cell? ⟨q, 7, none⟩ = some (.int .i64 g.hi) ∧ w5.cell? ⟨q, 8, none⟩ = some (.string g.nm) := ⟨HRB.out.at_ rfl, HRB.out.at_ rfl, HRB.out.at_ rfl, HRB.out.at_ rfl, HRB.out.at_ rfl, HRB.out.at_ rfl, HRB.out.at_ rfl, HRB.out.at_ rfl, HRB.out.at_ rfl⟩
            obtain ⟨l, hl1, hl2, hl3, hl4⟩ := HY.out.rows
            have HLK := hidd (And.intro hl1 (And.intro hl2 (And.intro hl3 hl4)))
            have hown := (own_below hl2 HB5.out (Nat.le_refl _)).alloc (.cells #[.int .u8 g.op, .int .u64 (W g.s 0), .int .u64 (W g.s 1), .int .u64 (W g.s 2), .int .u64 (W g.s 3), .slice A3 mm c3, .int .i64 g.lo, .int .i64 g.hi, .string g.nm] 39)
            have HBA := hidd (HB5.out.alloc HB5.out.size (.cells #[.int .u8 g.op, .int .u64 (W g.s 0), .int .u64 (W g.s 1), .int .u64 (W g.s 2), .int .u64 (W g.s 3), .slice A3 mm c3, .int .i64 g.lo, .int .i64 g.hi, .string g.nm] 39))
            have hnews : ∀ j' u, ([.int .u8 g.op, .int .u64 (W g.s 0), .int .u64 (W g.s 1), .int .u64 (W g.s 2), .int .u64 (W g.s 3), .slice A3 mm c3, .int .i64 g.lo, .int .i64 g.hi, .string g.nm] : List Value)[j']? = some u → (w5.alloc (.cells #[.int .u8 g.op, .int .u64 (W g.s 0), .int .u64 (W g.s 1), .int .u64 (W g.s 2), .int .u64 (W g.s 3), .slice A3 mm c3, .int .i64 g.lo, .int .i64 g.hi, .string g.nm] 39)).cell? ((⟨w5.heap.size, 0, none⟩ : Addr).add j') = some u := World.news_of_block (RowA.new w5 39 #[.int .u8 g.op, .int .u64 (W g.s 0), .int .u64 (W g.s 1), .int .u64 (W g.s 2), .int .u64 (W g.s 3), .slice A3 mm c3, .int .i64 g.lo, .int .i64 g.hi, .string g.nm])
            have hH : (w5.alloc (.cells #[.int .u8 g.op, .int .u64 (W g.s 0), .int .u64 (W g.s 1), .int .u64 (W g.s 2), .int .u64 (W g.s 3), .slice A3 mm c3, .int .i64 g.lo, .int .i64 g.hi, .string g.nm] 39)).heap.size = w5.heap.size + 1 := World.size_alloc ..
            have hbase : w2.heap.size ≤ (w5.alloc (.cells #[.int .u8 g.op, .int .u64 (W g.s 0), .int .u64 (W g.s 1), .int .u64 (W g.s 2), .int .u64 (W g.s 3), .slice A3 mm c3, .int .i64 g.lo, .int .i64 g.hi, .string g.nm] 39)).heap.size := by have := HY.out.size; have := HB5.out.size; rw [hH]; omega
            clear hl1 hl2 hl3 hl4
            go_wp2_with (at_builtin; refine wpList_append_lies _ rfl _ _ _ rfl w2.heap.size 39 i0 (.agg zeroC) 9 96 Try.underlying22 hi0 hz0 hz1 hz2 rfl (by omega) _ k (nodesC l) rfl hown ⟨w5.heap.size, 0, none⟩ 1 1 [.int .u8 g.op, .int .u64 (W g.s 0), .int .u64 (W g.s 1), .int .u64 (W g.s 2), .int .u64 (W g.s 3), .slice A3 mm c3, .int .i64 g.lo, .int .i64 g.hi, .string g.nm] rfl rfl hnews (by simp [Value.oneCell']) (by omega) (by simp only [maxLen]; omega) (by omega) hbase (w5.heap.size + 1) hH ?_; intro g8 cap8 w8 hown8 hgrow hat hlt8; refine Hid.out ?_)
            have HR : Hid (YS w2 g4 ns m xs (k + 1) (.slice (some ⟨g8, 0, none⟩) (k + 1) cap8) w8) := by
              refine YS.next HY.out.bel HLK.out.1 HLK.out.2.1 HLK.out.2.2.1 HLK.out.2.2.2 HBA.out (g := g) (A := A3) (c := c3) HG9.out HI.out hgrow ?_
              have e : gdL (g) A3 c3 = [.int .u8 g.op, .int .u64 (W g.s 0), .int .u64 (W g.s 1), .int .u64 (W g.s 2), .int .u64 (W g.s 3), .slice A3 mm c3, .int .i64 g.lo, .int .i64 g.hi, .string g.nm] := by first | (unfold gdL hiG; rw [HMM.out]) | (unfold gdL; rw [HMM.out])
              rw [e]
              exact hown8
            clear hown hown8 hgrow hat hlt8 hnews hH hbase HBA HLK y0 y1 y2 y3 y4 y5 y6 y7 y8
            refine Lib.hid ?_
            go_wp2
            exact ⟨⟨k + 1, by omega, rfl, HR.out⟩, by simp [intOf]; omega⟩
        · have hkmi : ¬ (k : Int) < (ml : Int) := by omega
          have hby : byF xs k = 0 := by unfold byF; rw [if_neg (by rw [HML.out]; exact hkm)]
          obtain ⟨h9, hh9⟩ : ∃ h9, min g.hi 4096 = h9 := ⟨_, rfl⟩
          have HH9 : Hid (min (g.hi + (byF xs k : Nat)) 4096 = h9) := by
            show _ = _
            rw [hby, ← hh9]
            show min (g.hi + 0) 4096 = min g.hi 4096
            rw [Int.add_zero]
          clear hby
          go_upto_region 13 with fail
          by_cases h5 : (ns.getD k nd0).op = 5
          · obtain ⟨gk, ok, j, rfl, hmm0, hjn, hgk, ck, co, hj0⟩ := HKID.out h5
            have h5b : (g.op == 5) = true := by rw [H1.out.op, h5]; rfl
            have ck5 := (HB5.out.cell (p := ⟨gk, ok, none⟩) (Nat.lt_of_lt_of_le hgk HY.out.size)).trans ck
            have co5 := (HB5.out.cell (p := ⟨b4, o4 + j * 9, none⟩) (Nat.lt_of_lt_of_le hb4 HY.out.size)).trans co
            obtain ⟨kop, hkop⟩ : ∃ kop : Int, ((ns.getD j nd00).op : Int) = kop := ⟨_, rfl⟩
            rw [hkop] at co5
            have HKOP := hidd hkop
            clear hkop
            have hji : (j : Int) < (n4 : Int) := by omega
            have hmmi : (0 : Int) < (mm : Int) := by omega
            have z0 : w5.cell? ⟨q, 0, none⟩ = some (.int .u8 g.op) := HRB.out.at_ rfl
            have z5 : w5.cell? ⟨q, 5, none⟩ = some (.slice (some ⟨gk, ok, none⟩) mm c3) := HRB.out.at_ rfl
            have z7 : w5.cell? ⟨q, 7, none⟩ = some (.int .i64 g.hi) := HRB.out.at_ rfl
            have tq := HRB.out.thawed
            have HLO := hidd (HBD.out h5)
            have hlo9 := HLO.out.1
            have hhi9 := HLO.out.2
            clear ck co HKID
            by_cases h2 : kop = 2
            · subst h2
              have h2 : (ns.getD j nd00).op = 2 := by have := HKOP.out; omega
              clear HKOP
              by_cases hgt : (m : Int) < g.hi
              · have HG9 : Hid (GN1 (hiG g h9) (upN ns m (byF xs k) (ns.getD k nd0))) := by
                  have h1 := H1.out
                  show GN1 _ _
                  rw [upN_yes ⟨h5, by rw [hj0]; exact h2, by rw [← h1.hi]; exact hgt⟩]
                  exact ⟨h1.op, h1.s, h1.l, h1.lo, by show h9 = min ((ns.getD k nd0).hi + (byF xs k : Nat)) 4096; rw [← h1.hi]; exact HH9.out.symm, h1.nm⟩
                clear h5 h2 hj0
                go_upto_region 15 with fail
                have HRB := hidd (HRB.out.set 7 (.int .i64 h9))
                have HB5 := hidd (bel_set HB5.out ⟨q, 7, none⟩ (.int .i64 h9) (by show _ ≤ q; exact Nat.le_of_eq HQ.out))
                generalize w5.setCell ⟨q, 7, none⟩ (.int .i64 h9) = w5 at *
                clear z0 z5 z7 tq ck5 co5
                obtain ⟨y0, y1, y2, y3, y4, y5, y6, y7, y8⟩ : w5.cell? ⟨q, 0, none⟩ = some (.int .u8 g.op) ∧ w5.cell? ⟨q, 1, none⟩ = some (.int .u64 (W g.s 0)) ∧ w5.cell? ⟨q, 2, none⟩ = some (.int .u64 (W g.s 1)) ∧ w5.cell? ⟨q, 3, none⟩ = some (.int .u64 (W g.s 2)) ∧ w5.cell? ⟨q, 4, none⟩ = some (.int .u64 (W g.s 3)) ∧ w5.cell? ⟨q, 5, none⟩ = some (.slice (some ⟨gk, ok, none⟩) mm c3) ∧ w5.cell? ⟨q, 6, none⟩ = some (.int .i64 g.lo) ∧ w5.cell? ⟨q, 7, none⟩ = some (.int .i64 h9) ∧ w5.cell? ⟨q, 8, none⟩ = some (.string g.nm) := ⟨HRB.out.at_ rfl, HRB.out.at_ rfl, HRB.out.at_ rfl, HRB.out.at_ rfl, HRB.out.at_ rfl, HRB.out.at_ rfl, HRB.out.at_ rfl, HRB.out.at_ rfl, HRB.out.at_ rfl⟩
                obtain ⟨l, hl1, hl2, hl3, hl4⟩ := HY.out.rows
                have HLK := hidd (And.intro hl1 (And.intro hl2 (And.intro hl3 hl4)))
                have hown := (own_below hl2 HB5.out (Nat.le_refl _)).alloc (.cells #[.int .u8 g.op, .int .u64 (W g.s 0), .int .u64 (W g.s 1), .int .u64 (W g.s 2), .int .u64 (W g.s 3), .slice (some ⟨gk, ok, none⟩) mm c3, .int .i64 g.lo, .int .i64 h9, .string g.nm] 39)
                have HBA := hidd (HB5.out.alloc HB5.out.size (.cells #[.int .u8 g.op, .int .u64 (W g.s 0), .int .u64 (W g.s 1), .int .u64 (W g.s 2), .int .u64 (W g.s 3), .slice (some ⟨gk, ok, none⟩) mm c3, .int .i64 g.lo, .int .i64 h9, .string g.nm] 39))
                have hnews : ∀ j' u, ([.int .u8 g.op, .int .u64 (W g.s 0), .int .u64 (W g.s 1), .int .u64 (W g.s 2), .int .u64 (W g.s 3), .slice (some ⟨gk, ok, none⟩) mm c3, .int .i64 g.lo, .int .i64 h9, .string g.nm] : List Value)[j']? = some u → (w5.alloc (.cells #[.int .u8 g.op, .int .u64 (W g.s 0), .int .u64 (W g.s 1), .int .u64 (W g.s 2), .int .u64 (W g.s 3), .slice (some ⟨gk, ok, none⟩) mm c3, .int .i64 g.lo, .int .i64 h9, .string g.nm] 39)).cell? ((⟨w5.heap.size, 0, none⟩ : Addr).add j') = some u := World.news_of_block (RowA.new w5 39 #[.int .u8 g.op, .int .u64 (W g.s 0), .int .u64 (W g.s 1), .int .u64 (W g.s 2), .int .u64 (W g.s 3), .slice (some ⟨gk, ok, none⟩) mm c3, .int .i64 g.lo, .int .i64 h9, .string g.nm])
                have hH : (w5.alloc (.cells #[.int .u8 g.op, .int .u64 (W g.s 0), .int .u64 (W g.s 1), .int .u64 (W g.s 2), .int .u64 (W g.s 3), .slice (some ⟨gk, ok, none⟩) mm c3, .int .i64 g.lo, .int .i64 h9, .string g.nm] 39)).heap.size = w5.heap.size + 1 := World.size_alloc ..
                have hbase : w2.heap.size ≤ (w5.alloc (.cells #[.int .u8 g.op, .int .u64 (W g.s 0), .int .u64 (W g.s 1), .int .u64 (W g.s 2), .int .u64 (W g.s 3), .slice (some ⟨gk, ok, none⟩) mm c3, .int .i64 g.lo, .int .i64 h9, .string g.nm] 39)).heap.size := by have := HY.out.size; have := HB5.out.size; rw [hH]; omega
                clear hl1 hl2 hl3 hl4
                go_wp2_with (at_builtin; refine wpList_append_lies _ rfl _ _ _ rfl w2.heap.size 39 i0 (.agg zeroC) 9 96 Try.underlying22 hi0 hz0 hz1 hz2 rfl (by omega) _ k (nodesC l) rfl hown ⟨w5.heap.size, 0, none⟩ 1 1 [.int .u8 g.op, .int .u64 (W g.s 0), .int .u64 (W g.s 1), .int .u64 (W g.s 2), .int .u64 (W g.s 3), .slice (some ⟨gk, ok, none⟩) mm c3, .int .i64 g.lo, .int .i64 h9, .string g.nm] rfl rfl hnews (by simp [Value.oneCell']) (by omega) (by simp only [maxLen]; omega) (by omega) hbase (w5.heap.size + 1) hH ?_; intro g8 cap8 w8 hown8 hgrow hat hlt8; refine Hid.out ?_)
                have HR : Hid (YS w2 g4 ns m xs (k + 1) (.slice (some ⟨g8, 0, none⟩) (k + 1) cap8) w8) := by
                  refine YS.next HY.out.bel HLK.out.1 HLK.out.2.1 HLK.out.2.2.1 HLK.out.2.2.2 HBA.out (g := hiG g h9) (A := (some ⟨gk, ok, none⟩)) (c := c3) HG9.out HI.out hgrow ?_
                  have e : gdL (hiG g h9) (some ⟨gk, ok, none⟩) c3 = [.int .u8 g.op, .int .u64 (W g.s 0), .int .u64 (W g.s 1), .int .u64 (W g.s 2), .int .u64 (W g.s 3), .slice (some ⟨gk, ok, none⟩) mm c3, .int .i64 g.lo, .int .i64 h9, .string g.nm] := by first | (unfold gdL hiG; rw [HMM.out]) | (unfold gdL; rw [HMM.out])
                  rw [e]
                  exact hown8
                clear hown hown8 hgrow hat hlt8 hnews hH hbase HBA HLK y0 y1 y2 y3 y4 y5 y6 y7 y8
                refine Lib.hid ?_
                go_wp2
                exact ⟨⟨k + 1, by omega, rfl, HR.out⟩, by simp [intOf]; omega⟩
              · have HG9 : Hid (GN1 g (upN ns m (byF xs k) (ns.getD k nd0))) := by
                  have h1 := H1.out
                  show GN1 _ _
                  rw [upN_no (fun q => hgt (by rw [h1.hi]; exact q.2.2))]
                  exact h1
                clear h5 h2 hj0 tq
                go_upto_region 15 with fail
                clear z0 z5 z7 ck5 co5
                obtain ⟨y0, y1, y2, y3, y4, y5, y6, y7, y8⟩ : w5.cell? ⟨q, 0, none⟩ = some (.int .u8 g.op) ∧ w5.cell? ⟨q, 1, none⟩ = some (.int .u64 (W g.s 0)) ∧ w5.cell? ⟨q, 2, none⟩ = some (.int .u64 (W g.s 1)) ∧ w5.cell? ⟨q, 3, none⟩ = some (.int .u64 (W g.s 2)) ∧ w5.cell? ⟨q, 4, none⟩ = some (.int .u64 (W g.s 3)) ∧ w5.cell? ⟨q, 5, none⟩ = some (.slice (some ⟨gk, ok, none⟩) mm c3) ∧ w5.cell? ⟨q, 6, none⟩ = some (.int .i64 g.lo) ∧ w5.cell? ⟨q, 7, none⟩ = some (.int .i64 g.hi) ∧ w5.cell? ⟨q, 8, none⟩ = some (.string g.nm) := ⟨HRB.out.at_ rfl, HRB.out.at_ rfl, HRB.out.at_ rfl, HRB.out.at_ rfl, HRB.out.at_ rfl, HRB.out.at_ rfl, HRB.out.at_ rfl, HRB.out.at_ rfl, HRB.out.at_ rfl⟩
                obtain ⟨l, hl1, hl2, hl3, hl4⟩ := HY.out.rows
                have HLK := hidd (And.intro hl1 (And.intro hl2 (And.intro hl3 hl4)))
                have hown := (own_below hl2 HB5.out (Nat.le_refl _)).alloc (.cells #[.int .u8 g.op, .int .u64 (W g.s 0), .int .u64 (W g.s 1), .int .u64 (W g.s 2), .int .u64 (W g.s 3), .slice (some ⟨gk, ok, none⟩) mm c3, .int .i64 g.lo, .int .i64 g.hi, .string g.nm] 39)
                have HBA := hidd (HB5.out.alloc HB5.out.size (.cells #[.int .u8 g.op, .int .u64 (W g.s 0), .int .u64 (W g.s 1), .int .u64 (W g.s 2), .int .u64 (W g.s 3), .slice (some ⟨gk, ok, none⟩) mm c3, .int .i64 g.lo, .int .i64 g.hi, .string g.nm] 39))
                have hnews : ∀ j' u, ([.int .u8 g.op, .int .u64 (W g.s 0), .int .u64 (W g.s 1), .int .u64 (W g.s 2), .int .u64 (W g.s 3), .slice (some ⟨gk, ok, none⟩) mm c3, .int .i64 g.lo, .int .i64 g.hi, .string g.nm] : List Value)[j']? = some u → (w5.alloc (.cells #[.int .u8 g.op, .int .u64 (W g.s 0), .int .u64 (W g.s 1), .int .u64 (W g.s 2), .int .u64 (W g.s 3), .slice (some ⟨gk, ok, none⟩) mm c3, .int .i64 g.lo, .int .i64 g.hi, .string g.nm] 39)).cell? ((⟨w5.heap.size, 0, none⟩ : Addr).add j') = some u := World.news_of_block (RowA.new w5 39 #[.int .u8 g.op, .int .u64 (W g.s 0), .int .u64 (W g.s 1), .int .u64 (W g.s 2), .int .u64 (W g.s 3), .slice (some ⟨gk, ok, none⟩) mm c3, .int .i64 g.lo, .int .i64 g.hi, .string g.nm])
                have hH : (w5.alloc (.cells #[.int .u8 g.op, .int .u64 (W g.s 0), .int .u64 (W g.s 1), .int .u64 (W g.s 2), .int .u64 (W g.s 3), .slice (some ⟨gk, ok, none⟩) mm c3, .int .i64 g.lo, .int .i64 g.hi, .string g.nm] 39)).heap.size = w5.heap.size + 1 := World.size_alloc ..
                have hbase : w2.heap.size ≤ (w5.alloc (.cells #[.int .u8 g.op, .int .u64 (W g.s 0), .int .u64 (W g.s 1), .int .u64 (W g.s 2), .int .u64 (W g.s 3), .slice (some ⟨gk, ok, none⟩) mm c3, .int .i64 g.lo, .int .i64 g.hi, .string g.nm] 39)).heap.size := by have := HY.out.size; have := HB5.out.size; rw [hH]; omega
                clear hl1 hl2 hl3 hl4
                go_wp2_with (at_builtin; refine wpList_append_lies _ rfl _ _ _ rfl w2.heap.size 39 i0 (.agg zeroC) 9 96 Try.underlying22 hi0 hz0 hz1 hz2 rfl (by omega) _ k (nodesC l) rfl hown ⟨w5.heap.size, 0, none⟩ 1 1 [.int .u8 g.op, .int .u64 (W g.s 0), .int .u64 (W g.s 1), .int .u64 (W g.s 2), .int .u64 (W g.s 3), .slice (some ⟨gk, ok, none⟩) mm c3, .int .i64 g.lo, .int .i64 g.hi, .string g.nm] rfl rfl hnews (by simp [Value.oneCell']) (by omega) (by simp only [maxLen]; omega) (by omega) hbase (w5.heap.size + 1) hH ?_; intro g8 cap8 w8 hown8 hgrow hat hlt8; refine Hid.out ?_)
                have HR : Hid (YS w2 g4 ns m xs (k + 1) (.slice (some ⟨g8, 0, none⟩) (k + 1) cap8) w8) := by
                  refine YS.next HY.out.bel HLK.out.1 HLK.out.2.1 HLK.out.2.2.1 HLK.out.2.2.2 HBA.out (g := g) (A := (some ⟨gk, ok, none⟩)) (c := c3) HG9.out HI.out hgrow ?_
                  have e : gdL (g) (some ⟨gk, ok, none⟩) c3 = [.int .u8 g.op, .int .u64 (W g.s 0), .int .u64 (W g.s 1), .int .u64 (W g.s 2), .int .u64 (W g.s 3), .slice (some ⟨gk, ok, none⟩) mm c3, .int .i64 g.lo, .int .i64 g.hi, .string g.nm] := by first | (unfold gdL hiG; rw [HMM.out]) | (unfold gdL; rw [HMM.out])
                  rw [e]
                  exact hown8
                clear hown hown8 hgrow hat hlt8 hnews hH hbase HBA HLK y0 y1 y2 y3 y4 y5 y6 y7 y8
                refine Lib.hid ?_
                go_wp2
                exact ⟨⟨k + 1, by omega, rfl, HR.out⟩, by simp [intOf]; omega⟩
            · have h2b : (kop == 2) = false := by simp [h2]
              have h2 : (ns.getD j nd00).op ≠ 2 := fun q => h2 (by rw [← HKOP.out, q]; rfl)
              clear HKOP
              have HG9 : Hid (GN1 g (upN ns m (byF xs k) (ns.getD k nd0))) := by
                show GN1 _ _
                rw [upN_no (fun q => h2 (by rw [← hj0]; exact q.2.1))]
                exact H1.out
              clear h5 h2 hj0 tq
              go_upto_region 15 with fail
              clear z0 z5 z7 ck5 co5
              obtain ⟨y0, y1, y2, y3, y4, y5, y6, y7, y8⟩ : w5.cell? ⟨q, 0, none⟩ = some (.int .u8 g.op) ∧ w5.cell? ⟨q, 1, none⟩ = some (.int .u64 (W g.s 0)) ∧ w5.cell? ⟨q, 2, none⟩ = some (.int .u64 (W g.s 1)) ∧ w5.cell? ⟨q, 3, none⟩ = some (.int .u64 (W g.s 2)) ∧ w5.cell? ⟨q, 4, none⟩ = some (.int .u64 (W g.s 3)) ∧ w5.cell? ⟨q, 5, none⟩ = some (.slice (some ⟨gk, ok, none⟩) mm c3) ∧ w5.cell? ⟨q, 6, none⟩ = some (.int .i64 g.lo) ∧ w5.cell? ⟨q, 7, none⟩ = some (.int .i64 g.hi) ∧ w5.cell? ⟨q, 8, none⟩ = some (.string g.nm) := ⟨HRB.out.at_ rfl, HRB.out.at_ rfl, HRB.out.at_ rfl, HRB.out.at_ rfl, HRB.out.at_ rfl, HRB.out.at_ rfl, HRB.out.at_ rfl, HRB.out.at_ rfl, HRB.out.at_ rfl⟩
              obtain ⟨l, hl1, hl2, hl3, hl4⟩ := HY.out.rows
              have HLK := hidd (And.intro hl1 (And.intro hl2 (And.intro hl3 hl4)))
              have hown := (own_below hl2 HB5.out (Nat.le_refl _)).alloc (.cells #[.int .u8 g.op, .int .u64 (W g.s 0), .int .u64 (W g.s 1), .int .u64 (W g.s 2), .int .u64 (W g.s 3), .slice (some ⟨gk, ok, none⟩) mm c3, .int .i64 g.lo, .int .i64 g.hi, .string g.nm] 39)
              have HBA := hidd (HB5.out.alloc HB5.out.size (.cells #[.int .u8 g.op, .int .u64 (W g.s 0), .int .u64 (W g.s 1), .int .u64 (W g.s 2), .int .u64 (W g.s 3), .slice (some ⟨gk, ok, none⟩) mm c3, .int .i64 g.lo, .int .i64 g.hi, .string g.nm] 39))
              have hnews : ∀ j' u, ([.int .u8 g.op, .int .u64 (W g.s 0), .int .u64 (W g.s 1), .int .u64 (W g.s 2), .int .u64 (W g.s 3), .slice (some ⟨gk, ok, none⟩) mm c3, .int .i64 g.lo, .int .i64 g.hi, .string g.nm] : List Value)[j']? = some u → (w5.alloc (.cells #[.int .u8 g.op, .int .u64 (W g.s 0), .int .u64 (W g.s 1), .int .u64 (W g.s 2), .int .u64 (W g.s 3), .slice (some ⟨gk, ok, none⟩) mm c3, .int .i64 g.lo, .int .i64 g.hi, .string g.nm] 39)).cell? ((⟨w5.heap.size, 0, none⟩ : Addr).add j') = some u := World.news_of_block (RowA.new w5 39 #[.int .u8 g.op, .int .u64 (W g.s 0), .int .u64 (W g.s 1), .int .u64 (W g.s 2), .int .u64 (W g.s 3), .slice (some ⟨gk, ok, none⟩) mm c3, .int .i64 g.lo, .int .i64 g.hi, .string g.nm])
              have hH : (w5.alloc (.cells #[.int .u8 g.op, .int .u64 (W g.s 0), .int .u64 (W g.s 1), .int .u64 (W g.s 2), .int .u64 (W g.s 3), .slice (some ⟨gk, ok, none⟩) mm c3, .int .i64 g.lo, .int .i64 g.hi, .string g.nm] 39)).heap.size = w5.heap.size + 1 := World.size_alloc ..
              have hbase : w2.heap.size ≤ (w5.alloc (.cells #[.int .u8 g.op, .int .u64 (W g.s 0), .int .u64 (W g.s 1), .int .u64 (W g.s 2), .int .u64 (W g.s 3), .slice (some ⟨gk, ok, none⟩) mm c3, .int .i64 g.lo, .int .i64 g.hi, .string g.nm] 39)).heap.size := by have := HY.out.size; have := HB5.out.size; rw [hH]; omega
              clear hl1 hl2 hl3 hl4
              go_wp2_with (at_builtin; refine wpList_append_lies _ rfl _ _ _ rfl w2.heap.size 39 i0 (.agg zeroC) 9 96 Try.underlying22 hi0 hz0 hz1 hz2 rfl (by omega) _ k (nodesC l) rfl hown ⟨w5.heap.size, 0, none⟩ 1 1 [.int .u8 g.op, .int .u64 (W g.s 0), .int .u64 (W g.s 1), .int .u64 (W g.s 2), .int .u64 (W g.s 3), .slice (some ⟨gk, ok, none⟩) mm c3, .int .i64 g.lo, .int .i64 g.hi, .string g.nm] rfl rfl hnews (by simp [Value.oneCell']) (by omega) (by simp only [maxLen]; omega) (by omega) hbase (w5.heap.size + 1) hH ?_; intro g8 cap8 w8 hown8 hgrow hat hlt8; refine Hid.out ?_)
              have HR : Hid (YS w2 g4 ns m xs (k + 1) (.slice (some ⟨g8, 0, none⟩) (k + 1) cap8) w8) := by
                refine YS.next HY.out.bel HLK.out.1 HLK.out.2.1 HLK.out.2.2.1 HLK.out.2.2.2 HBA.out (g := g) (A := (some ⟨gk, ok, none⟩)) (c := c3) HG9.out HI.out hgrow ?_
                have e : gdL (g) (some ⟨gk, ok, none⟩) c3 = [.int .u8 g.op, .int .u64 (W g.s 0), .int .u64 (W g.s 1), .int .u64 (W g.s 2), .int .u64 (W g.s 3), .slice (some ⟨gk, ok, none⟩) mm c3, .int .i64 g.lo, .int .i64 g.hi, .string g.nm] := by first | (unfold gdL hiG; rw [HMM.out]) | (unfold gdL; rw [HMM.out])
                rw [e]
                exact hown8
              clear hown hown8 hgrow hat hlt8 hnews hH hbase HBA HLK y0 y1 y2 y3 y4 y5 y6 y7 y8
              refine Lib.hid ?_
              go_wp2
              exact ⟨⟨k + 1, by omega, rfl, HR.out⟩, by simp [intOf]; omega⟩
          · have h5b : (g.op == 5) = false := by rw [H1.out.op]; exact beq_eq_false_iff_ne.2 (by omega)
            have z0 : w5.cell? ⟨q, 0, none⟩ = some (.int .u8 g.op) := HRB.out.at_ rfl
            have HG9 : Hid (GN1 g (upN ns m (byF xs k) (ns.getD k nd0))) := by
              show GN1 _ _
              rw [upN_no (fun q => h5 q.1)]
              exact H1.out
            clear h5 HKID
            go_upto_region 15 with fail
            clear z0
            obtain ⟨y0, y1, y2, y3, y4, y5, y6, y7, y8⟩ : w5.cell? ⟨q, 0, none⟩ = some (.int .u8 g.op) ∧ w5.cell? ⟨q, 1, none⟩ = some (.int .u64 (W g.s 0)) ∧ w5.cell? ⟨q, 2, none⟩ = some (.int .u64 (W g.s 1)) ∧ w5.cell? ⟨q, 3, none⟩ = some (.int .u64 (W g.s 2)) ∧ w5.cell? ⟨q, 4, none⟩ = some (.int .u64 (W g.s 3)) ∧ w5.cell? ⟨q, 5, none⟩ = some (.slice A3 mm c3) ∧ w5.cell? ⟨q, 6, none⟩ = some (.int .i64 g.lo) ∧ w5.cell? ⟨q, 7, none⟩ = some (.int .i64 g.hi) ∧ w5.cell? ⟨q, 8, none⟩ = some (.string g.nm) := ⟨HRB.out.at_ rfl, HRB.out.at_ rfl, HRB.out.at_ rfl, HRB.out.at_ rfl, HRB.out.at_ rfl, HRB.out.at_ rfl, HRB.out.at_ rfl, HRB.out.at_ rfl, HRB.out.at_ rfl⟩
            obtain ⟨l, hl1, hl2, hl3, hl4⟩ := HY.out.rows
            have HLK := hidd (And.intro hl1 (And.intro hl2 (And.intro hl3 hl4)))
            have hown := (own_below hl2 HB5.out (Nat.le_refl _)).alloc (.cells #[.int .u8 g.op, .int .u64 (W g.s 0), .int .u64 (W g.s 1), .int .u64 (W g.s 2), .int .u64 (W g.s 3), .slice A3 mm c3, .int .i64 g.lo, .int .i64 g.hi, .string g.nm] 39)
            have HBA := hidd (HB5.out.alloc HB5.out.size (.cells #[.int .u8 g.op, .int .u64 (W g.s 0), .int .u64 (W g.s 1), .int .u64 (W g.s 2), .int .u64 (W g.s 3), .slice A3 mm c3, .int .i64 g.lo, .int .i64 g.hi, .string g.nm] 39))
            have hnews : ∀ j' u, ([.int .u8 g.op, .int .u64 (W g.s 0), .int .u64 (W g.s 1), .int .u64 (W g.s 2), .int .u64 (W g.s 3), .slice A3 mm c3, .int .i64 g.lo, .int .i64 g.hi, .string g.nm] : List Value)[j']? = some u → (w5.alloc (.cells #[.int .u8 g.op, .int .u64 (W g.s 0), .int .u64 (W g.s 1), .int .u64 (W g.s 2), .int .u64 (W g.s 3), .slice A3 mm c3, .int .i64 g.lo, .int .i64 g.hi, .string g.nm] 39)).cell? ((⟨w5.heap.size, 0, none⟩ : Addr).add j') = some u := World.news_of_block (RowA.new w5 39 #[.int .u8 g.op, .int .u64 (W g.s 0), .int .u64 (W g.s 1), .int .u64 (W g.s 2), .int .u64 (W g.s 3), .slice A3 mm c3, .int .i64 g.lo, .int .i64 g.hi, .string g.nm])
            have hH : (w5.alloc (.cells #[.int .u8 g.op, .int .u64 (W g.s 0), .int .u64 (W g.s 1), .int .u64 (W g.s 2), .int .u64 (W g.s 3), .slice A3 mm c3, .int .i64 g.lo, .int .i64 g.hi, .string g.nm] 39)).heap.size = w5.heap.size + 1 := World.size_alloc ..
            have hbase : w2.heap.size ≤ (w5.alloc (.cells #[.int .u8 g.op, .int .u64 (W g.s 0), .int .u64 (W g.s 1), .int .u64 (W g.s 2), .int .u64 (W g.s 3), .slice A3 mm c3, .int .i64 g.lo, .int .i64 g.hi, .string g.nm] 39)).heap.size := by have := HY.out.size; have := HB5.out.size; rw [hH]; omega
            clear hl1 hl2 hl3 hl4
            go_wp2_with (at_builtin; refine wpList_append_lies _ rfl _ _ _ rfl w2.heap.size 39 i0 (.agg zeroC) 9 96 Try.underlying22 hi0 hz0 hz1 hz2 rfl (by omega) _ k (nodesC l) rfl hown ⟨w5.heap.size, 0, none⟩ 1 1 [.int .u8 g.op, .int .u64 (W g.s 0), .int .u64 (W g.s 1), .int .u64 (W g.s 2), .int .u64 (W g.s 3), .slice A3 mm c3, .int .i64 g.lo, .int .i64 g.hi, .string g.nm] rfl rfl hnews (by simp [Value.oneCell']) (by omega) (by simp only [maxLen]; omega) (by omega) hbase (w5.heap.size + 1) hH ?_; intro g8 cap8 w8 hown8 hgrow hat hlt8; refine Hid.out ?_)
            have HR : Hid (YS w2 g4 ns m xs (k + 1) (.slice (some ⟨g8, 0, none⟩) (k + 1) cap8) w8) := by
              refine YS.next HY.out.bel HLK.out.1 HLK.out.2.1 HLK.out.2.2.1 HLK.out.2.2.2 HBA.out (g := g) (A := A3) (c := c3) HG9.out HI.out hgrow ?_
              have e : gdL (g) A3 c3 = [.int .u8 g.op, .int .u64 (W g.s 0), .int .u64 (W g.s 1), .int .u64 (W g.s 2), .int .u64 (W g.s 3), .slice A3 mm c3, .int .i64 g.lo, .int .i64 g.hi, .string g.nm] := by first | (unfold gdL hiG; rw [HMM.out]) | (unfold gdL; rw [HMM.out])
              rw [e]
              exact hown8
            clear hown hown8 hgrow hat hlt8 hnews hH hbase HBA HLK y0 y1 y2 y3 y4 y5 y6 y7 y8
            refine Lib.hid ?_
            go_wp2
            exact ⟨⟨k + 1, by omega, rfl, HR.out⟩, by simp [intOf]; omega⟩
      · have hke : k = n4 := by omega
        subst hke
        obtain ⟨Ay', cy', gy, ey, hgy, NY, GY⟩ := hys.nds
        injection ey with ey1 ey2 ey3
        subst ey1 ey3
        have hnl : k = ns.length := by rw [← HGL.out, HG.out.1]
        rw [hnl] at GY
        obtain ⟨yt, yp, ys⟩ := y_tree (by_ := byF xs) HTN.out HP.out hmm1
        have HSO := hidd (sim_plan ys HTN.out.low yt.low HTN.out.pos)
        have HT2 : Hid (∀ u, Below wr.heap.size wr u → Calls Try.prog 5 #[.slice Ay k cy, .int .i64 (m : Int)] u fun e w' => TrR (planN (yN ns m (byF xs) ns.length) m) u e w') := fun u hb => by
          have := tree_ok Ay cy gy _ m hmm1 hmm2 u ((NY.below hb).more hb.size) GY yt yp
          rw [hgy] at this
          exact this
        have HPY : Hid (∀ p, planN (yN ns m (byF xs) ns.length) m = some p → TreeN p ∧ PlainN p ∧ Rp p) := fun p hp => by
          obtain ⟨q1, q2, -⟩ := plan_means yt yp hp
          exact ⟨q1, q2, ct_rp (plan_ct yt yp hp) hmm1⟩
        have HPO : Hid (∀ p, planN ns m = some p → TreeN p ∧ PlainN p ∧ Rp p) := fun p hp => by
          obtain ⟨q1, q2, -⟩ := plan_means HTN.out HP.out hp
          exact ⟨q1, q2, ct_rp (plan_ct HTN.out HP.out hp) hmm1⟩
        have hc1 := HT.out wr ns (HB2.out.trans (hys.bel.mono HB2.out.size)) HG.out HTN.out HP.out
        have HBR := hidd (HB2.out.trans (hys.bel.mono HB2.out.size))
        clear hys HY HYS NY GY yt yp ys hgy ey2 HT HU hU0 hnl
        generalize planN ns m = R1 at *
        generalize planN (yN ns m (byF xs) ns.length) m = R2 at *
        go_wp2_with fail
        refine hc1.mono ?_
        rintro e w3 ⟨b3, h3⟩
        obtain ⟨-, A5, c5, ga, o, ev, rfl, N5, G5, ho⟩ := TrR.any ⟨b3, h3⟩
        have hc2 := HT2.out w3 b3
        have HB3 := hidd (HBR.out.trans (b3.mono HBR.out.size))
        clear hc1 HT2 h3 b3 HBR
        obtain ⟨na, hna⟩ : ∃ na, ga.length = na := ⟨_, rfl⟩
        have HNA := hidd hna
        rw [hna]
        clear hna
        go_wp2_with fail
        refine hc2.mono ?_
        rintro e w4 ⟨b4', h4⟩
        obtain ⟨-, A6, c6, gb, p, ev2, rfl, N6, G6, hp2⟩ := TrR.any ⟨b4', h4⟩
        have hSM : Sim m o p ∧ ev2 = ev ∧ (o = [] ∨ (TreeN o ∧ PlainN o ∧ Rp o)) ∧ (p = [] ∨ (TreeN p ∧ PlainN p ∧ Rp p)) := by
          have hso := HSO.out
          rcases ho with ⟨q1, q2, q3⟩ | ⟨q1, q2⟩ <;> rcases hp2 with ⟨r1, r2, r3⟩ | ⟨r1, r2⟩
          · subst q2 r2 q3 r3
            exact ⟨⟨rfl, fun i n m h => by simp at h⟩, rfl, .inl rfl, .inl rfl⟩
          · rw [q1, r1] at hso; cases hso
          · rw [q1, r1] at hso; cases hso
          · have ho1 := HPO.out o q1
            have hp1 := HPY.out p r1
            rw [q1, r1] at hso
            cases hso with
            | yes h => exact ⟨h, by rw [q2, r2], .inr ho1, .inr hp1⟩
        obtain ⟨hsim, rfl, hoo, hpp⟩ := hSM
        have hnb : gb.length = na := by rw [G6.1, hsim.len, ← G5.1]; exact HNA.out
        have hcc := sim_cnt hsim hmm1
        have N5' := (N5.below b4').more b4'.size
        have hk1 := cnt_c hoo G5 A5 c5 w4 N5'
        have HK2 : Hid (∀ u, Below w4.heap.size w4 u → Calls Try.prog 12 #[.slice A6 na c6] u fun e w' => e = .returned (.int .i64 ((ctN o : Nat) : Int)) ∧ Below u.heap.size u w') := fun u hb => by
          have := cnt_c hpp G6 A6 c6 u ((N6.below hb).more hb.size)
          rw [hnb, ← hcc] at this
          exact this
        rw [HNA.out] at hk1
        rw [hnb]
        have HN5 := hidd N5'
        have HN6 := hidd N6
        have HG5 := hidd G5
        have HG6 := hidd G6
        have HS9 := hidd hsim
        have HNB := hidd hnb
        have HB4 := hidd (HB3.out.trans (b4'.mono HB3.out.size))
        have hna2 : na ≤ 2000 := by
          rw [← HNA.out, G5.1]
          rcases hoo with q | q
          · rw [q]; exact Nat.zero_le _
          · have := q.1.few; omega
        have HML6 : Hid (∀ i, i < na → ∀ mm, (ga.getD i gd0).l.length = mm → mm ≤ 1000000) := fun i hi mm h => by
          rcases hoo with q | q
          · have : ga.length = 0 := by rw [G5.1, q]; rfl
            have := HNA.out
            omega
          · have hm : ga.getD i gd0 ∈ ga := by
              have hi2 : i < ga.length := by rw [HNA.out]; exact hi
              rw [List.getD_eq_getElem?_getD, List.getElem?_eq_getElem hi2]
              exact List.getElem_mem hi2
            have := gn_kids G5 q.1 _ hm
            omega
        clear hc2 h4 b4' N5 N5' N6 G5 G6 hsim hoo hpp hnb hcc ho hp2 HB3 HSO HPY HPO
        generalize ctN o = cn at *
        go_wp2_with fail
        refine hk1.mono ?_
        rintro e w5 ⟨rfl, b5'⟩
        have hk2 := HK2.out w5 b5'
        clear hk1 HK2
        go_wp2_with fail
        refine hk2.mono ?_
        rintro e w6 ⟨rfl, b6'⟩
        have HB6 := hidd (b5'.trans (b6'.mono b5'.size))
        clear hk2 b5' b6'
        go_wp2
        go_loopw [19, 20, 111] (fun s19 s20 s111 wr => ∃ k : Nat, k ≤ na ∧ s111 = .int .i64 (k : Int) ∧ (∀ g, s19 = .pointer (some ⟨g, 0, none⟩) → g < wr.heap.size) ∧ (∀ g, s20 = .pointer (some ⟨g, 0, none⟩) → g < wr.heap.size) ∧ Below w4.heap.size w4 wr) (fun _ _ s111 _ => na - (intOf s111).toNat)
        case atStart => exact ⟨0, Nat.zero_le _, rfl, (fun g h => by cases h), (fun g h => by cases h), HB6.out⟩
        case round =>
          obtain ⟨i, hi9, rfl, hs19, hs20, hb⟩ := hrel
          have HB := hidd hb
          by_cases hlt : i < na
          · have hiA : i < ga.length := by rw [HNA.out]; exact hlt
            have hiB : i < gb.length := by rw [HNB.out]; exact hlt
            obtain ⟨b5, f5, rfl, hb5, Ka, ca, Ia, ra⟩ := ((HN5.out.below hb).more hb.size).at_ (k := i) hiA
            obtain ⟨b6, f6, rfl, hb6, Kb, cb, Ib, rb⟩ := ((HN6.out.below hb).more hb.size).at_ (k := i) hiB
            have g5n := HG5.out.2 i hiA
            have g6n := HG6.out.2 i hiB
            have hio : i < o.length := by rw [← HG5.out.1]; exact hiA
            have hip : i < p.length := by rw [← HG6.out.1]; exact hiB
            have hs := HS9.out.at_ i o[i] p[i] (List.getElem?_eq_getElem hio) (List.getElem?_eq_getElem hip)
            have eo : o.getD i nd0 = o[i] := by rw [List.getD_eq_getElem?_getD, List.getElem?_eq_getElem hio]; rfl
            have ep : p.getD i nd0 = p[i] := by rw [List.getD_eq_getElem?_getD, List.getElem?_eq_getElem hip]; rfl
            rw [eo] at g5n
            rw [ep] at g6n
            have HEQ : Hid ((gb.getD i gd0).op = (ga.getD i gd0).op ∧ (∀ b, b < 256 → (gb.getD i gd0).s b = (ga.getD i gd0).s b) ∧ (gb.getD i gd0).l = (ga.getD i gd0).l ∧ (gb.getD i gd0).lo = (ga.getD i gd0).lo ∧ (gb.getD i gd0).nm = (ga.getD i gd0).nm ∧ ((gb.getD i gd0).hi = (ga.getD i gd0).hi ∨ ((ga.getD i gd0).op = 5 ∧ (m : Int) < (ga.getD i gd0).hi ∧ (ga.getD i gd0).hi ≤ (gb.getD i gd0).hi))) := by
              refine ⟨by rw [g6n.op, g5n.op, hs.op], fun b hb => by rw [g6n.s b hb, g5n.s b hb, hs.s], by rw [g6n.l, g5n.l, hs.l], by rw [g6n.lo, g5n.lo, hs.lo], bs_inj (by rw [g6n.nm, g5n.nm, hs.name]), ?_⟩
              rcases hs.hi with q | q
              · exact .inl (by rw [g6n.hi, g5n.hi, q])
              · exact .inr ⟨by rw [g5n.op, q.1]; rfl, by rw [g5n.hi]; exact q.2.1, by rw [g5n.hi, g6n.hi]; exact q.2.2⟩
            have hki : (i : Int) < (na : Int) := by omega
            clear hiA hiB g5n g6n hio hip hs eo ep
            have HML7 : Hid (∀ mm, (ga.getD i gd0).l.length = mm → mm ≤ 1000000) := HML6.out i hlt
            generalize ga.getD i gd0 = g5 at *
            generalize gb.getD i gd0 = g6 at *
            have hll : g6.l.length = g5.l.length := by rw [HEQ.out.2.2.1]
            obtain ⟨mm, hmm5⟩ : ∃ mm, g5.l.length = mm := ⟨_, rfl⟩
            rw [hmm5] at hll
            have hr5 : gdL g5 Ka ca = [.int .u8 g5.op, .int .u64 (W g5.s 0), .int .u64 (W g5.s 1), .int .u64 (W g5.s 2), .int .u64 (W g5.s 3), .slice Ka mm ca, .int .i64 g5.lo, .int .i64 g5.hi, .string g5.nm] := by unfold gdL; rw [hmm5]
            have hr6 : gdL g6 Kb cb = [.int .u8 g6.op, .int .u64 (W g6.s 0), .int .u64 (W g6.s 1), .int .u64 (W g6.s 2), .int .u64 (W g6.s 3), .slice Kb mm cb, .int .i64 g6.lo, .int .i64 g6.hi, .string g6.nm] := by unfold gdL; rw [hll]
            have HR5 : Hid (∀ u, Below wr.heap.size wr u → u.rangeAt b5 (f5 + i * 9) (gdL g5 Ka ca)) := fun u hu j z hz => (hu.cell (by exact hb5)).trans (ra j z hz)
            have HR6 : Hid (∀ u, Below wr.heap.size wr u → u.rangeAt b6 (f6 + i * 9) (gdL g6 Kb cb)) := fun u hu j z hz => (hu.cell (by exact hb6)).trans (rb j z hz)
            rw [hr5] at HR5
            rw [hr6] at HR6
            have HI5 := hidd (nd_row_info g5 Ka mm ca)
            have HI6 := hidd (nd_row_info g6 Kb mm cb)
            have HM6 : Hid (mm ≤ 1000000) := HML7.out mm hmm5
            have HIA := hidd Ia
            have HIB := hidd Ib
            have HMM := hidd (And.intro hmm5 hll)
            have HS19 := hidd hs19
            have HS20 := hidd hs20
            clear ra rb Ia Ib hr5 hr6 hll hmm5 hs19 hs20
            go_upto_region 24 with fail
            refine wp_region_slotsB 11 (by decide) (by kernel_rfl) (by kernel_rfl) (fun _ _ => true) 10 (by decide) (Tq.TwQ wr (ndA g5 Ka mm ca)) (Tq.PbG wr b5 f5 b6 f6 na c5 c6 i [.int .u8 g5.op, .int .u64 (W g5.s 0), .int .u64 (W g5.s 1), .int .u64 (W g5.s 2), .int .u64 (W g5.s 3), .slice Ka mm ca, .int .i64 g5.lo, .int .i64 g5.hi, .string g5.nm] [.int .u8 g6.op, .int .u64 (W g6.s 0), .int .u64 (W g6.s 1), .int .u64 (W g6.s 2), .int .u64 (W g6.s 3), .slice Kb mm cb, .int .i64 g6.lo, .int .i64 g6.hi, .string g6.nm]) Tq.EbQ (by kernel_rfl) (by kernel_rfl) (by kernel_rfl) (by kernel_rfl) ?_ ⟨bel_drew (Below.refl _ _), fun g e => ⟨HS19.out g (Option.some.inj e), fun h => by have := HS19.out g (Option.some.inj e); omega⟩, fun g e => ⟨HS20.out g (Option.some.inj e), fun h => by have := HS20.out g (Option.some.inj e); omega⟩, fun g h e _ h1 _ => by have := HS19.out g (Option.some.inj e); omega⟩ [14, 16, 18] (by kernel_rfl) ?_ ?_ ?_
            · intro t dd v u u' _ h hE
              refine ⟨h.1, fun R hR => ?_⟩
              have h2 := h.2 R hR
              unfold Tq.PbGP at hR
              split at hR
              · cases hR; exact h2
              · cases hR; exact h2
              · cases hR
            · intro _ _ u _
              refine ⟨⟨_, rfl, ?_⟩, ⟨_, rfl, ?_⟩, ⟨_, rfl, ?_⟩, trivial⟩ <;> exact ⟨fun _ h => Option.some.inj h, fun _ h => no_some h⟩
            · refine ⟨?_, ?_, ?_, ?_, ?_, ?_, ?_, ?_, ?_, ?_, ?_, trivial⟩
              · intro fl hfl a u hS hr K hK
                obtain ⟨⟨vl0, e0, g0⟩, -⟩ := hr
                obtain rfl := g0.1 _ rfl
                clear g0
                rw [if_pos (want_none rfl)]
                unfold Oper.wp
                go_simp
                exact hK _ _ ⟨fun _ h => Option.some.inj h, fun _ h => no_some h⟩ (hS.put rfl _) (eby rfl (Below.refl _ _))
              · intro fl hfl a u hS hr K hK
                obtain ⟨⟨vl0, e0, g0⟩, -⟩ := hr
                obtain rfl := g0.1 _ rfl
                clear g0
                rw [if_pos (want_none rfl)]
                unfold Oper.wp
                go_simp
                exact hK _ _ ⟨fun _ h => Option.some.inj h, fun _ h => no_some h⟩ (hS.put rfl _) (eby rfl (Below.refl _ _))
              · intro fl hfl a u hS hr K hK
                obtain ⟨⟨vl0, e0, g0⟩, ⟨vl1, e1, g1⟩, -⟩ := hr
                obtain rfl := g0.1 _ rfl
                clear g0
                obtain rfl := g1.1 _ rfl
                clear g1
                rw [if_pos (want_none rfl)]
                unfold Oper.wp
                go_simp
                exact hK _ _ ⟨fun _ h => Option.some.inj h, fun _ h => no_some h⟩ (hS.put rfl _) (eby rfl (Below.refl _ _))
              · intro fl hfl a u hS hr K hK
                obtain ⟨⟨vl0, e0, g0⟩, -⟩ := hr
                obtain rfl := g0.1 _ rfl
                clear g0
                rw [if_pos (want_none rfl)]
                refine wp_load_mid 39 (.tmp 116) rfl b5 (f5 + i * 9) (eval_at e0) [.int .u8 g5.op, .int .u64 (W g5.s 0), .int .u64 (W g5.s 1), .int .u64 (W g5.s 2), .int .u64 (W g5.s 3), .slice Ka mm ca, .int .i64 g5.lo, .int .i64 g5.hi, .string g5.nm] _ (HR5.out u hS.bel) Try.underlying39 rfl HI5.out ?_
                exact hK _ _ ⟨fun _ h => Option.some.inj h, fun _ h => no_some h⟩ (hS.put rfl _) (eby rfl (Below.refl _ _))
              · intro fl hfl a u hS hr K hK
                obtain ⟨⟨vl0, e0, g0⟩, -⟩ := hr
                obtain rfl := g0.1 _ rfl
                clear g0
                rw [if_pos (want_none rfl)]
                unfold Oper.wp
                go_simp
                exact hK _ _ ⟨fun _ h => Option.some.inj h, fun _ h => no_some h⟩ (hS.put rfl _) (eby rfl (Below.refl _ _))
              · intro fl hfl a u hS hr K hK
                obtain ⟨⟨vl0, e0, g0⟩, -⟩ := hr
                obtain rfl := g0.1 _ rfl
                clear g0
                rw [if_pos (want_none rfl)]
                unfold Oper.wp
                go_simp
                exact hK _ _ ⟨fun _ h => Option.some.inj h, fun _ h => no_some h⟩ (hS.put rfl _) (eby rfl (Below.refl _ _))
              · intro fl hfl a u hS hr K hK
                obtain ⟨⟨vl0, e0, g0⟩, ⟨vl1, e1, g1⟩, -⟩ := hr
                obtain rfl := g0.1 _ rfl
                clear g0
                obtain rfl := g1.1 _ rfl
                clear g1
                rw [if_pos (want_none rfl)]
                unfold Oper.wp
                go_simp
                exact hK _ _ ⟨fun _ h => Option.some.inj h, fun _ h => no_some h⟩ (hS.put rfl _) (eby rfl (Below.refl _ _))
              · intro fl hfl a u hS hr K hK
                obtain ⟨⟨vl0, e0, g0⟩, -⟩ := hr
                obtain rfl := g0.1 _ rfl
                clear g0
                rw [if_pos (want_none rfl)]
                refine wp_load_mid 39 (.tmp 120) rfl b6 (f6 + i * 9) (eval_at e0) [.int .u8 g6.op, .int .u64 (W g6.s 0), .int .u64 (W g6.s 1), .int .u64 (W g6.s 2), .int .u64 (W g6.s 3), .slice Kb mm cb, .int .i64 g6.lo, .int .i64 g6.hi, .string g6.nm] _ (HR6.out u hS.bel) Try.underlying39 rfl HI6.out ?_
                exact hK _ _ ⟨fun _ h => Option.some.inj h, fun _ h => no_some h⟩ (hS.put rfl _) (eby rfl (Below.refl _ _))
              · intro fl hfl a u hS hr K hK
                rw [if_pos (want_none rfl)]
                unfold Oper.wp
                go_simp
                exact hK _ _ ⟨fun _ h => no_some h, fun _ h => spec_ok h ⟨_, rfl, hS.bel.size⟩⟩ (by obtain rfl := hfl (by kernel_rfl); exact hS.new19) (eby rfl ((Below.refl _ _).alloc (Nat.le_refl _) _))
              · intro fl hfl a u hS hr K hK
                rw [if_pos (want_none rfl)]
                unfold Oper.wp
                go_simp
                exact hK _ _ ⟨fun _ h => no_some h, fun _ h => spec_ok h ⟨_, rfl, hS.bel.size⟩⟩ hS.new20 (eby rfl ((Below.refl _ _).alloc (Nat.le_refl _) _))
              · intro fl hfl a u hS hr K hK
                obtain ⟨⟨vl0, e0, g0⟩, ⟨vl1, e1, g1⟩, -⟩ := hr
                replace g0 := g0.2 _ rfl
                replace g1 := g1.1 _ rfl
                obtain ⟨q, rfl, hq⟩ := g0
                subst g1
                obtain rfl := hfl (by kernel_rfl)
                rw [if_pos (want_none rfl)]
                obtain ⟨h1, h2⟩ := hS.p19 q e0
                have r := (h2 hq).1 rfl
                refine wp_store_row 39 (.tmp 19) (.tmp 117) rfl q (ndA g5 Ka mm ca) (eval_at e0) (eval_at e1) 39 zeroC r (nd_arr_info g5 Ka mm ca) rfl (nd_arr_one g5 Ka mm ca) ?_
                exact hK _ _ trivial ((hS.lay e0 hq).put rfl _) (.inr ⟨q, _, _, r, rfl⟩)
            intro a u5 hS hts hd hkn hf
            obtain ⟨v114, e114, g114⟩ := hf 0 _ 114 (by decide) rfl rfl (fun _ => rfl)
            obtain ⟨v115, e115, g115⟩ := hf 1 _ 115 (by decide) rfl rfl (fun _ => rfl)
            obtain ⟨v116, e116, g116⟩ := hf 2 _ 116 (by decide) rfl rfl (fun _ => rfl)
            obtain ⟨v117, e117, g117⟩ := hf 3 _ 117 (by decide) rfl rfl (fun _ => rfl)
            obtain ⟨v118, e118, g118⟩ := hf 4 _ 118 (by decide) rfl rfl (fun _ => rfl)
            obtain ⟨v119, e119, g119⟩ := hf 5 _ 119 (by decide) rfl rfl (fun _ => rfl)
            obtain ⟨v120, e120, g120⟩ := hf 6 _ 120 (by decide) rfl rfl (fun _ => rfl)
            obtain ⟨v121, e121, g121⟩ := hf 7 _ 121 (by decide) rfl rfl (fun _ => rfl)
            obtain ⟨v19, e19, g19⟩ := hf 8 _ 19 (by decide) rfl rfl (fun _ => rfl)
            obtain ⟨v20, e20, g20⟩ := hf 9 _ 20 (by decide) rfl rfl (fun _ => rfl)
            have hA := act_puts [(114, v114), (115, v115), (116, v116), (117, v117), (118, v118), (119, v119), (120, v120), (121, v121), (19, v19), (20, v20)] hts hd hkn (by kernel_rfl) (by simp [e114, e115, e116, e117, e118, e119, e120, e121, e19, e20])
            have hfar := fun (g h : Nat) (p : v19 = .pointer (some ⟨g, 0, none⟩)) (q : v20 = .pointer (some ⟨h, 0, none⟩)) => hS.far g h (p ▸ e19) (q ▸ e20)
            have k19 := fun (g : Nat) (p : v19 = .pointer (some ⟨g, 0, none⟩)) => hS.p19 g (p ▸ e19)
            have k20 := fun (g : Nat) (p : v20 = .pointer (some ⟨g, 0, none⟩)) => hS.p20 g (p ▸ e20)
            have hbS := hS.bel
            clear hS
            clear hf hts hd hkn e114 e115 e116 e117 e118 e119 e120 e121 e19 e20
            obtain rfl := g114.1 _ rfl
            clear g114
            obtain rfl := g115.1 _ rfl
            clear g115
            obtain rfl := g116.1 _ rfl
            clear g116
            obtain rfl := g117.1 _ rfl
            clear g117
            obtain rfl := g118.1 _ rfl
            clear g118
            obtain rfl := g119.1 _ rfl
            clear g119
            obtain rfl := g120.1 _ rfl
            clear g120
            obtain rfl := g121.1 _ rfl
            clear g121
            replace g19 := g19.2 _ rfl
            replace g20 := g20.2 _ rfl
            subst hA
            simp only [List.foldl, List.setIfInBounds_toArray, List.set_cons_zero, List.set_cons_succ]
            simp only [List.drop_succ_cons, List.drop_zero]
            obtain ⟨q1, rfl, l1⟩ := g19
            obtain ⟨q2, rfl, l2⟩ := g20
            have hne := hfar q1 q2 rfl rfl l1 l2
            have S1 := ((k19 q1 rfl).2 l1).2 rfl
            have r2 := (k20 q2 rfl).2 l2
            have S2 := r2.row (ndA g6 Kb mm cb)
            have S1b : RowA (u5.setRow q2 (ndA g6 Kb mm cb)) q1 39 (ndA g5 Ka mm ca) := (setRow_other u5 q2 q1 _ (by omega)).trans S1
            have HBX := hidd (bel_setRow hbS q2 (ndA g6 Kb mm cb) l2)
            clear hfar hbS k19 k20
            go_upto_region 25 with (refine wpList_store_row rfl 39 (.tmp 20) (.tmp 121) rfl q2 (ndA g6 Kb mm cb) rfl rfl 39 zeroC r2 (nd_arr_info g6 Kb mm cb) rfl (nd_arr_one g6 Kb mm cb) ?_)
            generalize u5.setRow q2 (ndA g6 Kb mm cb) = u7 at *
            have HB7 := hidd (HB.out.trans (HBX.out.mono HB.out.size))
            have HBW7 : Hid (Below wr.heap.size wr u7) := HBX.out
            have HW7 : Hid (wr.heap.size ≤ u7.heap.size) := HBX.out.size
            have HS1 := hidd S1b
            have HS2 := hidd S2
            have y0 : u7.cell? ⟨q1, 0, none⟩ = some (.int .u8 g5.op) := S1b.at_ rfl
            have y7 : u7.cell? ⟨q1, 7, none⟩ = some (.int .i64 g5.hi) := S1b.at_ rfl
            have z7 : u7.cell? ⟨q2, 7, none⟩ = some (.int .i64 g6.hi) := S2.at_ rfl
            have tq2 := S2.thawed
            have HL9 : Hid (wr.heap.size ≤ q2) := l2
            clear r2 S1 S2 S1b l1 l2 HBX HR5 HR6 HI5 HI6 HS19 HS20
            by_cases h5 : g5.op = 5
            · have h5b : (g5.op == 5) = true := by simp [h5]
              by_cases hgt : (m : Int) < g5.hi
              · have hle : ¬ g6.hi < g5.hi := by
                  rcases HEQ.out.2.2.2.2.2 with q | q
                  · omega
                  · omega
                have HGQ : Hid (hiG g6 g5.hi = ⟨g5.op, g6.s, g5.l, g5.lo, g5.hi, g5.nm⟩) := by
                  show _ = _
                  unfold hiG
                  rw [HEQ.out.1, HEQ.out.2.2.1, HEQ.out.2.2.2.1, HEQ.out.2.2.2.2.1]
                clear h5
                go_upto_region 29 with fail
                have HS2 : Hid (RowA (u7.setCell ⟨q2, 7, none⟩ (.int .i64 g5.hi)) q2 39 (ndA (hiG g6 g5.hi) Kb mm cb)) := HS2.out.set 7 (.int .i64 g5.hi)
                have HS1 : Hid (RowA (u7.setCell ⟨q2, 7, none⟩ (.int .i64 g5.hi)) q1 39 (ndA g5 Ka mm ca)) := HS1.out.far (a := ⟨q2, 7, none⟩) (by show q1 ≠ q2; omega) _
                have HBW7 := hidd (bel_set HBW7.out ⟨q2, 7, none⟩ (.int .i64 g5.hi) HL9.out)
                have HW7 := hidd HBW7.out.size
                have HB7 := hidd (bel_set HB7.out ⟨q2, 7, none⟩ (.int .i64 g5.hi) (by show _ ≤ q2; exact Nat.le_trans HB.out.size HL9.out))
                generalize u7.setCell ⟨q2, 7, none⟩ (.int .i64 g5.hi) = u7 at *
                clear y0 y7 z7 tq2 hle hgt h5b
                obtain ⟨a0, a1, a2, a3, a4, a5, a6, a7, a8⟩ : u7.cell? ⟨q1, 0, none⟩ = some (.int .u8 g5.op) ∧ u7.cell? ⟨q1, 1, none⟩ = some (.int .u64 (W g5.s 0)) ∧ u7.cell? ⟨q1, 2, none⟩ = some (.int .u64 (W g5.s 1)) ∧ u7.cell? ⟨q1, 3, none⟩ = some (.int .u64 (W g5.s 2)) ∧ u7.cell? ⟨q1, 4, none⟩ = some (.int .u64 (W g5.s 3)) ∧ u7.cell? ⟨q1, 5, none⟩ = some (.slice Ka mm ca) ∧ u7.cell? ⟨q1, 6, none⟩ = some (.int .i64 g5.lo) ∧ u7.cell? ⟨q1, 7, none⟩ = some (.int .i64 g5.hi) ∧ u7.cell? ⟨q1, 8, none⟩ = some (.string g5.nm) := ⟨HS1.out.at_ rfl, HS1.out.at_ rfl, HS1.out.at_ rfl, HS1.out.at_ rfl, HS1.out.at_ rfl, HS1.out.at_ rfl, HS1.out.at_ rfl, HS1.out.at_ rfl, HS1.out.at_ rfl⟩
                have bA : Below u7.heap.size u7 (u7.alloc (.cells (ndA g5 Ka mm ca) 39)) := (Below.refl _ _).alloc (Nat.le_refl _) _
                have sA : (u7.alloc (.cells (ndA g5 Ka mm ca) 39)).heap.size = u7.heap.size + 1 := World.size_alloc ..
                have rA := RowA.new u7 39 (ndA g5 Ka mm ca)
                have rB := RowA.new (u7.alloc (.cells (ndA g5 Ka mm ca) 39)) 39 (ndA (hiG g6 g5.hi) Kb mm cb)
                have bB : Below (u7.heap.size + 1) (u7.alloc (.cells (ndA g5 Ka mm ca) 39)) ((u7.alloc (.cells (ndA g5 Ka mm ca) 39)).alloc (.cells (ndA (hiG g6 g5.hi) Kb mm cb) 39)) := (Below.refl _ _).alloc (by omega) _
                have bAB : Below u7.heap.size u7 ((u7.alloc (.cells (ndA g5 Ka mm ca) 39)).alloc (.cells (ndA (hiG g6 g5.hi) Kb mm cb) 39)) := bA.trans (bB.mono (by omega))
                rw [sA] at rB
                have rA2 := rA.below bB (by omega)
                obtain ⟨c0, c1, c2', c3, c4, c5', c6', c7, c8⟩ : (u7.alloc (.cells (ndA g5 Ka mm ca) 39)).cell? ⟨q2, 0, none⟩ = some (.int .u8 (hiG g6 g5.hi).op) ∧ (u7.alloc (.cells (ndA g5 Ka mm ca) 39)).cell? ⟨q2, 1, none⟩ = some (.int .u64 (W (hiG g6 g5.hi).s 0)) ∧ (u7.alloc (.cells (ndA g5 Ka mm ca) 39)).cell? ⟨q2, 2, none⟩ = some (.int .u64 (W (hiG g6 g5.hi).s 1)) ∧ (u7.alloc (.cells (ndA g5 Ka mm ca) 39)).cell? ⟨q2, 3, none⟩ = some (.int .u64 (W (hiG g6 g5.hi).s 2)) ∧ (u7.alloc (.cells (ndA g5 Ka mm ca) 39)).cell? ⟨q2, 4, none⟩ = some (.int .u64 (W (hiG g6 g5.hi).s 3)) ∧ (u7.alloc (.cells (ndA g5 Ka mm ca) 39)).cell? ⟨q2, 5, none⟩ = some (.slice Kb mm cb) ∧ (u7.alloc (.cells (ndA g5 Ka mm ca) 39)).cell? ⟨q2, 6, none⟩ = some (.int .i64 (hiG g6 g5.hi).lo) ∧ (u7.alloc (.cells (ndA g5 Ka mm ca) 39)).cell? ⟨q2, 7, none⟩ = some (.int .i64 (hiG g6 g5.hi).hi) ∧ (u7.alloc (.cells (ndA g5 Ka mm ca) 39)).cell? ⟨q2, 8, none⟩ = some (.string (hiG g6 g5.hi).nm) := by
                  have h := HS2.out.below bA HS2.out.lt
                  exact ⟨h.at_ rfl, h.at_ rfl, h.at_ rfl, h.at_ rfl, h.at_ rfl, h.at_ rfl, h.at_ rfl, h.at_ rfl, h.at_ rfl⟩
                have hc : Calls Try.prog 9 #[.slice (some ⟨u7.heap.size, 0, none⟩) 1 1, .slice (some ⟨u7.heap.size + 1, 0, none⟩) 1 1] ((u7.alloc (.cells (ndA g5 Ka mm ca) 39)).alloc (.cells (ndA (hiG g6 g5.hi) Kb mm cb) 39)) fun e w' => e = .returned (.bool true) ∧ Below ((u7.alloc (.cells (ndA g5 Ka mm ca) 39)).alloc (.cells (ndA (hiG g6 g5.hi) Kb mm cb) 39)).heap.size ((u7.alloc (.cells (ndA g5 Ka mm ca) 39)).alloc (.cells (ndA (hiG g6 g5.hi) Kb mm cb) 39)) w' := by
                  have hb9 := HB7.out.trans (bAB.mono HB7.out.size)
                  have e5 : ndA g5 Ka mm ca = (gdL g5 Ka ca).toArray := by unfold gdL; rw [HMM.out.1]
                  have e6 : ndA (hiG g6 g5.hi) Kb mm cb = (gdL (hiG g6 g5.hi) Kb cb).toArray := by first | (unfold gdL hiG; rw [HMM.out.2]) | (unfold gdL; rw [HMM.out.2])
                  have R5 : RowA ((u7.alloc (.cells (ndA g5 Ka mm ca) 39)).alloc (.cells (ndA (hiG g6 g5.hi) Kb mm cb) 39)) u7.heap.size 39 (gdL g5 Ka ca).toArray := by rw [← e5]; exact rA2
                  have R6 : RowA ((u7.alloc (.cells (ndA g5 Ka mm ca) 39)).alloc (.cells (ndA (hiG g6 g5.hi) Kb mm cb) 39)) (u7.heap.size + 1) 39 (gdL (hiG g6 g5.hi) Kb cb).toArray := by rw [← e6]; exact rB
                  have hwr9 : wr.heap.size ≤ ((u7.alloc (.cells (ndA g5 Ka mm ca) 39)).alloc (.cells (ndA (hiG g6 g5.hi) Kb mm cb) 39)).heap.size := Nat.le_trans HW7.out bAB.size
                  have I5 : Its ((u7.alloc (.cells (ndA g5 Ka mm ca) 39)).alloc (.cells (ndA (hiG g6 g5.hi) Kb mm cb) 39)) ((u7.alloc (.cells (ndA g5 Ka mm ca) 39)).alloc (.cells (ndA (hiG g6 g5.hi) Kb mm cb) 39)).heap.size Ka g5.l := (HIA.out.below (HBW7.out.trans (bAB.mono HW7.out))).more hwr9
                  have I6 : Its ((u7.alloc (.cells (ndA g5 Ka mm ca) 39)).alloc (.cells (ndA (hiG g6 g5.hi) Kb mm cb) 39)) ((u7.alloc (.cells (ndA g5 Ka mm ca) 39)).alloc (.cells (ndA (hiG g6 g5.hi) Kb mm cb) 39)).heap.size Kb (hiG g6 g5.hi).l := (HIB.out.below (HBW7.out.trans (bAB.mono HW7.out))).more hwr9
                  refine same_any (some ⟨u7.heap.size, 0, none⟩) (some ⟨u7.heap.size + 1, 0, none⟩) 1 1 [g5] [hiG g6 g5.hi] ((u7.alloc (.cells (ndA g5 Ka mm ca) 39)).alloc (.cells (ndA (hiG g6 g5.hi) Kb mm cb) 39)) (nds_one R5 I5) (nds_one R6 I6) ⟨rfl, fun i hi => ?_⟩ (by show 1 ≤ _; omega) (fun x hx => by rw [List.mem_singleton] at hx; subst hx; rw [HMM.out.1]; exact HM6.out)
                  have hi : i < 1 := hi
                  have : i = 0 := by omega
                  subst this
                  exact ⟨HEQ.out.1.symm, fun b hb => (HEQ.out.2.1 b hb).symm, HEQ.out.2.2.1.symm, HEQ.out.2.2.2.1.symm, by first | rfl | exact HH.out.symm, HEQ.out.2.2.2.2.1.symm⟩
                have hlt1 := HS1.out.lt
                have hlt2 := HS2.out.lt
                clear bA rA rB bB rA2
                go_wp2_with fail
                refine hc.mono ?_
                rintro e w9 ⟨rfl, b9⟩
                have HB9 := hidd (HB7.out.trans ((bAB.trans (b9.mono bAB.size)).mono HB7.out.size))
                have hsz : u7.heap.size ≤ w9.heap.size := Nat.le_trans bAB.size b9.size
                have HQ9 : Hid (q1 < w9.heap.size ∧ q2 < w9.heap.size) := ⟨by omega, by omega⟩
                clear hc bAB b9 hsz hlt1 hlt2 a0 a1 a2 a3 a4 a5 a6 a7 a8 c0 c1 c2' c3 c4 c5' c6' c7 c8 sA
                go_wp2
                exact ⟨⟨i + 1, by omega, rfl, (fun g h => by cases h; exact HQ9.out.1), (fun g h => by cases h; exact HQ9.out.2), HB9.out⟩, by simp [intOf]; omega⟩
              · have HH : Hid (g6.hi = g5.hi) := by
                  rcases HEQ.out.2.2.2.2.2 with q | q
                  · exact q
                  · exact absurd q.2.1 hgt
                clear h5
                go_upto_region 29 with fail
                clear y0 y7 z7 tq2 hgt h5b
                obtain ⟨a0, a1, a2, a3, a4, a5, a6, a7, a8⟩ : u7.cell? ⟨q1, 0, none⟩ = some (.int .u8 g5.op) ∧ u7.cell? ⟨q1, 1, none⟩ = some (.int .u64 (W g5.s 0)) ∧ u7.cell? ⟨q1, 2, none⟩ = some (.int .u64 (W g5.s 1)) ∧ u7.cell? ⟨q1, 3, none⟩ = some (.int .u64 (W g5.s 2)) ∧ u7.cell? ⟨q1, 4, none⟩ = some (.int .u64 (W g5.s 3)) ∧ u7.cell? ⟨q1, 5, none⟩ = some (.slice Ka mm ca) ∧ u7.cell? ⟨q1, 6, none⟩ = some (.int .i64 g5.lo) ∧ u7.cell? ⟨q1, 7, none⟩ = some (.int .i64 g5.hi) ∧ u7.cell? ⟨q1, 8, none⟩ = some (.string g5.nm) := ⟨HS1.out.at_ rfl, HS1.out.at_ rfl, HS1.out.at_ rfl, HS1.out.at_ rfl, HS1.out.at_ rfl, HS1.out.at_ rfl, HS1.out.at_ rfl, HS1.out.at_ rfl, HS1.out.at_ rfl⟩
                have bA : Below u7.heap.size u7 (u7.alloc (.cells (ndA g5 Ka mm ca) 39)) := (Below.refl _ _).alloc (Nat.le_refl _) _
                have sA : (u7.alloc (.cells (ndA g5 Ka mm ca) 39)).heap.size = u7.heap.size + 1 := World.size_alloc ..
                have rA := RowA.new u7 39 (ndA g5 Ka mm ca)
                have rB := RowA.new (u7.alloc (.cells (ndA g5 Ka mm ca) 39)) 39 (ndA (g6) Kb mm cb)
                have bB : Below (u7.heap.size + 1) (u7.alloc (.cells (ndA g5 Ka mm ca) 39)) ((u7.alloc (.cells (ndA g5 Ka mm ca) 39)).alloc (.cells (ndA (g6) Kb mm cb) 39)) := (Below.refl _ _).alloc (by omega) _
                have bAB : Below u7.heap.size u7 ((u7.alloc (.cells (ndA g5 Ka mm ca) 39)).alloc (.cells (ndA (g6) Kb mm cb) 39)) := bA.trans (bB.mono (by omega))
                rw [sA] at rB
                have rA2 := rA.below bB (by omega)
                obtain ⟨c0, c1, c2', c3, c4, c5', c6', c7, c8⟩ : (u7.alloc (.cells (ndA g5 Ka mm ca) 39)).cell? ⟨q2, 0, none⟩ = some (.int .u8 (g6).op) ∧ (u7.alloc (.cells (ndA g5 Ka mm ca) 39)).cell? ⟨q2, 1, none⟩ = some (.int .u64 (W (g6).s 0)) ∧ (u7.alloc (.cells (ndA g5 Ka mm ca) 39)).cell? ⟨q2, 2, none⟩ = some (.int .u64 (W (g6).s 1)) ∧ (u7.alloc (.cells (ndA g5 Ka mm ca) 39)).cell? ⟨q2, 3, none⟩ = some (.int .u64 (W (g6).s 2)) ∧ (u7.alloc (.cells (ndA g5 Ka mm ca) 39)).cell? ⟨q2, 4, none⟩ = some (.int .u64 (W (g6).s 3)) ∧ (u7.alloc (.cells (ndA g5 Ka mm ca) 39)).cell? ⟨q2, 5, none⟩ = some (.slice Kb mm cb) ∧ (u7.alloc (.cells (ndA g5 Ka mm ca) 39)).cell? ⟨q2, 6, none⟩ = some (.int .i64 (g6).lo) ∧ (u7.alloc (.cells (ndA g5 Ka mm ca) 39)).cell? ⟨q2, 7, none⟩ = some (.int .i64 (g6).hi) ∧ (u7.alloc (.cells (ndA g5 Ka mm ca) 39)).cell? ⟨q2, 8, none⟩ = some (.string (g6).nm) := by
                  have h := HS2.out.below bA HS2.out.lt
                  exact ⟨h.at_ rfl, h.at_ rfl, h.at_ rfl, h.at_ rfl, h.at_ rfl, h.at_ rfl, h.at_ rfl, h.at_ rfl, h.at_ rfl⟩
                have hc : Calls Try.prog 9 #[.slice (some ⟨u7.heap.size, 0, none⟩) 1 1, .slice (some ⟨u7.heap.size + 1, 0, none⟩) 1 1] ((u7.alloc (.cells (ndA g5 Ka mm ca) 39)).alloc (.cells (ndA (g6) Kb mm cb) 39)) fun e w' => e = .returned (.bool true) ∧ Below ((u7.alloc (.cells (ndA g5 Ka mm ca) 39)).alloc (.cells (ndA (g6) Kb mm cb) 39)).heap.size ((u7.alloc (.cells (ndA g5 Ka mm ca) 39)).alloc (.cells (ndA (g6) Kb mm cb) 39)) w' := by
                  have hb9 := HB7.out.trans (bAB.mono HB7.out.size)
                  have e5 : ndA g5 Ka mm ca = (gdL g5 Ka ca).toArray := by unfold gdL; rw [HMM.out.1]
                  have e6 : ndA (g6) Kb mm cb = (gdL (g6) Kb cb).toArray := by first | (unfold gdL hiG; rw [HMM.out.2]) | (unfold gdL; rw [HMM.out.2])
                  have R5 : RowA ((u7.alloc (.cells (ndA g5 Ka mm ca) 39)).alloc (.cells (ndA (g6) Kb mm cb) 39)) u7.heap.size 39 (gdL g5 Ka ca).toArray := by rw [← e5]; exact rA2
                  have R6 : RowA ((u7.alloc (.cells (ndA g5 Ka mm ca) 39)).alloc (.cells (ndA (g6) Kb mm cb) 39)) (u7.heap.size + 1) 39 (gdL (g6) Kb cb).toArray := by rw [← e6]; exact rB
                  have hwr9 : wr.heap.size ≤ ((u7.alloc (.cells (ndA g5 Ka mm ca) 39)).alloc (.cells (ndA (g6) Kb mm cb) 39)).heap.size := Nat.le_trans HW7.out bAB.size
                  have I5 : Its ((u7.alloc (.cells (ndA g5 Ka mm ca) 39)).alloc (.cells (ndA (g6) Kb mm cb) 39)) ((u7.alloc (.cells (ndA g5 Ka mm ca) 39)).alloc (.cells (ndA (g6) Kb mm cb) 39)).heap.size Ka g5.l := (HIA.out.below (HBW7.out.trans (bAB.mono HW7.out))).more hwr9
                  have I6 : Its ((u7.alloc (.cells (ndA g5 Ka mm ca) 39)).alloc (.cells (ndA (g6) Kb mm cb) 39)) ((u7.alloc (.cells (ndA g5 Ka mm ca) 39)).alloc (.cells (ndA (g6) Kb mm cb) 39)).heap.size Kb (g6).l := (HIB.out.below (HBW7.out.trans (bAB.mono HW7.out))).more hwr9
                  refine same_any (some ⟨u7.heap.size, 0, none⟩) (some ⟨u7.heap.size + 1, 0, none⟩) 1 1 [g5] [g6] ((u7.alloc (.cells (ndA g5 Ka mm ca) 39)).alloc (.cells (ndA (g6) Kb mm cb) 39)) (nds_one R5 I5) (nds_one R6 I6) ⟨rfl, fun i hi => ?_⟩ (by show 1 ≤ _; omega) (fun x hx => by rw [List.mem_singleton] at hx; subst hx; rw [HMM.out.1]; exact HM6.out)
                  have hi : i < 1 := hi
                  have : i = 0 := by omega
                  subst this
                  exact ⟨HEQ.out.1.symm, fun b hb => (HEQ.out.2.1 b hb).symm, HEQ.out.2.2.1.symm, HEQ.out.2.2.2.1.symm, by first | rfl | exact HH.out.symm, HEQ.out.2.2.2.2.1.symm⟩
                have hlt1 := HS1.out.lt
                have hlt2 := HS2.out.lt
                clear bA rA rB bB rA2
                go_wp2_with fail
                refine hc.mono ?_
                rintro e w9 ⟨rfl, b9⟩
                have HB9 := hidd (HB7.out.trans ((bAB.trans (b9.mono bAB.size)).mono HB7.out.size))
                have hsz : u7.heap.size ≤ w9.heap.size := Nat.le_trans bAB.size b9.size
                have HQ9 : Hid (q1 < w9.heap.size ∧ q2 < w9.heap.size) := ⟨by omega, by omega⟩
                clear hc bAB b9 hsz hlt1 hlt2 a0 a1 a2 a3 a4 a5 a6 a7 a8 c0 c1 c2' c3 c4 c5' c6' c7 c8 sA
                go_wp2
                exact ⟨⟨i + 1, by omega, rfl, (fun g h => by cases h; exact HQ9.out.1), (fun g h => by cases h; exact HQ9.out.2), HB9.out⟩, by simp [intOf]; omega⟩
            · have h5b : (g5.op == 5) = false := by simp [h5]
              have HH : Hid (g6.hi = g5.hi) := by
                rcases HEQ.out.2.2.2.2.2 with q | q
                · exact q
                · exact absurd q.1 h5
              clear h5
              go_upto_region 29 with fail
              clear y0 y7 z7 tq2 h5b
              obtain ⟨a0, a1, a2, a3, a4, a5, a6, a7, a8⟩ : u7.cell? ⟨q1, 0, none⟩ = some (.int .u8 g5.op) ∧ u7.cell? ⟨q1, 1, none⟩ = some (.int .u64 (W g5.s 0)) ∧ u7.cell? ⟨q1, 2, none⟩ = some (.int .u64 (W g5.s 1)) ∧ u7.cell? ⟨q1, 3, none⟩ = some (.int .u64 (W g5.s 2)) ∧ u7.cell? ⟨q1, 4, none⟩ = some (.int .u64 (W g5.s 3)) ∧ u7.cell? ⟨q1, 5, none⟩ = some (.slice Ka mm ca) ∧ u7.cell? ⟨q1, 6, none⟩ = some (.int .i64 g5.lo) ∧ u7.cell? ⟨q1, 7, none⟩ = some (.int .i64 g5.hi) ∧ u7.cell? ⟨q1, 8, none⟩ = some (.string g5.nm) := ⟨HS1.out.at_ rfl, HS1.out.at_ rfl, HS1.out.at_ rfl, HS1.out.at_ rfl, HS1.out.at_ rfl, HS1.out.at_ rfl, HS1.out.at_ rfl, HS1.out.at_ rfl, HS1.out.at_ rfl⟩
              have bA : Below u7.heap.size u7 (u7.alloc (.cells (ndA g5 Ka mm ca) 39)) := (Below.refl _ _).alloc (Nat.le_refl _) _
              have sA : (u7.alloc (.cells (ndA g5 Ka mm ca) 39)).heap.size = u7.heap.size + 1 := World.size_alloc ..
              have rA := RowA.new u7 39 (ndA g5 Ka mm ca)
              have rB := RowA.new (u7.alloc (.cells (ndA g5 Ka mm ca) 39)) 39 (ndA (g6) Kb mm cb)
              have bB : Below (u7.heap.size + 1) (u7.alloc (.cells (ndA g5 Ka mm ca) 39)) ((u7.alloc (.cells (ndA g5 Ka mm ca) 39)).alloc (.cells (ndA (g6) Kb mm cb) 39)) := (Below.refl _ _).alloc (by omega) _
              have bAB : Below u7.heap.size u7 ((u7.alloc (.cells (ndA g5 Ka mm ca) 39)).alloc (.cells (ndA (g6) Kb mm cb) 39)) := bA.trans (bB.mono (by omega))
              rw [sA] at rB
              have rA2 := rA.below bB (by omega)
              obtain ⟨c0, c1, c2', c3, c4, c5', c6', c7, c8⟩ : (u7.alloc (.cells (ndA g5 Ka mm ca) 39)).cell? ⟨q2, 0, none⟩ = some (.int .u8 (g6).op) ∧ (u7.alloc (.cells (ndA g5 Ka mm ca) 39)).cell? ⟨q2, 1, none⟩ = some (.int .u64 (W (g6).s 0)) ∧ (u7.alloc (.cells (ndA g5 Ka mm ca) 39)).cell? ⟨q2, 2, none⟩ = some (.int .u64 (W (g6).s 1)) ∧ (u7.alloc (.cells (ndA g5 Ka mm ca) 39)).cell? ⟨q2, 3, none⟩ = some (.int .u64 (W (g6).s 2)) ∧ (u7.alloc (.cells (ndA g5 Ka mm ca) 39)).cell? ⟨q2, 4, none⟩ = some (.int .u64 (W (g6).s 3)) ∧ (u7.alloc (.cells (ndA g5 Ka mm ca) 39)).cell? ⟨q2, 5, none⟩ = some (.slice Kb mm cb) ∧ (u7.alloc (.cells (ndA g5 Ka mm ca) 39)).cell? ⟨q2, 6, none⟩ = some (.int .i64 (g6).lo) ∧ (u7.alloc (.cells (ndA g5 Ka mm ca) 39)).cell? ⟨q2, 7, none⟩ = some (.int .i64 (g6).hi) ∧ (u7.alloc (.cells (ndA g5 Ka mm ca) 39)).cell? ⟨q2, 8, none⟩ = some (.string (g6).nm) := by
                have h := HS2.out.below bA HS2.out.lt
                exact ⟨h.at_ rfl, h.at_ rfl, h.at_ rfl, h.at_ rfl, h.at_ rfl, h.at_ rfl, h.at_ rfl, h.at_ rfl, h.at_ rfl⟩
              have hc : Calls Try.prog 9 #[.slice (some ⟨u7.heap.size, 0, none⟩) 1 1, .slice (some ⟨u7.heap.size + 1, 0, none⟩) 1 1] ((u7.alloc (.cells (ndA g5 Ka mm ca) 39)).alloc (.cells (ndA (g6) Kb mm cb) 39)) fun e w' => e = .returned (.bool true) ∧ Below ((u7.alloc (.cells (ndA g5 Ka mm ca) 39)).alloc (.cells (ndA (g6) Kb mm cb) 39)).heap.size ((u7.alloc (.cells (ndA g5 Ka mm ca) 39)).alloc (.cells (ndA (g6) Kb mm cb) 39)) w' := by
                have hb9 := HB7.out.trans (bAB.mono HB7.out.size)
                have e5 : ndA g5 Ka mm ca = (gdL g5 Ka ca).toArray := by unfold gdL; rw [HMM.out.1]
                have e6 : ndA (g6) Kb mm cb = (gdL (g6) Kb cb).toArray := by first | (unfold gdL hiG; rw [HMM.out.2]) | (unfold gdL; rw [HMM.out.2])
                have R5 : RowA ((u7.alloc (.cells (ndA g5 Ka mm ca) 39)).alloc (.cells (ndA (g6) Kb mm cb) 39)) u7.heap.size 39 (gdL g5 Ka ca).toArray := by rw [← e5]; exact rA2
                have R6 : RowA ((u7.alloc (.cells (ndA g5 Ka mm ca) 39)).alloc (.cells (ndA (g6) Kb mm cb) 39)) (u7.heap.size + 1) 39 (gdL (g6) Kb cb).toArray := by rw [← e6]; exact rB
                have hwr9 : wr.heap.size ≤ ((u7.alloc (.cells (ndA g5 Ka mm ca) 39)).alloc (.cells (ndA (g6) Kb mm cb) 39)).heap.size := Nat.le_trans HW7.out bAB.size
                have I5 : Its ((u7.alloc (.cells (ndA g5 Ka mm ca) 39)).alloc (.cells (ndA (g6) Kb mm cb) 39)) ((u7.alloc (.cells (ndA g5 Ka mm ca) 39)).alloc (.cells (ndA (g6) Kb mm cb) 39)).heap.size Ka g5.l := (HIA.out.below (HBW7.out.trans (bAB.mono HW7.out))).more hwr9
                have I6 : Its ((u7.alloc (.cells (ndA g5 Ka mm ca) 39)).alloc (.cells (ndA (g6) Kb mm cb) 39)) ((u7.alloc (.cells (ndA g5 Ka mm ca) 39)).alloc (.cells (ndA (g6) Kb mm cb) 39)).heap.size Kb (g6).l := (HIB.out.below (HBW7.out.trans (bAB.mono HW7.out))).more hwr9
                refine same_any (some ⟨u7.heap.size, 0, none⟩) (some ⟨u7.heap.size + 1, 0, none⟩) 1 1 [g5] [g6] ((u7.alloc (.cells (ndA g5 Ka mm ca) 39)).alloc (.cells (ndA (g6) Kb mm cb) 39)) (nds_one R5 I5) (nds_one R6 I6) ⟨rfl, fun i hi => ?_⟩ (by show 1 ≤ _; omega) (fun x hx => by rw [List.mem_singleton] at hx; subst hx; rw [HMM.out.1]; exact HM6.out)
                have hi : i < 1 := hi
                have : i = 0 := by omega
                subst this
                exact ⟨HEQ.out.1.symm, fun b hb => (HEQ.out.2.1 b hb).symm, HEQ.out.2.2.1.symm, HEQ.out.2.2.2.1.symm, by first | rfl | exact HH.out.symm, HEQ.out.2.2.2.2.1.symm⟩
              have hlt1 := HS1.out.lt
              have hlt2 := HS2.out.lt
              clear bA rA rB bB rA2
              go_wp2_with fail
              refine hc.mono ?_
              rintro e w9 ⟨rfl, b9⟩
              have HB9 := hidd (HB7.out.trans ((bAB.trans (b9.mono bAB.size)).mono HB7.out.size))
              have hsz : u7.heap.size ≤ w9.heap.size := Nat.le_trans bAB.size b9.size
              have HQ9 : Hid (q1 < w9.heap.size ∧ q2 < w9.heap.size) := ⟨by omega, by omega⟩
              clear hc bAB b9 hsz hlt1 hlt2 a0 a1 a2 a3 a4 a5 a6 a7 a8 c0 c1 c2' c3 c4 c5' c6' c7 c8 sA
              go_wp2
              exact ⟨⟨i + 1, by omega, rfl, (fun g h => by cases h; exact HQ9.out.1), (fun g h => by cases h; exact HQ9.out.2), HB9.out⟩, by simp [intOf]; omega⟩
          · clear hb
            go_wp2
            go_ret
            exact ⟨rfl, HB4.out.trans (HB.out.mono HB4.out.size)⟩
end Tq
end Go.Proofs.Ytaagkfiaccmepaa.Sy.Pl

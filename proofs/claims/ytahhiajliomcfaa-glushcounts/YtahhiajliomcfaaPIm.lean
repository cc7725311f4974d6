/- The reference's planner: any repetition. -/
import Derived.Test.YtahhiajliomcfaaPIl
import Derived.Deep.AppendLies
namespace Go.Proofs.Ytahhiajliomcfaa.Sy.Pl.Qr
open Go.RowKit Go.Proofs.Ytahhiajliomcfaa.Sy.Ap
set_option maxRecDepth 100000
set_option linter.unusedVariables false

section
variable {F F' : Nat → Prop} {B b : Nat} {At : Option Addr} {ct : Nat} {gs : List Gd} {most : Int} {w w' : World} {O : Option (List Nd)}
theorem RR.back {w1 : World} {e : Ending} (hF : ∀ q, F q → F' q) (hb : BF B F w w1) (h : RR F' B b At ct gs most w1 O e w') : RR F B b At ct gs most w O e w' := by
  obtain ⟨b1, z, h1, h2, h3⟩ := h
  exact ⟨hb.trans ⟨b1.bel, fun q hq => b1.keep q (hF q hq)⟩, z, h1, h2, h3.less hF⟩
theorem _root_.Go.Proofs.Ytahhiajliomcfaa.Sy.Pl.BF.less {w1 : World} (h : BF B F' w w1) (hF : ∀ q, F q → F' q) : BF B F w w1 := ⟨h.bel, fun q hq => h.keep q (hF q hq)⟩
theorem _root_.Go.Proofs.Ytahhiajliomcfaa.Sy.Pl.BF.row {g : Nat} {t : TypeId} {cs : Array Value} {w1 : World} (h : BF B F w w1) (hq : F g) (r : RowA w g t cs) : RowA w1 g t cs := (h.keep g hq).trans r
theorem _root_.Go.Proofs.Ytahhiajliomcfaa.Sy.Pl.BF.own {base : Nat} {e : TypeId} {sz n : Nat} {v : Value} {xs : List Value} {w1 : World} (h : BF B F w w1) (ho : w.ownsRow base e sz v n xs) (hv : ∀ k, v.ownBlock = some k → F k) : w1.ownsRow base e sz v n xs := by
  have hl := ho.lt
  obtain ⟨h1, h2⟩ := ho
  refine ⟨h1, ?_⟩
  rcases h2 with h2 | ⟨g, cap, cur, hv2, hg, hh, r⟩
  · exact .inl h2
  · have hgb : v.ownBlock = some g := by rw [hv2]; rfl
    exact .inr ⟨g, cap, cur, hv2, hg, (h.keep g (hv g hgb)).trans hh, r⟩
theorem ints_snoc1 (xs : List Int) (v : Int) : ints xs ++ [.int .i64 v] = ints (xs ++ [v]) := by simp [ints]
/-- A row that lies apart, with one number more. -/
theorem row_more {w1 w5 w7 : World} {kA : Option Addr} {j kc g7 cap7 : Nat} {r : Int} {H' : List Value}
    (b1 : BF B F w1 w5) (S5 : RS (fun x => F x ∨ (Value.slice kA j kc).ownBlock = some x) B b At ct gs most w5 O) (hF : ∀ q, F q → q < w1.heap.size) (hB : B ≤ w1.heap.size)
    (ho : w5.ownsRow w1.heap.size 3 1 (.slice kA j kc) j H') (hg : (w5.alloc (.cells #[.int .i64 r] 3)).grownBy w7 (Value.slice kA j kc).ownBlock) (hat : (Value.slice kA j kc).ownBlock = some g7 ∨ g7 = w5.heap.size + 1) (hlt : g7 < w7.heap.size) :
    BF B F w1 w7 ∧ RS (fun x => F x ∨ (Value.slice (some ⟨g7, 0, none⟩) (j + 1) cap7).ownBlock = some x) B b At ct gs most w7 O := by
  have hA : Below w5.heap.size w5 (w5.alloc (.cells #[.int .i64 r] 3)) := (Below.refl _ _).alloc (Nat.le_refl _) _
  have hs : (w5.alloc (.cells #[.int .i64 r] 3)).heap.size = w5.heap.size + 1 := World.size_alloc ..
  refine ⟨⟨bel_row (b1.bel.trans (hA.mono S5.size)) (by have := S5.size; omega) hg (fun k hk => by have := (ho.lt k hk).1; omega), fun q hq => ?_⟩, (S5.below hA).grown hg (fun k hk => .inr hk) fun q hq => ?_⟩
  · have h1 := hF q hq
    have h2 := S5.far (.inl hq)
    exact (hg.block q (by omega) (fun e => by have := (ho.lt q e.symm).1; omega)).trans ((hA.block q h2).trans (b1.keep q hq))
  · rcases hq with h | h
    · exact .inl (.inl h)
    · have e2 : g7 = q := Option.some.inj h
      rcases hat with h2 | h2
      · exact .inl (.inr (e2 ▸ h2))
      · exact .inr ⟨by omega, by omega⟩
end
/- A number more behind the row, told by a call that was just made. -/
theorem bind_tail {O' : Option (List Nd)} {T : Option (List Nd × List Nat)} {P : PF} {lo hi : Int} {rs : List Nat} (h1 : ∀ o', O' = some o' → T = some (o', rs)) (h2 : O' = none → T = none) :
    (hi = -1 → (T.bind fun q => (tailF P lo hi q.1 q.2).bind fun q => catF q.2 q.1) = (O'.bind (repeatF P 0 (-1))).bind fun o => catF (rs ++ [o.length - 1]) o) ∧
    (hi ≠ -1 → lo < hi → (T.bind fun q => (tailF P lo hi q.1 q.2).bind fun q => catF q.2 q.1) = (O'.bind (restF P (hi - lo - 1).toNat)).bind fun o => catF (rs ++ [o.length - 1]) o) ∧
    (hi ≠ -1 → ¬ lo < hi → (T.bind fun q => (tailF P lo hi q.1 q.2).bind fun q => catF q.2 q.1) = O'.bind fun o => catF rs o) := by
  cases O' with
  | none =>
    rw [h2 rfl]
    exact ⟨fun _ => rfl, fun _ _ => rfl, fun _ _ => rfl⟩
  | some o' =>
    rw [h1 o' rfl]
    refine ⟨fun h => ?_, fun h h' => ?_, fun h h' => ?_⟩
    · rw [Option.bind_some, Option.bind_some]
      unfold tailF
      rw [if_pos h]
      cases repeatF P 0 (-1) o' <;> rfl
    · rw [Option.bind_some, Option.bind_some]
      unfold tailF
      rw [if_neg h, if_pos h']
      cases restF P (hi - lo - 1).toNat o' <;> rfl
    · rw [Option.bind_some, Option.bind_some]
      unfold tailF
      rw [if_neg h, if_neg h']
      rfl
theorem row_apart {w : World} {base : Nat} {v : Value} {n : Nat} {xs : List Value} (h : w.ownsRow base 3 1 v n xs) {F : Nat → Prop} (hF : ∀ q, F q → q < base) : ∀ q, F q → v.ownBlock ≠ some q := fun q hq e => by
  have h1 := hF q hq
  have h2 := (h.lt q e).1
  omega
set_option maxHeartbeats 4000000 in
theorem rrepC {F : Nat → Prop} {B b : Nat} {At : Option Addr} {ct : Nat} {gs : List Gd} {most : Nat} {P : PF} {k : Nat} {w : World} {O : Option (List Nd)} (hP : PCr B b At ct gs (most : Int) P k) (hk : k < gs.length) {op : Nat} (hop : (gs.getD k gd0).op = (op : Int)) (hm1 : 1 ≤ most) (g : Gd) (gk ok kc : Nat) (hg1 : g.l.length = 1) {lo hi : Int} (hlo : g.lo = lo) (hhi : g.hi = hi) (q0 : 0 ≤ lo) (q1 : lo ≤ 4096) (q2 : hi = -1 ∨ (1 ≤ hi ∧ hi ≤ 4096)) (hcell : w.cell? ⟨gk, ok, none⟩ = some (.int .i64 (k : Int))) (hgk : gk < w.heap.size) (hS : RS F B b At ct gs (most : Int) w O) (hN : Nds w B At gs) :
    Calls Try.prog 76 #[.pointer (some ⟨b, 0, none⟩), .agg (gdL g (some ⟨gk, ok, none⟩) kc).toArray] w (RR F B b At ct gs (most : Int) w (O.bind (repF P (op == 2) most lo hi))) := by
  obtain ⟨hb, hBb, -, -, -⟩ := hS.lens
  obtain ⟨b1, o1, rfl, hb1, A3, c3, -, r1⟩ := hN.at_ hk
  have x0 : w.cell? ⟨b1, o1 + k * 9, none⟩ = some (.int .u8 (gs.getD k gd0).op) := r1 0 _ rfl
  rw [hop] at x0
  have hrow : (gdL g (some ⟨gk, ok, none⟩) kc).toArray = #[.int .u8 g.op, .int .u64 (W g.s 0), .int .u64 (W g.s 1), .int .u64 (W g.s 2), .int .u64 (W g.s 3), .slice (some ⟨gk, ok, none⟩) 1 kc, .int .i64 lo, .int .i64 hi, .string g.nm] := by unfold gdL; rw [hg1, hlo, hhi]
  rw [hrow]
  have hbA : Below w.heap.size w (w.alloc (.cells #[.int .u8 g.op, .int .u64 (W g.s 0), .int .u64 (W g.s 1), .int .u64 (W g.s 2), .int .u64 (W g.s 3), .slice (some ⟨gk, ok, none⟩) 1 kc, .int .i64 lo, .int .i64 hi, .string g.nm] 42)) := (Below.refl _ _).alloc (Nat.le_refl _) _
  have R1 := RowA.new w 42 #[.int .u8 g.op, .int .u64 (W g.s 0), .int .u64 (W g.s 1), .int .u64 (W g.s 2), .int .u64 (W g.s 3), .slice (some ⟨gk, ok, none⟩) 1 kc, .int .i64 lo, .int .i64 hi, .string g.nm]
  have HP := hidd hP
  have HBW0 := hidd hS.size
  have HN := hidd (hN.below (hbA.mono hS.size))
  have HBA := hidd (hS.bf hbA)
  have S1 := hS.more (F' := fun x => F x ∨ x = w.heap.size) hbA (fun q hq => hq.elim .inl (fun e => .inr ⟨by omega, by rw [e]; exact R1.lt⟩))
  have x1 := (hbA.cell (p := ⟨b1, o1 + k * 9, none⟩) (by exact Nat.lt_of_lt_of_le hb1 HBW0.out)).trans x0
  have c1 := (hbA.cell (p := ⟨gk, ok, none⟩) hgk).trans hcell
  obtain ⟨q, hq⟩ : ∃ q, w.heap.size = q := ⟨_, rfl⟩
  have y5 : (w.alloc (.cells #[.int .u8 g.op, .int .u64 (W g.s 0), .int .u64 (W g.s 1), .int .u64 (W g.s 2), .int .u64 (W g.s 3), .slice (some ⟨gk, ok, none⟩) 1 kc, .int .i64 lo, .int .i64 hi, .string g.nm] 42)).cell? ⟨w.heap.size, 5, none⟩ = some (.slice (some ⟨gk, ok, none⟩) 1 kc) := R1.at_ rfl
  have d0 := S1.lens.2.2.1
  generalize hFF : (fun x => F x ∨ x = w.heap.size) = F' at S1
  have HFF : Hid ((∀ x, F x → F' x) ∧ F' q) := by subst hFF; exact ⟨fun _ h => .inl h, .inr hq.symm⟩
  have HBW : Hid (B ≤ (w.alloc (.cells #[.int .u8 g.op, .int .u64 (W g.s 0), .int .u64 (W g.s 1), .int .u64 (W g.s 2), .int .u64 (W g.s 3), .slice (some ⟨gk, ok, none⟩) 1 kc, .int .i64 lo, .int .i64 hi, .string g.nm] 42)).heap.size) := S1.size
  have HFL : Hid (∀ x, F' x → x < (w.alloc (.cells #[.int .u8 g.op, .int .u64 (W g.s 0), .int .u64 (W g.s 1), .int .u64 (W g.s 2), .int .u64 (W g.s 3), .slice (some ⟨gk, ok, none⟩) 1 kc, .int .i64 lo, .int .i64 hi, .string g.nm] 42)).heap.size) := fun x hx => S1.far hx
  obtain ⟨RES, hRES⟩ : ∃ RES, O.bind (repF P (op == 2) most lo hi) = RES := ⟨_, rfl⟩
  have HREP := hidd hRES
  rw [hRES]
  obtain ⟨ll, hll⟩ : ∃ ll, gs.length = ll := ⟨_, rfl⟩
  rw [hll] at d0
  have hki : (k : Int) < (ll : Int) := by omega
  have HS1 := hidd S1
  have HR1 := hidd R1
  clear hP hS hN r1 hop hFF hRES hll hk S1 R1 hrow hg1 hlo hhi x0 hcell hgk hbA
  go_enter Try.func76, Try.ntmps76
  go_upto_region 3 with fail
  generalize w.alloc (.cells #[.int .u8 g.op, .int .u64 (W g.s 0), .int .u64 (W g.s 1), .int .u64 (W g.s 2), .int .u64 (W g.s 3), .slice (some ⟨gk, ok, none⟩) 1 kc, .int .i64 lo, .int .i64 hi, .string g.nm] 42) = w1 at *
  rw [hq] at HR1
  clear hq x1 c1 y5 d0 hki
  have HBQ : Hid (BF B F' w1 w1) := BF.refl _ _ _
  have HR0 := HR1
  obtain ⟨y6, y7⟩ : w1.cell? ⟨q, 6, none⟩ = some (.int .i64 lo) ∧ w1.cell? ⟨q, 7, none⟩ = some (.int .i64 hi) := ⟨HR1.out.at_ rfl, HR1.out.at_ rfl⟩
  have d1 := HS1.out.lens.2.2.2.1
  by_cases h2 : op = 2
  · subst h2
    by_cases hgt : (most : Int) < hi
    · have hgd : decide ((most : Int) < hi) = true := decide_eq_true hgt
      go_wp2
      go_quiet (fail)
      have HQ2 := hidd (HS1.out.below (bel_drewN (Below.refl _ _) nq))
      have HR2 := hidd (HR1.out.drewN nq)
      have HB2 := hidd (HBQ.out.trans (HS1.out.bf (bel_drewN (Below.refl _ _) nq)))
      clear y6 y7 d1 HS1 HR1 HBQ
      generalize w1.drewN nq = w2 at *
      have HS1 := HQ2
      have HR1 := HR2
      have HBQ := HB2
      clear HQ2 HR2 HB2
      obtain ⟨y6, y7⟩ : w2.cell? ⟨q, 6, none⟩ = some (.int .i64 lo) ∧ w2.cell? ⟨q, 7, none⟩ = some (.int .i64 (hi)) := ⟨HR1.out.at_ rfl, HR1.out.at_ rfl⟩
      have d1 := HS1.out.lens.2.2.2.1
      by_cases hl0 : lo = 0
      · subst hl0
        have hc := rput0 HS1.out 1 0 0
        have HR : Hid (RES = (O.bind fun o => putF ⟨1, noS, [], 0, 0, []⟩ o).bind fun o1 => ((P o1).bind fun o2 => putF ⟨5, noS, [o2.length - 1], 1, hi, []⟩ o2).bind fun o3 => putF ⟨4, noS, [o1.length - 1, o3.length - 1], 0, 0, []⟩ o3) := by
          show RES = _
          rw [← HREP.out]
          have e : ∀ o, repF P (2 == 2) most 0 hi o = (putF ndEmpty o).bind fun o1 => (repeatF P 1 hi o1).bind fun o2 => putF (ndAlt [o1.length - 1, o2.length - 1]) o2 := fun o => by
            unfold repF; rw [if_pos ⟨rfl, hgt⟩, if_pos rfl]
          cases O with
          | none => rfl
          | some o => rw [Option.bind_some, e]; rfl
        clear HREP d1
        generalize (O.bind fun o => putF ⟨1, noS, [], 0, 0, []⟩ o) = O1 at *
        have HX : Hid (RR F' B b (some ⟨b1, o1, none⟩) ct gs (most : Int) w2 O1 = RR F' B b (some ⟨b1, o1, none⟩) ct gs (most : Int) w2 O1) := rfl
        clear HX
        have HC := hidd hc
        clear hc
        go_wp2_with fail
        refine HC.out.mono ?_
        rintro e w3 ⟨b3, z3, rfl, hz3, S3⟩
        have HB3 := hidd (HBQ.out.trans b3)
        have hc := HP.out F' w3 O1 S3 (HN.out.below HB3.out.bel)
        have R3 := HB3.out.row HFF.out.2 HR0.out
        have HR3 := hidd R3
        have HZ : Hid (∀ x, O1 = some x → z3 = ((x.length - 1 : Nat) : Int)) := hz3
        clear HC S3 R3 hz3 y6 y7 b3
        go_wp2_with fail
        refine hc.mono ?_
        rintro e w4 ⟨b4, z4, rfl, hz4, S4⟩
        have HB4 := hidd (HB3.out.trans b4)
        have R4 := b4.row HFF.out.2 HR3.out
        obtain ⟨y6, y7⟩ : w4.cell? ⟨q, 6, none⟩ = some (.int .i64 0) ∧ w4.cell? ⟨q, 7, none⟩ = some (.int .i64 hi) := ⟨R4.at_ rfl, R4.at_ rfl⟩
        obtain ⟨v6, v7⟩ : (w4.alloc (.cells #[.int .i64 z4] 3)).cell? ⟨q, 6, none⟩ = some (.int .i64 0) ∧ (w4.alloc (.cells #[.int .i64 z4] 3)).cell? ⟨q, 7, none⟩ = some (.int .i64 hi) := by
          have hb5 : Below w4.heap.size w4 (w4.alloc (.cells #[.int .i64 z4] 3)) := (Below.refl _ _).alloc (Nat.le_refl _) _
          exact ⟨(R4.below hb5 R4.lt).at_ rfl, (R4.below hb5 R4.lt).at_ rfl⟩
        have hc := rput1 S4 5 z4 1 hi (fun o => o.length - 1) hz4
        have HR : Hid (RES = ((O1.bind P).bind fun o2 => putF ⟨5, noS, [o2.length - 1], 1, hi, []⟩ o2).bind fun o3 => putF ⟨4, noS, [(O1.map (fun o : List Nd => o.length - 1)).getD 0, o3.length - 1], 0, 0, []⟩ o3) := by
          show RES = _
          rw [HR.out]
          cases O1 <;> rfl
        have HZ2 : Hid (∀ x, ((O1.bind P).bind fun o2 => putF ⟨5, noS, [o2.length - 1], 1, hi, []⟩ o2) = some x → z3 = (((O1.map (fun o : List Nd => o.length - 1)).getD 0 : Nat) : Int)) := fun x hx => by
          cases O1 with
          | none => cases hx
          | some o1 => exact HZ.out o1 rfl
        clear R4 HR3 S4 hz4 b4 HZ
        generalize (O1.map (fun o : List Nd => o.length - 1)).getD 0 = y0 at *
        generalize ((O1.bind P).bind fun o2 => putF ⟨5, noS, [o2.length - 1], 1, hi, []⟩ o2) = O3 at *
        go_wp2_with fail
        refine hc.mono ?_
        rintro e w5 ⟨b5, z5, rfl, hz5, S5⟩
        have HB5 := hidd (HB4.out.trans b5)
        have R5 := HB5.out.row HFF.out.2 HR0.out
        obtain ⟨y6, y7⟩ : w5.cell? ⟨q, 6, none⟩ = some (.int .i64 0) ∧ w5.cell? ⟨q, 7, none⟩ = some (.int .i64 hi) := ⟨R5.at_ rfl, R5.at_ rfl⟩
        have hc := rput2 S5 4 z3 z5 0 0 (fun _ => y0) (fun o => o.length - 1) HZ2.out hz5
        rw [← HR.out] at hc
        clear R5 S5 hz5 b5 HR HZ2 v6 v7
        go_wp2_with fail
        refine hc.mono ?_
        rintro e w9 ⟨b9, z9, rfl, hz9, S9⟩
        have HF : Hid (RR F B b (some ⟨b1, o1, none⟩) ct gs (most : Int) w RES (.returned (.int .i64 z9)) w9) := RR.back HFF.out.1 HBA.out ⟨(HB5.out).trans b9, z9, rfl, hz9, S9⟩
        clear hc b9 hz9 S9
        go_wp2
        go_ret
        exact HF.out
      · have hc := HP.out F' w2 O HS1.out (HN.out.below HBQ.out.bel)
        have HR : Hid (RES = (O.bind P).bind fun o2 => putF ⟨5, noS, [o2.length - 1], lo, hi, []⟩ o2) := by
          show RES = _
          rw [← HREP.out]
          have e : ∀ o, repF P (2 == 2) most lo hi o = (P o).bind fun o2 => putF (ndRep (o2.length - 1) lo hi) o2 := fun o => by
            unfold repF; rw [if_pos ⟨rfl, hgt⟩, if_neg hl0]; rfl
          cases O with
          | none => rfl
          | some o => rw [Option.bind_some, e]; rfl
        have hl1 : (lo == 0) = false := beq_eq_false_iff_ne.2 hl0
        have hl2 : (1 : Int) ≤ lo := by omega
        have hl3 : (0 : Int) < lo := by omega
        have hmx : max lo 1 = lo := by omega
        have HR2 := HR0
        clear HREP d1 hl0
        generalize O.bind P = O1 at *
        go_wp2_with fail
        refine hc.mono ?_
        rintro e w4 ⟨b4, z4, rfl, hz4, S4⟩
        have HB4 := hidd (HBQ.out.trans b4)
        have R4 := HB4.out.row HFF.out.2 HR0.out
        clear y6 y7
        obtain ⟨y6, y7⟩ : w4.cell? ⟨q, 6, none⟩ = some (.int .i64 lo) ∧ w4.cell? ⟨q, 7, none⟩ = some (.int .i64 hi) := ⟨R4.at_ rfl, R4.at_ rfl⟩
        obtain ⟨v6, v7⟩ : (w4.alloc (.cells #[.int .i64 z4] 3)).cell? ⟨q, 6, none⟩ = some (.int .i64 lo) ∧ (w4.alloc (.cells #[.int .i64 z4] 3)).cell? ⟨q, 7, none⟩ = some (.int .i64 hi) := by
          have hb5 : Below w4.heap.size w4 (w4.alloc (.cells #[.int .i64 z4] 3)) := (Below.refl _ _).alloc (Nat.le_refl _) _
          exact ⟨(R4.below hb5 R4.lt).at_ rfl, (R4.below hb5 R4.lt).at_ rfl⟩
        have hc := rput1 S4 5 z4 lo hi (fun o => o.length - 1) hz4
        rw [← HR.out] at hc
        clear R4 S4 hz4 b4 HR
        go_wp2_with fail
        refine hc.mono ?_
        rintro e w5 ⟨b5, z5, rfl, hz5, S5⟩
        have HB5 := hidd (HB4.out.trans b5)
        have R5 := HB5.out.row HFF.out.2 HR0.out
        clear y6 y7 v6 v7
        have y6 : w5.cell? ⟨q, 6, none⟩ = some (.int .i64 lo) := R5.at_ rfl
        have HF : Hid (RR F B b (some ⟨b1, o1, none⟩) ct gs (most : Int) w RES (.returned (.int .i64 z5)) w5) := RR.back HFF.out.1 HBA.out ⟨HB5.out, z5, rfl, hz5, S5⟩
        clear hc b5 hz5 S5 R5 HB4
        go_wp2
        go_ret
        exact HF.out
    · have hgd : decide ((most : Int) < hi) = false := decide_eq_false hgt
      go_wp2
      go_quiet (fail)
      have HQ2 := hidd (HS1.out.below (bel_drewN (Below.refl _ _) nq))
      have HR2 := hidd (HR1.out.drewN nq)
      have HB2 := hidd (HBQ.out.trans (HS1.out.bf (bel_drewN (Below.refl _ _) nq)))
      clear y6 y7 d1 HS1 HR1 HBQ
      generalize w1.drewN nq = w2 at *
      have HS1 := HQ2
      have HR1 := HR2
      have HBQ := HB2
      clear HQ2 HR2 HB2
      obtain ⟨y6, y7⟩ : w2.cell? ⟨q, 6, none⟩ = some (.int .i64 lo) ∧ w2.cell? ⟨q, 7, none⟩ = some (.int .i64 (hi)) := ⟨HR1.out.at_ rfl, HR1.out.at_ rfl⟩
      have d1 := HS1.out.lens.2.2.2.1
      by_cases h3 : hi = -1 ∧ (most : Int) < lo
      · obtain ⟨rfl, h3⟩ := h3
        have hl1 : (1 : Int) < lo := by omega
        have HREP2 : Hid (RES = ((O.bind P).bind fun o2 => putF ⟨5, noS, [o2.length - 1], lo, lo, []⟩ o2).bind fun o3 => (repeatF P 0 (-1) o3).bind fun o4 => putF ⟨3, noS, [o3.length - 1, o4.length - 1], 0, 0, []⟩ o4) := by
          show RES = _
          rw [← HREP.out]
          have e : ∀ o, repF P (2 == 2) most lo (-1) o = (repeatF P lo lo o).bind fun o1 => (repeatF P 0 (-1) o1).bind fun o2 => putF (ndCat [o1.length - 1, o2.length - 1]) o2 := fun o => by
            unfold repF; rw [if_neg (fun q => by have := q.2; omega), if_pos ⟨rfl, rfl, h3⟩]
          cases O with
          | none => rfl
          | some o => rw [Option.bind_some, e]; rfl
        clear HREP
        go_wp2
        go_quiet (fail)
        have HQ2 := hidd (HS1.out.below (bel_drewN (Below.refl _ _) nq))
        have HR2 := hidd (HR1.out.drewN nq)
        have HB2 := hidd (HBQ.out.trans (HS1.out.bf (bel_drewN (Below.refl _ _) nq)))
        clear y6 y7 d1 HS1 HR1 HBQ
        generalize w2.drewN nq = w3 at *
        have HS1 := HQ2
        have HR1 := HR2
        have HBQ := HB2
        clear HQ2 HR2 HB2
        obtain ⟨y6, y7⟩ : w3.cell? ⟨q, 6, none⟩ = some (.int .i64 lo) ∧ w3.cell? ⟨q, 7, none⟩ = some (.int .i64 (-1)) := ⟨HR1.out.at_ rfl, HR1.out.at_ rfl⟩
        have d1 := HS1.out.lens.2.2.2.1
        have hc := HP.out F' w3 O HS1.out (HN.out.below HBQ.out.bel)
        clear y6 y7 d1 hgd
        generalize O.bind P = O1 at *
        go_wp2_with fail
        refine hc.mono ?_
        rintro e w4 ⟨b4, z4, rfl, hz4, S4⟩
        have HB4 := hidd (HBQ.out.trans b4)
        have R4 := HB4.out.row HFF.out.2 HR0.out
        have y6 : w4.cell? ⟨q, 6, none⟩ = some (.int .i64 lo) := R4.at_ rfl
        have v6 : (w4.alloc (.cells #[.int .i64 z4] 3)).cell? ⟨q, 6, none⟩ = some (.int .i64 lo) := by
          have hb5 : Below w4.heap.size w4 (w4.alloc (.cells #[.int .i64 z4] 3)) := (Below.refl _ _).alloc (Nat.le_refl _) _
          exact (R4.below hb5 R4.lt).at_ rfl
        have hc := rput1 S4 5 z4 lo lo (fun o => o.length - 1) hz4
        clear R4 S4 hz4 b4
        generalize (O1.bind fun o2 => putF ⟨5, noS, [o2.length - 1], lo, lo, []⟩ o2) = O3 at *
        go_wp2_with fail
        refine hc.mono ?_
        rintro e w5 ⟨b5, z5, rfl, hz5, S5⟩
        have HB5 := hidd (HB4.out.trans b5)
        have hc := rstarC HP.out S5 (HN.out.below HB5.out.bel)
        have HR : Hid (RES = (O3.bind (repeatF P 0 (-1))).bind fun o4 => putF ⟨3, noS, [(O3.map (fun o : List Nd => o.length - 1)).getD 0, o4.length - 1], 0, 0, []⟩ o4) := by
          show RES = _
          rw [HREP2.out]
          cases O3 <;> rfl
        have HZ2 : Hid (∀ x, O3.bind (repeatF P 0 (-1)) = some x → z5 = (((O3.map (fun o : List Nd => o.length - 1)).getD 0 : Nat) : Int)) := fun x hx => by
          cases O3 with
          | none => cases hx
          | some o3 => exact hz5 o3 rfl
        clear HREP2 S5 hz5 b5 y6 v6 HB4
        generalize (O3.map (fun o : List Nd => o.length - 1)).getD 0 = y0 at *
        generalize O3.bind (repeatF P 0 (-1)) = O4 at *
        go_wp2_with fail
        refine hc.mono ?_
        rintro e w6 ⟨b6, z6, rfl, hz6, S6⟩
        have HB6 := hidd (HB5.out.trans b6)
        have hc := rput2 S6 3 z5 z6 0 0 (fun _ => y0) (fun o => o.length - 1) HZ2.out hz6
        rw [← HR.out] at hc
        clear S6 hz6 b6 HR HZ2 HB5
        go_wp2_with fail
        refine hc.mono ?_
        rintro e w9 ⟨b9, z9, rfl, hz9, S9⟩
        have HF : Hid (RR F B b (some ⟨b1, o1, none⟩) ct gs (most : Int) w RES (.returned (.int .i64 z9)) w9) := RR.back HFF.out.1 HBA.out ⟨(HB6.out).trans b9, z9, rfl, hz9, S9⟩
        clear hc b9 hz9 S9
        go_wp2
        go_ret
        exact HF.out
      · have HREP2 : Hid (O.bind (rowF P lo hi) = RES) := by
          show _ = RES
          rw [← HREP.out]
          have e : ∀ o, repF P (2 == 2) most lo hi o = rowF P lo hi o := fun o => by
            unfold repF; rw [if_neg (fun q => by have := q.2; omega), if_neg (fun q => h3 q.2)]
          cases O with
          | none => rfl
          | some o => rw [Option.bind_some, Option.bind_some, e]
        clear HREP
        have HREP := HREP2
        clear HREP2
        by_cases h4 : hi = -1
        · have h5 : ¬ (most : Int) < lo := fun q => h3 ⟨h4, q⟩
          have h6 : decide ((most : Int) < lo) = false := decide_eq_false h5
          have h7 : (hi == -1) = true := by rw [h4]; rfl
          clear h3 hgd h4
          go_wp2
          go_quiet (fail)
          have HQ2 := hidd (HS1.out.below (bel_drewN (Below.refl _ _) nq))
          have HR2 := hidd (HR1.out.drewN nq)
          have HB2 := hidd (HBQ.out.trans (HS1.out.bf (bel_drewN (Below.refl _ _) nq)))
          clear y6 y7 d1 HS1 HR1 HBQ
          generalize w2.drewN nq = w3 at *
          have HS1 := HQ2
          have HR1 := HR2
          have HBQ := HB2
          clear HQ2 HR2 HB2
          obtain ⟨y6, y7⟩ : w3.cell? ⟨q, 6, none⟩ = some (.int .i64 lo) ∧ w3.cell? ⟨q, 7, none⟩ = some (.int .i64 (hi)) := ⟨HR1.out.at_ rfl, HR1.out.at_ rfl⟩
          have d1 := HS1.out.lens.2.2.2.1
          clear h6 h5 h7
          have hOR : O.bind (rowF P lo hi) = RES := HREP.out
          obtain ⟨n, rfl⟩ : ∃ n : Nat, lo = n := ⟨lo.toNat, by omega⟩
          obtain ⟨T, hT⟩ : ∃ T, (O.bind fun o => timesF P n o []) = T := ⟨_, rfl⟩
          have HRT : Hid (RES = T.bind fun q => (tailF P n hi q.1 q.2).bind fun q => catF q.2 q.1) := by
            show RES = _
            rw [← hOR, ← hT]
            cases O with
            | none => rfl
            | some o => rw [Option.bind_some, Option.bind_some]; unfold rowF; rw [Int.toNat_natCast]
          have HT := hidd hT
          clear hOR hT HREP
          obtain ⟨j0, hj0i, hy0, hy1, hy2⟩ := info_parts int_info
          have HBB : Hid (BF B F' w1 w3) := HBQ.out
          go_wp2
          go_loopw [12, 13] (fun s12 s13 wr => ∃ (i : Nat) (vs : List Int) (rs : List Nat) (kA : Option Addr) (kc : Nat) (O' : Option (List Nd)), i ≤ n ∧ s13 = .int .i64 (i : Int) ∧ s12 = .slice kA i kc ∧ vs.length = i ∧ wr.ownsRow w1.heap.size 3 1 (.slice kA i kc) i (ints vs) ∧ RS (fun x => F' x ∨ (Value.slice kA i kc).ownBlock = some x) B b (some ⟨b1, o1, none⟩) ct gs (most : Int) wr O' ∧ BF B F' w1 wr ∧ (∀ o', O' = some o' → vs = rs.map (fun k : Nat => (k : Int)) ∧ Lst rs o' ∧ timesF P (n - i) o' rs = T) ∧ (O' = none → T = none)) (fun s12 s13 _ => n - (intOf s13).toNat)
          case atStart =>
            refine ⟨0, [], [], none, 0, O, Nat.zero_le _, rfl, rfl, rfl, World.ownsRow_nil _ _ _ _, HS1.out.less (fun q hq => hq.elim id (fun e => by cases e)), HBB.out, fun o' ho => ⟨rfl, .inl rfl, ?_⟩, fun ho => ?_⟩
            · rw [← HT.out, ho]; rfl
            · rw [← HT.out, ho]; rfl
          case round =>
            obtain ⟨i, vs, rs, kA, kc, O', hi0, rfl, rfl, hvl, ho1, S1, bb1, hr1, hr2⟩ := hrel
            clear y6 y7 d1
            have R2 := bb1.row HFF.out.2 HR0.out
            obtain ⟨y6, y7⟩ : wr.cell? ⟨q, 6, none⟩ = some (.int .i64 (n : Int)) ∧ wr.cell? ⟨q, 7, none⟩ = some (.int .i64 hi) := ⟨R2.at_ rfl, R2.at_ rfl⟩
            have d3 := S1.lens.2.2.2.2
            have hn4 : n ≤ 4096 := by omega
            clear R2 HBB HBQ HS1
            by_cases hlt : i < n
            · have hin : (i : Int) < (n : Int) := by omega
              cases O' with
              | none =>
                have d3 : wr.cell? ⟨b, 3, none⟩ = some (.bool true) := d3
                have HV0 : Hid ((∀ o', (none : Option (List Nd)) = some o' → vs = rs.map (fun k : Nat => (k : Int)) ∧ Lst rs o' ∧ T = some (o', rs)) ∧ ((none : Option (List Nd)) = none → T = none)) := ⟨(fun o' ho => by cases ho), hr2⟩
                clear hr1 hr2
                have HBT := hidd (bind_tail (P := P) (lo := (n : Int)) (hi := hi) (fun o' ho => (HV0.out.1 o' ho).2.2) HV0.out.2)
                have HRES0 := hidd (HBT.out.1)
                clear HBT
                rcases q2 with hh | hh
                · subst hh
                  have hc := rstarC HP.out S1 (HN.out.below bb1.bel)
                  have HRES : Hid (RES = ((none : Option (List Nd)).bind (repeatF P 0 (-1))).bind fun o => catF (rs ++ [o.length - 1]) o) := HRT.out.trans (HRES0.out rfl)
                  have HV : Hid (∀ x, (none : Option (List Nd)).bind (repeatF P 0 (-1)) = some x → vs = rs.map (fun k : Nat => (k : Int))) := fun x hx => by
                    cases hO : (none : Option (List Nd)) with
                    | none => rw [hO] at hx; cases hx
                    | some o' => exact (HV0.out.1 o' hO).1
                  have HO1 := hidd ho1
                  have HB1 := hidd bb1
                  clear HRES0 HV0 HRT HT S1 ho1 bb1
                  generalize (none : Option (List Nd)).bind (repeatF P 0 (-1)) = O5 at *
                  go_wp2_with fail
                  refine hc.mono ?_
                  rintro e w5 ⟨b5', z5, rfl, hz5, S5⟩
                  have b5 : BF B F' w1 w5 := HB1.out.trans (b5'.less (fun q hq => .inl hq))
                  have ho5 := b5'.own HO1.out (fun k hk => .inr hk)
                  have HZ5 := hidd hz5
                  clear hc b5' hz5 HO1 HB1 d3 y6 y7
                  have hown := ho5.alloc (.cells #[.int .i64 z5] 3)
                  have hnews := int_news w5 z5
                  have hH : (w5.alloc (.cells #[.int .i64 z5] 3)).heap.size = w5.heap.size + 1 := World.size_alloc ..
                  have hbase : w1.heap.size ≤ (w5.alloc (.cells #[.int .i64 z5] 3)).heap.size := by rw [hH]; have := b5.bel.size; omega
                  have HO5 := hidd ho5
                  have HB5 := hidd b5
                  have HS5b := hidd S5
                  clear ho5 b5 S5
                  go_upto_region 25 with (at_builtin; refine wpList_append_lies _ rfl _ _ _ rfl w1.heap.size 3 j0 (.int .i64 0) 1 8 Try.underlying23 hj0i hy0 hy1 hy2 rfl (by omega) _ i (ints vs) rfl hown ⟨w5.heap.size, 0, none⟩ 1 1 [.int .i64 z5] rfl rfl hnews (by simp [Value.oneCell']) (by omega) (by simp only [maxLen]; omega) (by omega) hbase (w5.heap.size + 1) hH ?_; intro g7 cap7 w7 hown7 hgrow hat hlt7; refine Hid.out ?_)
                  obtain ⟨b7, S7⟩ := row_more (cap7 := cap7) HB5.out HS5b.out HFL.out HBW.out HO5.out hgrow hat hlt7
                  have HO7 : Hid (w7.ownsRow w1.heap.size 3 1 (.slice (some ⟨g7, 0, none⟩) (i + 1) cap7) (i + 1) (ints (vs ++ [z5]))) := by
                    show World.ownsRow _ _ _ _ _ _ _
                    rw [← ints_snoc1]
                    exact hown7
                  have HB7 := hidd b7
                  have HS7 := hidd S7
                  clear hown hnews hH hbase hown7 hgrow hat hlt7 HO5 HB5 HS5b b7 S7
                  refine Lib.hid ?_
                  have hz5 := HZ5.out
                  have hc := rcatC (HS7.out.less (fun q hq => .inl hq)) (vs ++ [z5]) (fun o => rs ++ [o.length - 1]) (fun o ho => ⟨by rw [HV.out _ ho, hz5 o ho, List.map_append]; rfl, .inr ⟨rs, rfl⟩⟩) _ _ _ (by rw [List.length_append, hvl]; rfl) (own_base HO7.out HBW.out) (row_apart HO7.out HFL.out)
                  rw [← HRES.out] at hc
                  clear hz5 HS7 HO7
                  go_wp2_with fail
                  refine hc.mono ?_
                  rintro e w9 ⟨b9, z9, rfl, hz9, S9⟩
                  have HF : Hid (RR F B b (some ⟨b1, o1, none⟩) ct gs (most : Int) w RES (.returned (.int .i64 z9)) w9) := RR.back HFF.out.1 HBA.out ⟨(HB7.out).trans b9, z9, rfl, hz9, S9⟩
                  clear hc b9 hz9 S9
                  go_wp2
                  go_ret
                  exact HF.out
                · have hne : (hi == -1) = false := beq_eq_false_iff_ne.2 (by omega)
                  have hne2 : hi ≠ -1 := by omega
                  by_cases hlh : (n : Int) < hi
                  · obtain ⟨t, ht⟩ : ∃ t : Nat, hi - (n : Int) - 1 = t := ⟨(hi - n - 1).toNat, by omega⟩
                    have hsb : hi - (n : Int) = (t : Int) + 1 := by omega
                    have hc := rrestC HP.out t wr (none : Option (List Nd)) (by omega) S1 (HN.out.below bb1.bel)
                    have HRES : Hid (RES = ((none : Option (List Nd)).bind (restF P t)).bind fun o => catF (rs ++ [o.length - 1]) o) := by
                      have h := HRT.out.trans ((bind_tail (P := P) (lo := (n : Int)) (hi := hi) (fun o' ho => (HV0.out.1 o' ho).2.2) HV0.out.2).2.1 hne2 hlh)
                      rw [ht, Int.toNat_natCast] at h
                      exact h
                    have HV : Hid (∀ x, (none : Option (List Nd)).bind (restF P t) = some x → vs = rs.map (fun k : Nat => (k : Int))) := fun x hx => by
                      cases hO : (none : Option (List Nd)) with
                      | none => rw [hO] at hx; cases hx
                      | some o' => exact (HV0.out.1 o' hO).1
                    have HO1 := hidd ho1
                    have HB1 := hidd bb1
                    clear HRES0 HV0 HRT HT S1 ho1 bb1 ht hne2
                    generalize (none : Option (List Nd)).bind (restF P t) = O5 at *
                    go_wp2_with fail
                    refine hc.mono ?_
                    rintro e w5 ⟨b5', z5, rfl, hz5, S5⟩
                    have b5 : BF B F' w1 w5 := HB1.out.trans (b5'.less (fun q hq => .inl hq))
                    have ho5 := b5'.own HO1.out (fun k hk => .inr hk)
                    have HZ5 := hidd hz5
                    clear hc b5' hz5 HO1 HB1 d3 y6 y7
                    have hown := ho5.alloc (.cells #[.int .i64 z5] 3)
                    have hnews := int_news w5 z5
                    have hH : (w5.alloc (.cells #[.int .i64 z5] 3)).heap.size = w5.heap.size + 1 := World.size_alloc ..
                    have hbase : w1.heap.size ≤ (w5.alloc (.cells #[.int .i64 z5] 3)).heap.size := by rw [hH]; have := b5.bel.size; omega
                    have HO5 := hidd ho5
                    have HB5 := hidd b5
                    have HS5b := hidd S5
                    clear ho5 b5 S5
                    go_upto_region 25 with (at_builtin; refine wpList_append_lies _ rfl _ _ _ rfl w1.heap.size 3 j0 (.int .i64 0) 1 8 Try.underlying23 hj0i hy0 hy1 hy2 rfl (by omega) _ i (ints vs) rfl hown ⟨w5.heap.size, 0, none⟩ 1 1 [.int .i64 z5] rfl rfl hnews (by simp [Value.oneCell']) (by omega) (by simp only [maxLen]; omega) (by omega) hbase (w5.heap.size + 1) hH ?_; intro g7 cap7 w7 hown7 hgrow hat hlt7; refine Hid.out ?_)
                    obtain ⟨b7, S7⟩ := row_more (cap7 := cap7) HB5.out HS5b.out HFL.out HBW.out HO5.out hgrow hat hlt7
                    have HO7 : Hid (w7.ownsRow w1.heap.size 3 1 (.slice (some ⟨g7, 0, none⟩) (i + 1) cap7) (i + 1) (ints (vs ++ [z5]))) := by
                      show World.ownsRow _ _ _ _ _ _ _
                      rw [← ints_snoc1]
                      exact hown7
                    have HB7 := hidd b7
                    have HS7 := hidd S7
                    clear hown hnews hH hbase hown7 hgrow hat hlt7 HO5 HB5 HS5b b7 S7
                    refine Lib.hid ?_
                    have hz5 := HZ5.out
                    have hc := rcatC (HS7.out.less (fun q hq => .inl hq)) (vs ++ [z5]) (fun o => rs ++ [o.length - 1]) (fun o ho => ⟨by rw [HV.out _ ho, hz5 o ho, List.map_append]; rfl, .inr ⟨rs, rfl⟩⟩) _ _ _ (by rw [List.length_append, hvl]; rfl) (own_base HO7.out HBW.out) (row_apart HO7.out HFL.out)
                    rw [← HRES.out] at hc
                    clear hz5 HS7 HO7
                    go_wp2_with fail
                    refine hc.mono ?_
                    rintro e w9 ⟨b9, z9, rfl, hz9, S9⟩
                    have HF : Hid (RR F B b (some ⟨b1, o1, none⟩) ct gs (most : Int) w RES (.returned (.int .i64 z9)) w9) := RR.back HFF.out.1 HBA.out ⟨(HB7.out).trans b9, z9, rfl, hz9, S9⟩
                    clear hc b9 hz9 S9
                    go_wp2
                    go_ret
                    exact HF.out
                  · have hc := rcatC (S1.less (fun q hq => .inl hq)) vs (fun o => rs) (fun o ho => ⟨(HV0.out.1 o ho).1, (HV0.out.1 o ho).2.1⟩) _ _ _ hvl (own_base ho1 HBW.out) (row_apart ho1 HFL.out)
                    have HRES : Hid (RES = (none : Option (List Nd)).bind fun o => catF rs o) := HRT.out.trans ((bind_tail (P := P) (lo := (n : Int)) (hi := hi) (fun o' ho => (HV0.out.1 o' ho).2.2) HV0.out.2).2.2 hne2 hlh)
                    rw [← HRES.out] at hc
                    have HB1 := hidd (bb1.less (fun q hq => hq))
                    clear HRES0 HV0 HRT HT S1 ho1 bb1 hne2 HRES
                    go_wp2_with fail
                    refine hc.mono ?_
                    rintro e w9 ⟨b9, z9, rfl, hz9, S9⟩
                    have HF : Hid (RR F B b (some ⟨b1, o1, none⟩) ct gs (most : Int) w RES (.returned (.int .i64 z9)) w9) := RR.back HFF.out.1 HBA.out ⟨(HB1.out).trans b9, z9, rfl, hz9, S9⟩
                    clear hc b9 hz9 S9
                    go_wp2
                    go_ret
                    exact HF.out
              | some o' =>
                have d3 : wr.cell? ⟨b, 3, none⟩ = some (.bool false) := d3
                obtain ⟨hv1, hl1, ht1⟩ := hr1 o' rfl
                have hc := HP.out _ wr (some o') S1 (HN.out.below bb1.bel)
                rw [Option.bind_some] at hc
                have e : n - i = (n - (i + 1)) + 1 := by omega
                rw [e] at ht1
                have HT1 : Hid ((match P o' with | none => none | some o'' => timesF P (n - (i + 1)) o'' (rs ++ [o''.length - 1])) = T) := ht1
                have HV1 := hidd hv1
                have HO1 := hidd ho1
                have HB1 := hidd bb1
                clear e ht1 hr1 hr2 hv1 hl1 S1 ho1 bb1
                generalize P o' = O5 at *
                go_wp2_with fail
                refine hc.mono ?_
                rintro e w5 ⟨b5', z5, rfl, hz5, S5⟩
                have b5 : BF B F' w1 w5 := HB1.out.trans (b5'.less (fun q hq => .inl hq))
                have ho5 := b5'.own HO1.out (fun k hk => .inr hk)
                have HZ5 := hidd hz5
                clear hc b5' hz5 HO1 HB1 d3 y6 y7
                have hown := ho5.alloc (.cells #[.int .i64 z5] 3)
                have hnews := int_news w5 z5
                have hH : (w5.alloc (.cells #[.int .i64 z5] 3)).heap.size = w5.heap.size + 1 := World.size_alloc ..
                have hbase : w1.heap.size ≤ (w5.alloc (.cells #[.int .i64 z5] 3)).heap.size := by rw [hH]; have := b5.bel.size; omega
                have HO5 := hidd ho5
                have HB5 := hidd b5
                have HS5b := hidd S5
                clear ho5 b5 S5
                go_upto_region 19 with (at_builtin; refine wpList_append_lies _ rfl _ _ _ rfl w1.heap.size 3 j0 (.int .i64 0) 1 8 Try.underlying23 hj0i hy0 hy1 hy2 rfl (by omega) _ i (ints vs) rfl hown ⟨w5.heap.size, 0, none⟩ 1 1 [.int .i64 z5] rfl rfl hnews (by simp [Value.oneCell']) (by omega) (by simp only [maxLen]; omega) (by omega) hbase (w5.heap.size + 1) hH ?_; intro g7 cap7 w7 hown7 hgrow hat hlt7; refine Hid.out ?_)
                obtain ⟨b7, S7⟩ := row_more (cap7 := cap7) HB5.out HS5b.out HFL.out HBW.out HO5.out hgrow hat hlt7
                have HO7 : Hid (w7.ownsRow w1.heap.size 3 1 (.slice (some ⟨g7, 0, none⟩) (i + 1) cap7) (i + 1) (ints (vs ++ [z5]))) := by
                  show World.ownsRow _ _ _ _ _ _ _
                  rw [← ints_snoc1]
                  exact hown7
                have HB7 := hidd b7
                have HS7 := hidd S7
                clear hown hnews hH hbase hown7 hgrow hat hlt7 HO5 HB5 HS5b b7 S7
                refine Lib.hid ?_
                have HFIN : Hid (∃ rs', (∀ o'', O5 = some o'' → vs ++ [z5] = rs'.map (fun k : Nat => (k : Int)) ∧ Lst rs' o'' ∧ timesF P (n - (i + 1)) o'' rs' = T) ∧ (O5 = none → T = none)) := by
                  cases O5 with
                  | none => exact ⟨[], (fun o'' ho => by cases ho), fun _ => HT1.out.symm⟩
                  | some o5 =>
                    refine ⟨rs ++ [o5.length - 1], fun o'' ho => ?_, (fun ho => by cases ho)⟩
                    cases ho
                    exact ⟨by rw [HV1.out, HZ5.out _ rfl, List.map_append]; rfl, .inr ⟨rs, rfl⟩, HT1.out⟩
                clear HT1 HV1 HZ5
                go_wp2
                obtain ⟨rs', hf1, hf2⟩ := HFIN.out
                exact ⟨⟨i + 1, vs ++ [z5], rs', some ⟨g7, 0, none⟩, cap7, O5, by omega, rfl, rfl, by rw [List.length_append, hvl]; rfl, HO7.out, HS7.out, HB7.out, hf1, hf2⟩, by simp [intOf]; omega⟩
            · have hie : n = i := by omega
              subst hie
              have HV0 : Hid ((∀ o', O' = some o' → vs = rs.map (fun k : Nat => (k : Int)) ∧ Lst rs o' ∧ T = some (o', rs)) ∧ (O' = none → T = none)) := ⟨fun o' ho => by
                obtain ⟨h1, h2, h3⟩ := hr1 o' ho
                rw [Nat.sub_self] at h3
                exact ⟨h1, h2, h3.symm⟩, hr2⟩
              clear hr1 hr2 hlt
              have HBT := hidd (bind_tail (P := P) (lo := (n : Int)) (hi := hi) (fun o' ho => (HV0.out.1 o' ho).2.2) HV0.out.2)
              have HRES0 := hidd (HBT.out.1)
              clear HBT
              rcases q2 with hh | hh
              · subst hh
                have hc := rstarC HP.out S1 (HN.out.below bb1.bel)
                have HRES : Hid (RES = (O'.bind (repeatF P 0 (-1))).bind fun o => catF (rs ++ [o.length - 1]) o) := HRT.out.trans (HRES0.out rfl)
                have HV : Hid (∀ x, O'.bind (repeatF P 0 (-1)) = some x → vs = rs.map (fun k : Nat => (k : Int))) := fun x hx => by
                  cases hO : O' with
                  | none => rw [hO] at hx; cases hx
                  | some o' => exact (HV0.out.1 o' hO).1
                have HO1 := hidd ho1
                have HB1 := hidd bb1
                clear HRES0 HV0 HRT HT S1 ho1 bb1
                generalize O'.bind (repeatF P 0 (-1)) = O5 at *
                go_wp2_with fail
                refine hc.mono ?_
                rintro e w5 ⟨b5', z5, rfl, hz5, S5⟩
                have b5 : BF B F' w1 w5 := HB1.out.trans (b5'.less (fun q hq => .inl hq))
                have ho5 := b5'.own HO1.out (fun k hk => .inr hk)
                have HZ5 := hidd hz5
                clear hc b5' hz5 HO1 HB1 d3 y6 y7
                have hown := ho5.alloc (.cells #[.int .i64 z5] 3)
                have hnews := int_news w5 z5
                have hH : (w5.alloc (.cells #[.int .i64 z5] 3)).heap.size = w5.heap.size + 1 := World.size_alloc ..
                have hbase : w1.heap.size ≤ (w5.alloc (.cells #[.int .i64 z5] 3)).heap.size := by rw [hH]; have := b5.bel.size; omega
                have HO5 := hidd ho5
                have HB5 := hidd b5
                have HS5b := hidd S5
                clear ho5 b5 S5
                go_upto_region 25 with (at_builtin; refine wpList_append_lies _ rfl _ _ _ rfl w1.heap.size 3 j0 (.int .i64 0) 1 8 Try.underlying23 hj0i hy0 hy1 hy2 rfl (by omega) _ n (ints vs) rfl hown ⟨w5.heap.size, 0, none⟩ 1 1 [.int .i64 z5] rfl rfl hnews (by simp [Value.oneCell']) (by omega) (by simp only [maxLen]; omega) (by omega) hbase (w5.heap.size + 1) hH ?_; intro g7 cap7 w7 hown7 hgrow hat hlt7; refine Hid.out ?_)
                obtain ⟨b7, S7⟩ := row_more (cap7 := cap7) HB5.out HS5b.out HFL.out HBW.out HO5.out hgrow hat hlt7
                have HO7 : Hid (w7.ownsRow w1.heap.size 3 1 (.slice (some ⟨g7, 0, none⟩) (n + 1) cap7) (n + 1) (ints (vs ++ [z5]))) := by
                  show World.ownsRow _ _ _ _ _ _ _
                  rw [← ints_snoc1]
                  exact hown7
                have HB7 := hidd b7
                have HS7 := hidd S7
                clear hown hnews hH hbase hown7 hgrow hat hlt7 HO5 HB5 HS5b b7 S7
                refine Lib.hid ?_
                have hz5 := HZ5.out
                have hc := rcatC (HS7.out.less (fun q hq => .inl hq)) (vs ++ [z5]) (fun o => rs ++ [o.length - 1]) (fun o ho => ⟨by rw [HV.out _ ho, hz5 o ho, List.map_append]; rfl, .inr ⟨rs, rfl⟩⟩) _ _ _ (by rw [List.length_append, hvl]; rfl) (own_base HO7.out HBW.out) (row_apart HO7.out HFL.out)
                rw [← HRES.out] at hc
                clear hz5 HS7 HO7
                go_wp2_with fail
                refine hc.mono ?_
                rintro e w9 ⟨b9, z9, rfl, hz9, S9⟩
                have HF : Hid (RR F B b (some ⟨b1, o1, none⟩) ct gs (most : Int) w RES (.returned (.int .i64 z9)) w9) := RR.back HFF.out.1 HBA.out ⟨(HB7.out).trans b9, z9, rfl, hz9, S9⟩
                clear hc b9 hz9 S9
                go_wp2
                go_ret
                exact HF.out
              · have hne : (hi == -1) = false := beq_eq_false_iff_ne.2 (by omega)
                have hne2 : hi ≠ -1 := by omega
                by_cases hlh : (n : Int) < hi
                · obtain ⟨t, ht⟩ : ∃ t : Nat, hi - (n : Int) - 1 = t := ⟨(hi - n - 1).toNat, by omega⟩
                  have hsb : hi - (n : Int) = (t : Int) + 1 := by omega
                  have hc := rrestC HP.out t wr O' (by omega) S1 (HN.out.below bb1.bel)
                  have HRES : Hid (RES = (O'.bind (restF P t)).bind fun o => catF (rs ++ [o.length - 1]) o) := by
                    have h := HRT.out.trans ((bind_tail (P := P) (lo := (n : Int)) (hi := hi) (fun o' ho => (HV0.out.1 o' ho).2.2) HV0.out.2).2.1 hne2 hlh)
                    rw [ht, Int.toNat_natCast] at h
                    exact h
                  have HV : Hid (∀ x, O'.bind (restF P t) = some x → vs = rs.map (fun k : Nat => (k : Int))) := fun x hx => by
                    cases hO : O' with
                    | none => rw [hO] at hx; cases hx
                    | some o' => exact (HV0.out.1 o' hO).1
                  have HO1 := hidd ho1
                  have HB1 := hidd bb1
                  clear HRES0 HV0 HRT HT S1 ho1 bb1 ht hne2
                  generalize O'.bind (restF P t) = O5 at *
                  go_wp2_with fail
                  refine hc.mono ?_
                  rintro e w5 ⟨b5', z5, rfl, hz5, S5⟩
                  have b5 : BF B F' w1 w5 := HB1.out.trans (b5'.less (fun q hq => .inl hq))
                  have ho5 := b5'.own HO1.out (fun k hk => .inr hk)
                  have HZ5 := hidd hz5
                  clear hc b5' hz5 HO1 HB1 d3 y6 y7
                  have hown := ho5.alloc (.cells #[.int .i64 z5] 3)
                  have hnews := int_news w5 z5
                  have hH : (w5.alloc (.cells #[.int .i64 z5] 3)).heap.size = w5.heap.size + 1 := World.size_alloc ..
                  have hbase : w1.heap.size ≤ (w5.alloc (.cells #[.int .i64 z5] 3)).heap.size := by rw [hH]; have := b5.bel.size; omega
                  have HO5 := hidd ho5
                  have HB5 := hidd b5
                  have HS5b := hidd S5
                  clear ho5 b5 S5
                  go_upto_region 25 with (at_builtin; refine wpList_append_lies _ rfl _ _ _ rfl w1.heap.size 3 j0 (.int .i64 0) 1 8 Try.underlying23 hj0i hy0 hy1 hy2 rfl (by omega) _ n (ints vs) rfl hown ⟨w5.heap.size, 0, none⟩ 1 1 [.int .i64 z5] rfl rfl hnews (by simp [Value.oneCell']) (by omega) (by simp only [maxLen]; omega) (by omega) hbase (w5.heap.size + 1) hH ?_; intro g7 cap7 w7 hown7 hgrow hat hlt7; refine Hid.out ?_)
                  obtain ⟨b7, S7⟩ := row_more (cap7 := cap7) HB5.out HS5b.out HFL.out HBW.out HO5.out hgrow hat hlt7
                  have HO7 : Hid (w7.ownsRow w1.heap.size 3 1 (.slice (some ⟨g7, 0, none⟩) (n + 1) cap7) (n + 1) (ints (vs ++ [z5]))) := by
                    show World.ownsRow _ _ _ _ _ _ _
                    rw [← ints_snoc1]
                    exact hown7
                  have HB7 := hidd b7
                  have HS7 := hidd S7
                  clear hown hnews hH hbase hown7 hgrow hat hlt7 HO5 HB5 HS5b b7 S7
                  refine Lib.hid ?_
                  have hz5 := HZ5.out
                  have hc := rcatC (HS7.out.less (fun q hq => .inl hq)) (vs ++ [z5]) (fun o => rs ++ [o.length - 1]) (fun o ho => ⟨by rw [HV.out _ ho, hz5 o ho, List.map_append]; rfl, .inr ⟨rs, rfl⟩⟩) _ _ _ (by rw [List.length_append, hvl]; rfl) (own_base HO7.out HBW.out) (row_apart HO7.out HFL.out)
                  rw [← HRES.out] at hc
                  clear hz5 HS7 HO7
                  go_wp2_with fail
                  refine hc.mono ?_
                  rintro e w9 ⟨b9, z9, rfl, hz9, S9⟩
                  have HF : Hid (RR F B b (some ⟨b1, o1, none⟩) ct gs (most : Int) w RES (.returned (.int .i64 z9)) w9) := RR.back HFF.out.1 HBA.out ⟨(HB7.out).trans b9, z9, rfl, hz9, S9⟩
                  clear hc b9 hz9 S9
                  go_wp2
                  go_ret
                  exact HF.out
                · have hc := rcatC (S1.less (fun q hq => .inl hq)) vs (fun o => rs) (fun o ho => ⟨(HV0.out.1 o ho).1, (HV0.out.1 o ho).2.1⟩) _ _ _ hvl (own_base ho1 HBW.out) (row_apart ho1 HFL.out)
                  have HRES : Hid (RES = O'.bind fun o => catF rs o) := HRT.out.trans ((bind_tail (P := P) (lo := (n : Int)) (hi := hi) (fun o' ho => (HV0.out.1 o' ho).2.2) HV0.out.2).2.2 hne2 hlh)
                  rw [← HRES.out] at hc
                  have HB1 := hidd (bb1.less (fun q hq => hq))
                  clear HRES0 HV0 HRT HT S1 ho1 bb1 hne2 HRES
                  go_wp2_with fail
                  refine hc.mono ?_
                  rintro e w9 ⟨b9, z9, rfl, hz9, S9⟩
                  have HF : Hid (RR F B b (some ⟨b1, o1, none⟩) ct gs (most : Int) w RES (.returned (.int .i64 z9)) w9) := RR.back HFF.out.1 HBA.out ⟨(HB1.out).trans b9, z9, rfl, hz9, S9⟩
                  clear hc b9 hz9 S9
                  go_wp2
                  go_ret
                  exact HF.out
        · have h5 : (hi == -1) = false := beq_eq_false_iff_ne.2 h4
          clear h3 h4 hgd
          go_wp2
          go_quiet (fail)
          have HQ2 := hidd (HS1.out.below (bel_drewN (Below.refl _ _) nq))
          have HR2 := hidd (HR1.out.drewN nq)
          have HB2 := hidd (HBQ.out.trans (HS1.out.bf (bel_drewN (Below.refl _ _) nq)))
          clear y6 y7 d1 HS1 HR1 HBQ
          generalize w2.drewN nq = w3 at *
          have HS1 := HQ2
          have HR1 := HR2
          have HBQ := HB2
          clear HQ2 HR2 HB2
          obtain ⟨y6, y7⟩ : w3.cell? ⟨q, 6, none⟩ = some (.int .i64 lo) ∧ w3.cell? ⟨q, 7, none⟩ = some (.int .i64 (hi)) := ⟨HR1.out.at_ rfl, HR1.out.at_ rfl⟩
          have d1 := HS1.out.lens.2.2.2.1
          clear h5
          have hOR : O.bind (rowF P lo hi) = RES := HREP.out
          obtain ⟨n, rfl⟩ : ∃ n : Nat, lo = n := ⟨lo.toNat, by omega⟩
          obtain ⟨T, hT⟩ : ∃ T, (O.bind fun o => timesF P n o []) = T := ⟨_, rfl⟩
          have HRT : Hid (RES = T.bind fun q => (tailF P n hi q.1 q.2).bind fun q => catF q.2 q.1) := by
            show RES = _
            rw [← hOR, ← hT]
            cases O with
            | none => rfl
            | some o => rw [Option.bind_some, Option.bind_some]; unfold rowF; rw [Int.toNat_natCast]
          have HT := hidd hT
          clear hOR hT HREP
          obtain ⟨j0, hj0i, hy0, hy1, hy2⟩ := info_parts int_info
          have HBB : Hid (BF B F' w1 w3) := HBQ.out
          go_wp2
          go_loopw [12, 13] (fun s12 s13 wr => ∃ (i : Nat) (vs : List Int) (rs : List Nat) (kA : Option Addr) (kc : Nat) (O' : Option (List Nd)), i ≤ n ∧ s13 = .int .i64 (i : Int) ∧ s12 = .slice kA i kc ∧ vs.length = i ∧ wr.ownsRow w1.heap.size 3 1 (.slice kA i kc) i (ints vs) ∧ RS (fun x => F' x ∨ (Value.slice kA i kc).ownBlock = some x) B b (some ⟨b1, o1, none⟩) ct gs (most : Int) wr O' ∧ BF B F' w1 wr ∧ (∀ o', O' = some o' → vs = rs.map (fun k : Nat => (k : Int)) ∧ Lst rs o' ∧ timesF P (n - i) o' rs = T) ∧ (O' = none → T = none)) (fun s12 s13 _ => n - (intOf s13).toNat)
          case atStart =>
            refine ⟨0, [], [], none, 0, O, Nat.zero_le _, rfl, rfl, rfl, World.ownsRow_nil _ _ _ _, HS1.out.less (fun q hq => hq.elim id (fun e => by cases e)), HBB.out, fun o' ho => ⟨rfl, .inl rfl, ?_⟩, fun ho => ?_⟩
            · rw [← HT.out, ho]; rfl
            · rw [← HT.out, ho]; rfl
          case round =>
            obtain ⟨i, vs, rs, kA, kc, O', hi0, rfl, rfl, hvl, ho1, S1, bb1, hr1, hr2⟩ := hrel
            clear y6 y7 d1
            have R2 := bb1.row HFF.out.2 HR0.out
            obtain ⟨y6, y7⟩ : wr.cell? ⟨q, 6, none⟩ = some (.int .i64 (n : Int)) ∧ wr.cell? ⟨q, 7, none⟩ = some (.int .i64 hi) := ⟨R2.at_ rfl, R2.at_ rfl⟩
            have d3 := S1.lens.2.2.2.2
            have hn4 : n ≤ 4096 := by omega
            clear R2 HBB HBQ HS1
            by_cases hlt : i < n
            · have hin : (i : Int) < (n : Int) := by omega
              cases O' with
              | none =>
                have d3 : wr.cell? ⟨b, 3, none⟩ = some (.bool true) := d3
                have HV0 : Hid ((∀ o', (none : Option (List Nd)) = some o' → vs = rs.map (fun k : Nat => (k : Int)) ∧ Lst rs o' ∧ T = some (o', rs)) ∧ ((none : Option (List Nd)) = none → T = none)) := ⟨(fun o' ho => by cases ho), hr2⟩
                clear hr1 hr2
                have HBT := hidd (bind_tail (P := P) (lo := (n : Int)) (hi := hi) (fun o' ho => (HV0.out.1 o' ho).2.2) HV0.out.2)
                have HRES0 := hidd (HBT.out.1)
                clear HBT
                rcases q2 with hh | hh
                · subst hh
                  have hc := rstarC HP.out S1 (HN.out.below bb1.bel)
                  have HRES : Hid (RES = ((none : Option (List Nd)).bind (repeatF P 0 (-1))).bind fun o => catF (rs ++ [o.length - 1]) o) := HRT.out.trans (HRES0.out rfl)
                  have HV : Hid (∀ x, (none : Option (List Nd)).bind (repeatF P 0 (-1)) = some x → vs = rs.map (fun k : Nat => (k : Int))) := fun x hx => by
                    cases hO : (none : Option (List Nd)) with
                    | none => rw [hO] at hx; cases hx
                    | some o' => exact (HV0.out.1 o' hO).1
                  have HO1 := hidd ho1
                  have HB1 := hidd bb1
                  clear HRES0 HV0 HRT HT S1 ho1 bb1
                  generalize (none : Option (List Nd)).bind (repeatF P 0 (-1)) = O5 at *
                  go_wp2_with fail
                  refine hc.mono ?_
                  rintro e w5 ⟨b5', z5, rfl, hz5, S5⟩
                  have b5 : BF B F' w1 w5 := HB1.out.trans (b5'.less (fun q hq => .inl hq))
                  have ho5 := b5'.own HO1.out (fun k hk => .inr hk)
                  have HZ5 := hidd hz5
                  clear hc b5' hz5 HO1 HB1 d3 y6 y7
                  have hown := ho5.alloc (.cells #[.int .i64 z5] 3)
                  have hnews := int_news w5 z5
                  have hH : (w5.alloc (.cells #[.int .i64 z5] 3)).heap.size = w5.heap.size + 1 := World.size_alloc ..
                  have hbase : w1.heap.size ≤ (w5.alloc (.cells #[.int .i64 z5] 3)).heap.size := by rw [hH]; have := b5.bel.size; omega
                  have HO5 := hidd ho5
                  have HB5 := hidd b5
                  have HS5b := hidd S5
                  clear ho5 b5 S5
                  go_upto_region 25 with (at_builtin; refine wpList_append_lies _ rfl _ _ _ rfl w1.heap.size 3 j0 (.int .i64 0) 1 8 Try.underlying23 hj0i hy0 hy1 hy2 rfl (by omega) _ i (ints vs) rfl hown ⟨w5.heap.size, 0, none⟩ 1 1 [.int .i64 z5] rfl rfl hnews (by simp [Value.oneCell']) (by omega) (by simp only [maxLen]; omega) (by omega) hbase (w5.heap.size + 1) hH ?_; intro g7 cap7 w7 hown7 hgrow hat hlt7; refine Hid.out ?_)
                  obtain ⟨b7, S7⟩ := row_more (cap7 := cap7) HB5.out HS5b.out HFL.out HBW.out HO5.out hgrow hat hlt7
                  have HO7 : Hid (w7.ownsRow w1.heap.size 3 1 (.slice (some ⟨g7, 0, none⟩) (i + 1) cap7) (i + 1) (ints (vs ++ [z5]))) := by
                    show World.ownsRow _ _ _ _ _ _ _
                    rw [← ints_snoc1]
                    exact hown7
                  have HB7 := hidd b7
                  have HS7 := hidd S7
                  clear hown hnews hH hbase hown7 hgrow hat hlt7 HO5 HB5 HS5b b7 S7
                  refine Lib.hid ?_
                  have hz5 := HZ5.out
                  have hc := rcatC (HS7.out.less (fun q hq => .inl hq)) (vs ++ [z5]) (fun o => rs ++ [o.length - 1]) (fun o ho => ⟨by rw [HV.out _ ho, hz5 o ho, List.map_append]; rfl, .inr ⟨rs, rfl⟩⟩) _ _ _ (by rw [List.length_append, hvl]; rfl) (own_base HO7.out HBW.out) (row_apart HO7.out HFL.out)
                  rw [← HRES.out] at hc
                  clear hz5 HS7 HO7
                  go_wp2_with fail
                  refine hc.mono ?_
                  rintro e w9 ⟨b9, z9, rfl, hz9, S9⟩
                  have HF : Hid (RR F B b (some ⟨b1, o1, none⟩) ct gs (most : Int) w RES (.returned (.int .i64 z9)) w9) := RR.back HFF.out.1 HBA.out ⟨(HB7.out).trans b9, z9, rfl, hz9, S9⟩
                  clear hc b9 hz9 S9
                  go_wp2
                  go_ret
                  exact HF.out
                · have hne : (hi == -1) = false := beq_eq_false_iff_ne.2 (by omega)
                  have hne2 : hi ≠ -1 := by omega
                  by_cases hlh : (n : Int) < hi
                  · obtain ⟨t, ht⟩ : ∃ t : Nat, hi - (n : Int) - 1 = t := ⟨(hi - n - 1).toNat, by omega⟩
                    have hsb : hi - (n : Int) = (t : Int) + 1 := by omega
                    have hc := rrestC HP.out t wr (none : Option (List Nd)) (by omega) S1 (HN.out.below bb1.bel)
                    have HRES : Hid (RES = ((none : Option (List Nd)).bind (restF P t)).bind fun o => catF (rs ++ [o.length - 1]) o) := by
                      have h := HRT.out.trans ((bind_tail (P := P) (lo := (n : Int)) (hi := hi) (fun o' ho => (HV0.out.1 o' ho).2.2) HV0.out.2).2.1 hne2 hlh)
                      rw [ht, Int.toNat_natCast] at h
                      exact h
                    have HV : Hid (∀ x, (none : Option (List Nd)).bind (restF P t) = some x → vs = rs.map (fun k : Nat => (k : Int))) := fun x hx => by
                      cases hO : (none : Option (List Nd)) with
                      | none => rw [hO] at hx; cases hx
                      | some o' => exact (HV0.out.1 o' hO).1
                    have HO1 := hidd ho1
                    have HB1 := hidd bb1
                    clear HRES0 HV0 HRT HT S1 ho1 bb1 ht hne2
                    generalize (none : Option (List Nd)).bind (restF P t) = O5 at *
                    go_wp2_with fail
                    refine hc.mono ?_
                    rintro e w5 ⟨b5', z5, rfl, hz5, S5⟩
                    have b5 : BF B F' w1 w5 := HB1.out.trans (b5'.less (fun q hq => .inl hq))
                    have ho5 := b5'.own HO1.out (fun k hk => .inr hk)
                    have HZ5 := hidd hz5
                    clear hc b5' hz5 HO1 HB1 d3 y6 y7
                    have hown := ho5.alloc (.cells #[.int .i64 z5] 3)
                    have hnews := int_news w5 z5
                    have hH : (w5.alloc (.cells #[.int .i64 z5] 3)).heap.size = w5.heap.size + 1 := World.size_alloc ..
                    have hbase : w1.heap.size ≤ (w5.alloc (.cells #[.int .i64 z5] 3)).heap.size := by rw [hH]; have := b5.bel.size; omega
                    have HO5 := hidd ho5
                    have HB5 := hidd b5
                    have HS5b := hidd S5
                    clear ho5 b5 S5
                    go_upto_region 25 with (at_builtin; refine wpList_append_lies _ rfl _ _ _ rfl w1.heap.size 3 j0 (.int .i64 0) 1 8 Try.underlying23 hj0i hy0 hy1 hy2 rfl (by omega) _ i (ints vs) rfl hown ⟨w5.heap.size, 0, none⟩ 1 1 [.int .i64 z5] rfl rfl hnews (by simp [Value.oneCell']) (by omega) (by simp only [maxLen]; omega) (by omega) hbase (w5.heap.size + 1) hH ?_; intro g7 cap7 w7 hown7 hgrow hat hlt7; refine Hid.out ?_)
                    obtain ⟨b7, S7⟩ := row_more (cap7 := cap7) HB5.out HS5b.out HFL.out HBW.out HO5.out hgrow hat hlt7
                    have HO7 : Hid (w7.ownsRow w1.heap.size 3 1 (.slice (some ⟨g7, 0, none⟩) (i + 1) cap7) (i + 1) (ints (vs ++ [z5]))) := by
                      show World.ownsRow _ _ _ _ _ _ _
                      rw [← ints_snoc1]
                      exact hown7
                    have HB7 := hidd b7
                    have HS7 := hidd S7
                    clear hown hnews hH hbase hown7 hgrow hat hlt7 HO5 HB5 HS5b b7 S7
                    refine Lib.hid ?_
                    have hz5 := HZ5.out
                    have hc := rcatC (HS7.out.less (fun q hq => .inl hq)) (vs ++ [z5]) (fun o => rs ++ [o.length - 1]) (fun o ho => ⟨by rw [HV.out _ ho, hz5 o ho, List.map_append]; rfl, .inr ⟨rs, rfl⟩⟩) _ _ _ (by rw [List.length_append, hvl]; rfl) (own_base HO7.out HBW.out) (row_apart HO7.out HFL.out)
                    rw [← HRES.out] at hc
                    clear hz5 HS7 HO7
                    go_wp2_with fail
                    refine hc.mono ?_
                    rintro e w9 ⟨b9, z9, rfl, hz9, S9⟩
                    have HF : Hid (RR F B b (some ⟨b1, o1, none⟩) ct gs (most : Int) w RES (.returned (.int .i64 z9)) w9) := RR.back HFF.out.1 HBA.out ⟨(HB7.out).trans b9, z9, rfl, hz9, S9⟩
                    clear hc b9 hz9 S9
                    go_wp2
                    go_ret
                    exact HF.out
                  · have hc := rcatC (S1.less (fun q hq => .inl hq)) vs (fun o => rs) (fun o ho => ⟨(HV0.out.1 o ho).1, (HV0.out.1 o ho).2.1⟩) _ _ _ hvl (own_base ho1 HBW.out) (row_apart ho1 HFL.out)
                    have HRES : Hid (RES = (none : Option (List Nd)).bind fun o => catF rs o) := HRT.out.trans ((bind_tail (P := P) (lo := (n : Int)) (hi := hi) (fun o' ho => (HV0.out.1 o' ho).2.2) HV0.out.2).2.2 hne2 hlh)
                    rw [← HRES.out] at hc
                    have HB1 := hidd (bb1.less (fun q hq => hq))
                    clear HRES0 HV0 HRT HT S1 ho1 bb1 hne2 HRES
                    go_wp2_with fail
                    refine hc.mono ?_
                    rintro e w9 ⟨b9, z9, rfl, hz9, S9⟩
                    have HF : Hid (RR F B b (some ⟨b1, o1, none⟩) ct gs (most : Int) w RES (.returned (.int .i64 z9)) w9) := RR.back HFF.out.1 HBA.out ⟨(HB1.out).trans b9, z9, rfl, hz9, S9⟩
                    clear hc b9 hz9 S9
                    go_wp2
                    go_ret
                    exact HF.out
              | some o' =>
                have d3 : wr.cell? ⟨b, 3, none⟩ = some (.bool false) := d3
                obtain ⟨hv1, hl1, ht1⟩ := hr1 o' rfl
                have hc := HP.out _ wr (some o') S1 (HN.out.below bb1.bel)
                rw [Option.bind_some] at hc
                have e : n - i = (n - (i + 1)) + 1 := by omega
                rw [e] at ht1
                have HT1 : Hid ((match P o' with | none => none | some o'' => timesF P (n - (i + 1)) o'' (rs ++ [o''.length - 1])) = T) := ht1
                have HV1 := hidd hv1
                have HO1 := hidd ho1
                have HB1 := hidd bb1
                clear e ht1 hr1 hr2 hv1 hl1 S1 ho1 bb1
                generalize P o' = O5 at *
                go_wp2_with fail
                refine hc.mono ?_
                rintro e w5 ⟨b5', z5, rfl, hz5, S5⟩
                have b5 : BF B F' w1 w5 := HB1.out.trans (b5'.less (fun q hq => .inl hq))
                have ho5 := b5'.own HO1.out (fun k hk => .inr hk)
                have HZ5 := hidd hz5
                clear hc b5' hz5 HO1 HB1 d3 y6 y7
                have hown := ho5.alloc (.cells #[.int .i64 z5] 3)
                have hnews := int_news w5 z5
                have hH : (w5.alloc (.cells #[.int .i64 z5] 3)).heap.size = w5.heap.size + 1 := World.size_alloc ..
                have hbase : w1.heap.size ≤ (w5.alloc (.cells #[.int .i64 z5] 3)).heap.size := by rw [hH]; have := b5.bel.size; omega
                have HO5 := hidd ho5
                have HB5 := hidd b5
                have HS5b := hidd S5
                clear ho5 b5 S5
                go_upto_region 19 with (at_builtin; refine wpList_append_lies _ rfl _ _ _ rfl w1.heap.size 3 j0 (.int .i64 0) 1 8 Try.underlying23 hj0i hy0 hy1 hy2 rfl (by omega) _ i (ints vs) rfl hown ⟨w5.heap.size, 0, none⟩ 1 1 [.int .i64 z5] rfl rfl hnews (by simp [Value.oneCell']) (by omega) (by simp only [maxLen]; omega) (by omega) hbase (w5.heap.size + 1) hH ?_; intro g7 cap7 w7 hown7 hgrow hat hlt7; refine Hid.out ?_)
                obtain ⟨b7, S7⟩ := row_more (cap7 := cap7) HB5.out HS5b.out HFL.out HBW.out HO5.out hgrow hat hlt7
                have HO7 : Hid (w7.ownsRow w1.heap.size 3 1 (.slice (some ⟨g7, 0, none⟩) (i + 1) cap7) (i + 1) (ints (vs ++ [z5]))) := by
                  show World.ownsRow _ _ _ _ _ _ _
                  rw [← ints_snoc1]
                  exact hown7
                have HB7 := hidd b7
                have HS7 := hidd S7
                clear hown hnews hH hbase hown7 hgrow hat hlt7 HO5 HB5 HS5b b7 S7
                refine Lib.hid ?_
                have HFIN : Hid (∃ rs', (∀ o'', O5 = some o'' → vs ++ [z5] = rs'.map (fun k : Nat => (k : Int)) ∧ Lst rs' o'' ∧ timesF P (n - (i + 1)) o'' rs' = T) ∧ (O5 = none → T = none)) := by
                  cases O5 with
                  | none => exact ⟨[], (fun o'' ho => by cases ho), fun _ => HT1.out.symm⟩
                  | some o5 =>
                    refine ⟨rs ++ [o5.length - 1], fun o'' ho => ?_, (fun ho => by cases ho)⟩
                    cases ho
                    exact ⟨by rw [HV1.out, HZ5.out _ rfl, List.map_append]; rfl, .inr ⟨rs, rfl⟩, HT1.out⟩
                clear HT1 HV1 HZ5
                go_wp2
                obtain ⟨rs', hf1, hf2⟩ := HFIN.out
                exact ⟨⟨i + 1, vs ++ [z5], rs', some ⟨g7, 0, none⟩, cap7, O5, by omega, rfl, rfl, by rw [List.length_append, hvl]; rfl, HO7.out, HS7.out, HB7.out, hf1, hf2⟩, by simp [intOf]; omega⟩
            · have hie : n = i := by omega
              subst hie
              have HV0 : Hid ((∀ o', O' = some o' → vs = rs.map (fun k : Nat => (k : Int)) ∧ Lst rs o' ∧ T = some (o', rs)) ∧ (O' = none → T = none)) := ⟨fun o' ho => by
                obtain ⟨h1, h2, h3⟩ := hr1 o' ho
                rw [Nat.sub_self] at h3
                exact ⟨h1, h2, h3.symm⟩, hr2⟩
              clear hr1 hr2 hlt
              have HBT := hidd (bind_tail (P := P) (lo := (n : Int)) (hi := hi) (fun o' ho => (HV0.out.1 o' ho).2.2) HV0.out.2)
              have HRES0 := hidd (HBT.out.1)
              clear HBT
              rcases q2 with hh | hh
              · subst hh
                have hc := rstarC HP.out S1 (HN.out.below bb1.bel)
                have HRES : Hid (RES = (O'.bind (repeatF P 0 (-1))).bind fun o => catF (rs ++ [o.length - 1]) o) := HRT.out.trans (HRES0.out rfl)
                have HV : Hid (∀ x, O'.bind (repeatF P 0 (-1)) = some x → vs = rs.map (fun k : Nat => (k : Int))) := fun x hx => by
                  cases hO : O' with
                  | none => rw [hO] at hx; cases hx
                  | some o' => exact (HV0.out.1 o' hO).1
                have HO1 := hidd ho1
                have HB1 := hidd bb1
                clear HRES0 HV0 HRT HT S1 ho1 bb1
                generalize O'.bind (repeatF P 0 (-1)) = O5 at *
                go_wp2_with fail
                refine hc.mono ?_
                rintro e w5 ⟨b5', z5, rfl, hz5, S5⟩
                have b5 : BF B F' w1 w5 := HB1.out.trans (b5'.less (fun q hq => .inl hq))
                have ho5 := b5'.own HO1.out (fun k hk => .inr hk)
                have HZ5 := hidd hz5
                clear hc b5' hz5 HO1 HB1 d3 y6 y7
                have hown := ho5.alloc (.cells #[.int .i64 z5] 3)
                have hnews := int_news w5 z5
                have hH : (w5.alloc (.cells #[.int .i64 z5] 3)).heap.size = w5.heap.size + 1 := World.size_alloc ..
                have hbase : w1.heap.size ≤ (w5.alloc (.cells #[.int .i64 z5] 3)).heap.size := by rw [hH]; have := b5.bel.size; omega
                have HO5 := hidd ho5
                have HB5 := hidd b5
                have HS5b := hidd S5
                clear ho5 b5 S5
                go_upto_region 25 with (at_builtin; refine wpList_append_lies _ rfl _ _ _ rfl w1.heap.size 3 j0 (.int .i64 0) 1 8 Try.underlying23 hj0i hy0 hy1 hy2 rfl (by omega) _ n (ints vs) rfl hown ⟨w5.heap.size, 0, none⟩ 1 1 [.int .i64 z5] rfl rfl hnews (by simp [Value.oneCell']) (by omega) (by simp only [maxLen]; omega) (by omega) hbase (w5.heap.size + 1) hH ?_; intro g7 cap7 w7 hown7 hgrow hat hlt7; refine Hid.out ?_)
                obtain ⟨b7, S7⟩ := row_more (cap7 := cap7) HB5.out HS5b.out HFL.out HBW.out HO5.out hgrow hat hlt7
                have HO7 : Hid (w7.ownsRow w1.heap.size 3 1 (.slice (some ⟨g7, 0, none⟩) (n + 1) cap7) (n + 1) (ints (vs ++ [z5]))) := by
                  show World.ownsRow _ _ _ _ _ _ _
                  rw [← ints_snoc1]
                  exact hown7
                have HB7 := hidd b7
                have HS7 := hidd S7
                clear hown hnews hH hbase hown7 hgrow hat hlt7 HO5 HB5 HS5b b7 S7
                refine Lib.hid ?_
                have hz5 := HZ5.out
                have hc := rcatC (HS7.out.less (fun q hq => .inl hq)) (vs ++ [z5]) (fun o => rs ++ [o.length - 1]) (fun o ho => ⟨by rw [HV.out _ ho, hz5 o ho, List.map_append]; rfl, .inr ⟨rs, rfl⟩⟩) _ _ _ (by rw [List.length_append, hvl]; rfl) (own_base HO7.out HBW.out) (row_apart HO7.out HFL.out)
                rw [← HRES.out] at hc
                clear hz5 HS7 HO7
                go_wp2_with fail
                refine hc.mono ?_
                rintro e w9 ⟨b9, z9, rfl, hz9, S9⟩
                have HF : Hid (RR F B b (some ⟨b1, o1, none⟩) ct gs (most : Int) w RES (.returned (.int .i64 z9)) w9) := RR.back HFF.out.1 HBA.out ⟨(HB7.out).trans b9, z9, rfl, hz9, S9⟩
                clear hc b9 hz9 S9
                go_wp2
                go_ret
                exact HF.out
              · have hne : (hi == -1) = false := beq_eq_false_iff_ne.2 (by omega)
                have hne2 : hi ≠ -1 := by omega
                by_cases hlh : (n : Int) < hi
                · obtain ⟨t, ht⟩ : ∃ t : Nat, hi - (n : Int) - 1 = t := ⟨(hi - n - 1).toNat, by omega⟩
                  have hsb : hi - (n : Int) = (t : Int) + 1 := by omega
                  have hc := rrestC HP.out t wr O' (by omega) S1 (HN.out.below bb1.bel)
                  have HRES : Hid (RES = (O'.bind (restF P t)).bind fun o => catF (rs ++ [o.length - 1]) o) := by
                    have h := HRT.out.trans ((bind_tail (P := P) (lo := (n : Int)) (hi := hi) (fun o' ho => (HV0.out.1 o' ho).2.2) HV0.out.2).2.1 hne2 hlh)
                    rw [ht, Int.toNat_natCast] at h
                    exact h
                  have HV : Hid (∀ x, O'.bind (restF P t) = some x → vs = rs.map (fun k : Nat => (k : Int))) := fun x hx => by
                    cases hO : O' with
                    | none => rw [hO] at hx; cases hx
                    | some o' => exact (HV0.out.1 o' hO).1
                  have HO1 := hidd ho1
                  have HB1 := hidd bb1
                  clear HRES0 HV0 HRT HT S1 ho1 bb1 ht hne2
                  generalize O'.bind (restF P t) = O5 at *
                  go_wp2_with fail
                  refine hc.mono ?_
                  rintro e w5 ⟨b5', z5, rfl, hz5, S5⟩
                  have b5 : BF B F' w1 w5 := HB1.out.trans (b5'.less (fun q hq => .inl hq))
                  have ho5 := b5'.own HO1.out (fun k hk => .inr hk)
                  have HZ5 := hidd hz5
                  clear hc b5' hz5 HO1 HB1 d3 y6 y7
                  have hown := ho5.alloc (.cells #[.int .i64 z5] 3)
                  have hnews := int_news w5 z5
                  have hH : (w5.alloc (.cells #[.int .i64 z5] 3)).heap.size = w5.heap.size + 1 := World.size_alloc ..
                  have hbase : w1.heap.size ≤ (w5.alloc (.cells #[.int .i64 z5] 3)).heap.size := by rw [hH]; have := b5.bel.size; omega
                  have HO5 := hidd ho5
                  have HB5 := hidd b5
                  have HS5b := hidd S5
                  clear ho5 b5 S5
                  go_upto_region 25 with (at_builtin; refine wpList_append_lies _ rfl _ _ _ rfl w1.heap.size 3 j0 (.int .i64 0) 1 8 Try.underlying23 hj0i hy0 hy1 hy2 rfl (by omega) _ n (ints vs) rfl hown ⟨w5.heap.size, 0, none⟩ 1 1 [.int .i64 z5] rfl rfl hnews (by simp [Value.oneCell']) (by omega) (by simp only [maxLen]; omega) (by omega) hbase (w5.heap.size + 1) hH ?_; intro g7 cap7 w7 hown7 hgrow hat hlt7; refine Hid.out ?_)
                  obtain ⟨b7, S7⟩ := row_more (cap7 := cap7) HB5.out HS5b.out HFL.out HBW.out HO5.out hgrow hat hlt7
                  have HO7 : Hid (w7.ownsRow w1.heap.size 3 1 (.slice (some ⟨g7, 0, none⟩) (n + 1) cap7) (n + 1) (ints (vs ++ [z5]))) := by
                    show World.ownsRow _ _ _ _ _ _ _
                    rw [← ints_snoc1]
                    exact hown7
                  have HB7 := hidd b7
                  have HS7 := hidd S7
                  clear hown hnews hH hbase hown7 hgrow hat hlt7 HO5 HB5 HS5b b7 S7
                  refine Lib.hid ?_
                  have hz5 := HZ5.out
                  have hc := rcatC (HS7.out.less (fun q hq => .inl hq)) (vs ++ [z5]) (fun o => rs ++ [o.length - 1]) (fun o ho => ⟨by rw [HV.out _ ho, hz5 o ho, List.map_append]; rfl, .inr ⟨rs, rfl⟩⟩) _ _ _ (by rw [List.length_append, hvl]; rfl) (own_base HO7.out HBW.out) (row_apart HO7.out HFL.out)
                  rw [← HRES.out] at hc
                  clear hz5 HS7 HO7
                  go_wp2_with fail
                  refine hc.mono ?_
                  rintro e w9 ⟨b9, z9, rfl, hz9, S9⟩
                  have HF : Hid (RR F B b (some ⟨b1, o1, none⟩) ct gs (most : Int) w RES (.returned (.int .i64 z9)) w9) := RR.back HFF.out.1 HBA.out ⟨(HB7.out).trans b9, z9, rfl, hz9, S9⟩
                  clear hc b9 hz9 S9
                  go_wp2
                  go_ret
                  exact HF.out
                · have hc := rcatC (S1.less (fun q hq => .inl hq)) vs (fun o => rs) (fun o ho => ⟨(HV0.out.1 o ho).1, (HV0.out.1 o ho).2.1⟩) _ _ _ hvl (own_base ho1 HBW.out) (row_apart ho1 HFL.out)
                  have HRES : Hid (RES = O'.bind fun o => catF rs o) := HRT.out.trans ((bind_tail (P := P) (lo := (n : Int)) (hi := hi) (fun o' ho => (HV0.out.1 o' ho).2.2) HV0.out.2).2.2 hne2 hlh)
                  rw [← HRES.out] at hc
                  have HB1 := hidd (bb1.less (fun q hq => hq))
                  clear HRES0 HV0 HRT HT S1 ho1 bb1 hne2 HRES
                  go_wp2_with fail
                  refine hc.mono ?_
                  rintro e w9 ⟨b9, z9, rfl, hz9, S9⟩
                  have HF : Hid (RR F B b (some ⟨b1, o1, none⟩) ct gs (most : Int) w RES (.returned (.int .i64 z9)) w9) := RR.back HFF.out.1 HBA.out ⟨(HB1.out).trans b9, z9, rfl, hz9, S9⟩
                  clear hc b9 hz9 S9
                  go_wp2
                  go_ret
                  exact HF.out
  · have hb2 : (op == 2) = false := beq_eq_false_iff_ne.2 h2
    have hb3 : ((op : Int) == 2) = false := beq_eq_false_iff_ne.2 (by omega)
    have HREP2 : Hid (O.bind (rowF P lo hi) = RES) := by
      show _ = RES
      rw [← HREP.out]
      have e : ∀ o, repF P (op == 2) most lo hi o = rowF P lo hi o := fun o => by
        unfold repF; rw [hb2, if_neg (fun q => by cases q.1), if_neg (fun q => by cases q.1)]
      cases O with
      | none => rfl
      | some o => rw [Option.bind_some, Option.bind_some, e]
    clear HREP h2 hb2
    have HREP := HREP2
    clear HREP2
    go_wp2
    go_quiet (fail)
    have HQ2 := hidd (HS1.out.below (bel_drewN (Below.refl _ _) nq))
    have HR2 := hidd (HR1.out.drewN nq)
    have HB2 := hidd (HBQ.out.trans (HS1.out.bf (bel_drewN (Below.refl _ _) nq)))
    clear y6 y7 d1 HS1 HR1 HBQ
    generalize w1.drewN nq = w2 at *
    have HS1 := HQ2
    have HR1 := HR2
    have HBQ := HB2
    clear HQ2 HR2 HB2
    obtain ⟨y6, y7⟩ : w2.cell? ⟨q, 6, none⟩ = some (.int .i64 lo) ∧ w2.cell? ⟨q, 7, none⟩ = some (.int .i64 (hi)) := ⟨HR1.out.at_ rfl, HR1.out.at_ rfl⟩
    have d1 := HS1.out.lens.2.2.2.1
    go_wp2
    go_quiet (fail)
    have HQ2 := hidd (HS1.out.below (bel_drewN (Below.refl _ _) nq))
    have HR2 := hidd (HR1.out.drewN nq)
    have HB2 := hidd (HBQ.out.trans (HS1.out.bf (bel_drewN (Below.refl _ _) nq)))
    clear y6 y7 d1 HS1 HR1 HBQ
    generalize w2.drewN nq = w3 at *
    have HS1 := HQ2
    have HR1 := HR2
    have HBQ := HB2
    clear HQ2 HR2 HB2
    obtain ⟨y6, y7⟩ : w3.cell? ⟨q, 6, none⟩ = some (.int .i64 lo) ∧ w3.cell? ⟨q, 7, none⟩ = some (.int .i64 (hi)) := ⟨HR1.out.at_ rfl, HR1.out.at_ rfl⟩
    have d1 := HS1.out.lens.2.2.2.1
    clear hb3
    have hOR : O.bind (rowF P lo hi) = RES := HREP.out
    obtain ⟨n, rfl⟩ : ∃ n : Nat, lo = n := ⟨lo.toNat, by omega⟩
    obtain ⟨T, hT⟩ : ∃ T, (O.bind fun o => timesF P n o []) = T := ⟨_, rfl⟩
    have HRT : Hid (RES = T.bind fun q => (tailF P n hi q.1 q.2).bind fun q => catF q.2 q.1) := by
      show RES = _
      rw [← hOR, ← hT]
      cases O with
      | none => rfl
      | some o => rw [Option.bind_some, Option.bind_some]; unfold rowF; rw [Int.toNat_natCast]
    have HT := hidd hT
    clear hOR hT HREP
    obtain ⟨j0, hj0i, hy0, hy1, hy2⟩ := info_parts int_info
    have HBB : Hid (BF B F' w1 w3) := HBQ.out
    go_wp2
    go_loopw [12, 13] (fun s12 s13 wr => ∃ (i : Nat) (vs : List Int) (rs : List Nat) (kA : Option Addr) (kc : Nat) (O' : Option (List Nd)), i ≤ n ∧ s13 = .int .i64 (i : Int) ∧ s12 = .slice kA i kc ∧ vs.length = i ∧ wr.ownsRow w1.heap.size 3 1 (.slice kA i kc) i (ints vs) ∧ RS (fun x => F' x ∨ (Value.slice kA i kc).ownBlock = some x) B b (some ⟨b1, o1, none⟩) ct gs (most : Int) wr O' ∧ BF B F' w1 wr ∧ (∀ o', O' = some o' → vs = rs.map (fun k : Nat => (k : Int)) ∧ Lst rs o' ∧ timesF P (n - i) o' rs = T) ∧ (O' = none → T = none)) (fun s12 s13 _ => n - (intOf s13).toNat)
    case atStart =>
      refine ⟨0, [], [], none, 0, O, Nat.zero_le _, rfl, rfl, rfl, World.ownsRow_nil _ _ _ _, HS1.out.less (fun q hq => hq.elim id (fun e => by cases e)), HBB.out, fun o' ho => ⟨rfl, .inl rfl, ?_⟩, fun ho => ?_⟩
      · rw [← HT.out, ho]; rfl
      · rw [← HT.out, ho]; rfl
    case round =>
      obtain ⟨i, vs, rs, kA, kc, O', hi0, rfl, rfl, hvl, ho1, S1, bb1, hr1, hr2⟩ := hrel
      clear y6 y7 d1
      have R2 := bb1.row HFF.out.2 HR0.out
      obtain ⟨y6, y7⟩ : wr.cell? ⟨q, 6, none⟩ = some (.int .i64 (n : Int)) ∧ wr.cell? ⟨q, 7, none⟩ = some (.int .i64 hi) := ⟨R2.at_ rfl, R2.at_ rfl⟩
      have d3 := S1.lens.2.2.2.2
      have hn4 : n ≤ 4096 := by omega
      clear R2 HBB HBQ HS1
      by_cases hlt : i < n
      · have hin : (i : Int) < (n : Int) := by omega
        cases O' with
        | none =>
          have d3 : wr.cell? ⟨b, 3, none⟩ = some (.bool true) := d3
          have HV0 : Hid ((∀ o', (none : Option (List Nd)) = some o' → vs = rs.map (fun k : Nat => (k : Int)) ∧ Lst rs o' ∧ T = some (o', rs)) ∧ ((none : Option (List Nd)) = none → T = none)) := ⟨(fun o' ho => by cases ho), hr2⟩
          clear hr1 hr2
          have HBT := hidd (bind_tail (P := P) (lo := (n : Int)) (hi := hi) (fun o' ho => (HV0.out.1 o' ho).2.2) HV0.out.2)
          have HRES0 := hidd (HBT.out.1)
          clear HBT
          rcases q2 with hh | hh
          · subst hh
            have hc := rstarC HP.out S1 (HN.out.below bb1.bel)
            have HRES : Hid (RES = ((none : Option (List Nd)).bind (repeatF P 0 (-1))).bind fun o => catF (rs ++ [o.length - 1]) o) := HRT.out.trans (HRES0.out rfl)
            have HV : Hid (∀ x, (none : Option (List Nd)).bind (repeatF P 0 (-1)) = some x → vs = rs.map (fun k : Nat => (k : Int))) := fun x hx => by
              cases hO : (none : Option (List Nd)) with
              | none => rw [hO] at hx; cases hx
              | some o' => exact (HV0.out.1 o' hO).1
            have HO1 := hidd ho1
            have HB1 := hidd bb1
            clear HRES0 HV0 HRT HT S1 ho1 bb1
            generalize (none : Option (List Nd)).bind (repeatF P 0 (-1)) = O5 at *
            go_wp2_with fail
            refine hc.mono ?_
            rintro e w5 ⟨b5', z5, rfl, hz5, S5⟩
            have b5 : BF B F' w1 w5 := HB1.out.trans (b5'.less (fun q hq => .inl hq))
            have ho5 := b5'.own HO1.out (fun k hk => .inr hk)
            have HZ5 := hidd hz5
            clear hc b5' hz5 HO1 HB1 d3 y6 y7
            have hown := ho5.alloc (.cells #[.int .i64 z5] 3)
            have hnews := int_news w5 z5
            have hH : (w5.alloc (.cells #[.int .i64 z5] 3)).heap.size = w5.heap.size + 1 := World.size_alloc ..
            have hbase : w1.heap.size ≤ (w5.alloc (.cells #[.int .i64 z5] 3)).heap.size := by rw [hH]; have := b5.bel.size; omega
            have HO5 := hidd ho5
            have HB5 := hidd b5
            have HS5b := hidd S5
            clear ho5 b5 S5
            go_upto_region 25 with (at_builtin; refine wpList_append_lies _ rfl _ _ _ rfl w1.heap.size 3 j0 (.int .i64 0) 1 8 Try.underlying23 hj0i hy0 hy1 hy2 rfl (by omega) _ i (ints vs) rfl hown ⟨w5.heap.size, 0, none⟩ 1 1 [.int .i64 z5] rfl rfl hnews (by simp [Value.oneCell']) (by omega) (by simp only [maxLen]; omega) (by omega) hbase (w5.heap.size + 1) hH ?_; intro g7 cap7 w7 hown7 hgrow hat hlt7; refine Hid.out ?_)
            obtain ⟨b7, S7⟩ := row_more (cap7 := cap7) HB5.out HS5b.out HFL.out HBW.out HO5.out hgrow hat hlt7
            have HO7 : Hid (w7.ownsRow w1.heap.size 3 1 (.slice (some ⟨g7, 0, none⟩) (i + 1) cap7) (i + 1) (ints (vs ++ [z5]))) := by
              show World.ownsRow _ _ _ _ _ _ _
              rw [← ints_snoc1]
              exact hown7
            have HB7 := hidd b7
            have HS7 := hidd S7
            clear hown hnews hH hbase hown7 hgrow hat hlt7 HO5 HB5 HS5b b7 S7
            refine Lib.hid ?_
            have hz5 := HZ5.out
            have hc := rcatC (HS7.out.less (fun q hq => .inl hq)) (vs ++ [z5]) (fun o => rs ++ [o.length - 1]) (fun o ho => ⟨by rw [HV.out _ ho, hz5 o ho, List.map_append]; rfl, .inr ⟨rs, rfl⟩⟩) _ _ _ (by rw [List.length_append, hvl]; rfl) (own_base HO7.out HBW.out) (row_apart HO7.out HFL.out)
            rw [← HRES.out] at hc
            clear hz5 HS7 HO7
            go_wp2_with fail
            refine hc.mono ?_
            rintro e w9 ⟨b9, z9, rfl, hz9, S9⟩
            have HF : Hid (RR F B b (some ⟨b1, o1, none⟩) ct gs (most : Int) w RES (.returned (.int .i64 z9)) w9) := RR.back HFF.out.1 HBA.out ⟨(HB7.out).trans b9, z9, rfl, hz9, S9⟩
            clear hc b9 hz9 S9
            go_wp2
            go_ret
            exact HF.out
          · have hne : (hi == -1) = false := beq_eq_false_iff_ne.2 (by omega)
            have hne2 : hi ≠ -1 := by omega
            by_cases hlh : (n : Int) < hi
            · obtain ⟨t, ht⟩ : ∃ t : Nat, hi - (n : Int) - 1 = t := ⟨(hi - n - 1).toNat, by omega⟩
              have hsb : hi - (n : Int) = (t : Int) + 1 := by omega
              have hc := rrestC HP.out t wr (none : Option (List Nd)) (by omega) S1 (HN.out.below bb1.bel)
              have HRES : Hid (RES = ((none : Option (List Nd)).bind (restF P t)).bind fun o => catF (rs ++ [o.length - 1]) o) := by
                have h := HRT.out.trans ((bind_tail (P := P) (lo := (n : Int)) (hi := hi) (fun o' ho => (HV0.out.1 o' ho).2.2) HV0.out.2).2.1 hne2 hlh)
                rw [ht, Int.toNat_natCast] at h
                exact h
              have HV : Hid (∀ x, (none : Option (List Nd)).bind (restF P t) = some x → vs = rs.map (fun k : Nat => (k : Int))) := fun x hx => by
                cases hO : (none : Option (List Nd)) with
                | none => rw [hO] at hx; cases hx
                | some o' => exact (HV0.out.1 o' hO).1
              have HO1 := hidd ho1
              have HB1 := hidd bb1
              clear HRES0 HV0 HRT HT S1 ho1 bb1 ht hne2
              generalize (none : Option (List Nd)).bind (restF P t) = O5 at *
              go_wp2_with fail
              refine hc.mono ?_
              rintro e w5 ⟨b5', z5, rfl, hz5, S5⟩
              have b5 : BF B F' w1 w5 := HB1.out.trans (b5'.less (fun q hq => .inl hq))
              have ho5 := b5'.own HO1.out (fun k hk => .inr hk)
              have HZ5 := hidd hz5
              clear hc b5' hz5 HO1 HB1 d3 y6 y7
              have hown := ho5.alloc (.cells #[.int .i64 z5] 3)
              have hnews := int_news w5 z5
              have hH : (w5.alloc (.cells #[.int .i64 z5] 3)).heap.size = w5.heap.size + 1 := World.size_alloc ..
              have hbase : w1.heap.size ≤ (w5.alloc (.cells #[.int .i64 z5] 3)).heap.size := by rw [hH]; have := b5.bel.size; omega
              have HO5 := hidd ho5
              have HB5 := hidd b5
              have HS5b := hidd S5
              clear ho5 b5 S5
              go_upto_region 25 with (at_builtin; refine wpList_append_lies _ rfl _ _ _ rfl w1.heap.size 3 j0 (.int .i64 0) 1 8 Try.underlying23 hj0i hy0 hy1 hy2 rfl (by omega) _ i (ints vs) rfl hown ⟨w5.heap.size, 0, none⟩ 1 1 [.int .i64 z5] rfl rfl hnews (by simp [Value.oneCell']) (by omega) (by simp only [maxLen]; omega) (by omega) hbase (w5.heap.size + 1) hH ?_; intro g7 cap7 w7 hown7 hgrow hat hlt7; refine Hid.out ?_)
              obtain ⟨b7, S7⟩ := row_more (cap7 := cap7) HB5.out HS5b.out HFL.out HBW.out HO5.out hgrow hat hlt7
              have HO7 : Hid (w7.ownsRow w1.heap.size 3 1 (.slice (some ⟨g7, 0, none⟩) (i + 1) cap7) (i + 1) (ints (vs ++ [z5]))) := by
                show World.ownsRow _ _ _ _ _ _ _
                rw [← ints_snoc1]
                exact hown7
              have HB7 := hidd b7
              have HS7 := hidd S7
              clear hown hnews hH hbase hown7 hgrow hat hlt7 HO5 HB5 HS5b b7 S7
              refine Lib.hid ?_
              have hz5 := HZ5.out
              have hc := rcatC (HS7.out.less (fun q hq => .inl hq)) (vs ++ [z5]) (fun o => rs ++ [o.length - 1]) (fun o ho => ⟨by rw [HV.out _ ho, hz5 o ho, List.map_append]; rfl, .inr ⟨rs, rfl⟩⟩) _ _ _ (by rw [List.length_append, hvl]; rfl) (own_base HO7.out HBW.out) (row_apart HO7.out HFL.out)
              rw [← HRES.out] at hc
              clear hz5 HS7 HO7
              go_wp2_with fail
              refine hc.mono ?_
              rintro e w9 ⟨b9, z9, rfl, hz9, S9⟩
              have HF : Hid (RR F B b (some ⟨b1, o1, none⟩) ct gs (most : Int) w RES (.returned (.int .i64 z9)) w9) := RR.back HFF.out.1 HBA.out ⟨(HB7.out).trans b9, z9, rfl, hz9, S9⟩
              clear hc b9 hz9 S9
              go_wp2
              go_ret
              exact HF.out
            · have hc := rcatC (S1.less (fun q hq => .inl hq)) vs (fun o => rs) (fun o ho => ⟨(HV0.out.1 o ho).1, (HV0.out.1 o ho).2.1⟩) _ _ _ hvl (own_base ho1 HBW.out) (row_apart ho1 HFL.out)
              have HRES : Hid (RES = (none : Option (List Nd)).bind fun o => catF rs o) := HRT.out.trans ((bind_tail (P := P) (lo := (n : Int)) (hi := hi) (fun o' ho => (HV0.out.1 o' ho).2.2) HV0.out.2).2.2 hne2 hlh)
              rw [← HRES.out] at hc
              have HB1 := hidd (bb1.less (fun q hq => hq))
              clear HRES0 HV0 HRT HT S1 ho1 bb1 hne2 HRES
              go_wp2_with fail
              refine hc.mono ?_
              rintro e w9 ⟨b9, z9, rfl, hz9, S9⟩
              have HF : Hid (RR F B b (some ⟨b1, o1, none⟩) ct gs (most : Int) w RES (.returned (.int .i64 z9)) w9) := RR.back HFF.out.1 HBA.out ⟨(HB1.out).trans b9, z9, rfl, hz9, S9⟩
              clear hc b9 hz9 S9
              go_wp2
              go_ret
              exact HF.out
        | some o' =>
          have d3 : wr.cell? ⟨b, 3, none⟩ = some (.bool false) := d3
          obtain ⟨hv1, hl1, ht1⟩ := hr1 o' rfl
          have hc := HP.out _ wr (some o') S1 (HN.out.below bb1.bel)
          rw [Option.bind_some] at hc
          have e : n - i = (n - (i + 1)) + 1 := by omega
          rw [e] at ht1
          have HT1 : Hid ((match P o' with | none => none | some o'' => timesF P (n - (i + 1)) o'' (rs ++ [o''.length - 1])) = T) := ht1
          have HV1 := hidd hv1
          have HO1 := hidd ho1
          have HB1 := hidd bb1
          clear e ht1 hr1 hr2 hv1 hl1 S1 ho1 bb1
          generalize P o' = O5 at *
          go_wp2_with fail
          refine hc.mono ?_
          rintro e w5 ⟨b5', z5, rfl, hz5, S5⟩
          have b5 : BF B F' w1 w5 := HB1.out.trans (b5'.less (fun q hq => .inl hq))
          have ho5 := b5'.own HO1.out (fun k hk => .inr hk)
          have HZ5 := hidd hz5
          clear hc b5' hz5 HO1 HB1 d3 y6 y7
          have hown := ho5.alloc (.cells #[.int .i64 z5] 3)
          have hnews := int_news w5 z5
          have hH : (w5.alloc (.cells #[.int .i64 z5] 3)).heap.size = w5.heap.size + 1 := World.size_alloc ..
          have hbase : w1.heap.size ≤ (w5.alloc (.cells #[.int .i64 z5] 3)).heap.size := by rw [hH]; have := b5.bel.size; omega
          have HO5 := hidd ho5
          have HB5 := hidd b5
          have HS5b := hidd S5
          clear ho5 b5 S5
          go_upto_region 19 with (at_builtin; refine wpList_append_lies _ rfl _ _ _ rfl w1.heap.size 3 j0 (.int .i64 0) 1 8 Try.underlying23 hj0i hy0 hy1 hy2 rfl (by omega) _ i (ints vs) rfl hown ⟨w5.heap.size, 0, none⟩ 1 1 [.int .i64 z5] rfl rfl hnews (by simp [Value.oneCell']) (by omega) (by simp only [maxLen]; omega) (by omega) hbase (w5.heap.size + 1) hH ?_; intro g7 cap7 w7 hown7 hgrow hat hlt7; refine Hid.out ?_)
          obtain ⟨b7, S7⟩ := row_more (cap7 := cap7) HB5.out HS5b.out HFL.out HBW.out HO5.out hgrow hat hlt7
          have HO7 : Hid (w7.ownsRow w1.heap.size 3 1 (.slice (some ⟨g7, 0, none⟩) (i + 1) cap7) (i + 1) (ints (vs ++ [z5]))) := by
            show World.ownsRow _ _ _ _ _ _ _
            rw [← ints_snoc1]
            exact hown7
          have HB7 := hidd b7
          have HS7 := hidd S7
          clear hown hnews hH hbase hown7 hgrow hat hlt7 HO5 HB5 HS5b b7 S7
          refine Lib.hid ?_
          have HFIN : Hid (∃ rs', (∀ o'', O5 = some o'' → vs ++ [z5] = rs'.map (fun k : Nat => (k : Int)) ∧ Lst rs' o'' ∧ timesF P (n - (i + 1)) o'' rs' = T) ∧ (O5 = none → T = none)) := by
            cases O5 with
            | none => exact ⟨[], (fun o'' ho => by cases ho), fun _ => HT1.out.symm⟩
            | some o5 =>
              refine ⟨rs ++ [o5.length - 1], fun o'' ho => ?_, (fun ho => by cases ho)⟩
              cases ho
              exact ⟨by rw [HV1.out, HZ5.out _ rfl, List.map_append]; rfl, .inr ⟨rs, rfl⟩, HT1.out⟩
          clear HT1 HV1 HZ5
          go_wp2
          obtain ⟨rs', hf1, hf2⟩ := HFIN.out
          exact ⟨⟨i + 1, vs ++ [z5], rs', some ⟨g7, 0, none⟩, cap7, O5, by omega, rfl, rfl, by rw [List.length_append, hvl]; rfl, HO7.out, HS7.out, HB7.out, hf1, hf2⟩, by simp [intOf]; omega⟩
      · have hie : n = i := by omega
        subst hie
        have HV0 : Hid ((∀ o', O' = some o' → vs = rs.map (fun k : Nat => (k : Int)) ∧ Lst rs o' ∧ T = some (o', rs)) ∧ (O' = none → T = none)) := ⟨fun o' ho => by
          obtain ⟨h1, h2, h3⟩ := hr1 o' ho
          rw [Nat.sub_self] at h3
          exact ⟨h1, h2, h3.symm⟩, hr2⟩
        clear hr1 hr2 hlt
        have HBT := hidd (bind_tail (P := P) (lo := (n : Int)) (hi := hi) (fun o' ho => (HV0.out.1 o' ho).2.2) HV0.out.2)
        have HRES0 := hidd (HBT.out.1)
        clear HBT
        rcases q2 with hh | hh
        · subst hh
          have hc := rstarC HP.out S1 (HN.out.below bb1.bel)
          have HRES : Hid (RES = (O'.bind (repeatF P 0 (-1))).bind fun o => catF (rs ++ [o.length - 1]) o) := HRT.out.trans (HRES0.out rfl)
          have HV : Hid (∀ x, O'.bind (repeatF P 0 (-1)) = some x → vs = rs.map (fun k : Nat => (k : Int))) := fun x hx => by
            cases hO : O' with
            | none => rw [hO] at hx; cases hx
            | some o' => exact (HV0.out.1 o' hO).1
          have HO1 := hidd ho1
          have HB1 := hidd bb1
          clear HRES0 HV0 HRT HT S1 ho1 bb1
          generalize O'.bind (repeatF P 0 (-1)) = O5 at *
          go_wp2_with fail
          refine hc.mono ?_
          rintro e w5 ⟨b5', z5, rfl, hz5, S5⟩
          have b5 : BF B F' w1 w5 := HB1.out.trans (b5'.less (fun q hq => .inl hq))
          have ho5 := b5'.own HO1.out (fun k hk => .inr hk)
          have HZ5 := hidd hz5
          clear hc b5' hz5 HO1 HB1 d3 y6 y7
          have hown := ho5.alloc (.cells #[.int .i64 z5] 3)
          have hnews := int_news w5 z5
          have hH : (w5.alloc (.cells #[.int .i64 z5] 3)).heap.size = w5.heap.size + 1 := World.size_alloc ..
          have hbase : w1.heap.size ≤ (w5.alloc (.cells #[.int .i64 z5] 3)).heap.size := by rw [hH]; have := b5.bel.size; omega
          have HO5 := hidd ho5
          have HB5 := hidd b5
          have HS5b := hidd S5
          clear ho5 b5 S5
          go_upto_region 25 with (at_builtin; refine wpList_append_lies _ rfl _ _ _ rfl w1.heap.size 3 j0 (.int .i64 0) 1 8 Try.underlying23 hj0i hy0 hy1 hy2 rfl (by omega) _ n (ints vs) rfl hown ⟨w5.heap.size, 0, none⟩ 1 1 [.int .i64 z5] rfl rfl hnews (by simp [Value.oneCell']) (by omega) (by simp only [maxLen]; omega) (by omega) hbase (w5.heap.size + 1) hH ?_; intro g7 cap7 w7 hown7 hgrow hat hlt7; refine Hid.out ?_)
          obtain ⟨b7, S7⟩ := row_more (cap7 := cap7) HB5.out HS5b.out HFL.out HBW.out HO5.out hgrow hat hlt7
          have HO7 : Hid (w7.ownsRow w1.heap.size 3 1 (.slice (some ⟨g7, 0, none⟩) (n + 1) cap7) (n + 1) (ints (vs ++ [z5]))) := by
            show World.ownsRow _ _ _ _ _ _ _
            rw [← ints_snoc1]
            exact hown7
          have HB7 := hidd b7
          have HS7 := hidd S7
          clear hown hnews hH hbase hown7 hgrow hat hlt7 HO5 HB5 HS5b b7 S7
          refine Lib.hid ?_
          have hz5 := HZ5.out
          have hc := rcatC (HS7.out.less (fun q hq => .inl hq)) (vs ++ [z5]) (fun o => rs ++ [o.length - 1]) (fun o ho => ⟨by rw [HV.out _ ho, hz5 o ho, List.map_append]; rfl, .inr ⟨rs, rfl⟩⟩) _ _ _ (by rw [List.length_append, hvl]; rfl) (own_base HO7.out HBW.out) (row_apart HO7.out HFL.out)
          rw [← HRES.out] at hc
          clear hz5 HS7 HO7
          go_wp2_with fail
          refine hc.mono ?_
          rintro e w9 ⟨b9, z9, rfl, hz9, S9⟩
          have HF : Hid (RR F B b (some ⟨b1, o1, none⟩) ct gs (most : Int) w RES (.returned (.int .i64 z9)) w9) := RR.back HFF.out.1 HBA.out ⟨(HB7.out).trans b9, z9, rfl, hz9, S9⟩
          clear hc b9 hz9 S9
          go_wp2
          go_ret
          exact HF.out
        · have hne : (hi == -1) = false := beq_eq_false_iff_ne.2 (by omega)
          have hne2 : hi ≠ -1 := by omega
          by_cases hlh : (n : Int) < hi
          · obtain ⟨t, ht⟩ : ∃ t : Nat, hi - (n : Int) - 1 = t := ⟨(hi - n - 1).toNat, by omega⟩
            have hsb : hi - (n : Int) = (t : Int) + 1 := by omega
            have hc := rrestC HP.out t wr O' (by omega) S1 (HN.out.below bb1.bel)
            have HRES : Hid (RES = (O'.bind (restF P t)).bind fun o => catF (rs ++ [o.length - 1]) o) := by
              have h := HRT.out.trans ((bind_tail (P := P) (lo := (n : Int)) (hi := hi) (fun o' ho => (HV0.out.1 o' ho).2.2) HV0.out.2).2.1 hne2 hlh)
              rw [ht, Int.toNat_natCast] at h
              exact h
            have HV : Hid (∀ x, O'.bind (restF P t) = some x → vs = rs.map (fun k : Nat => (k : Int))) := fun x hx => by
              cases hO : O' with
              | none => rw [hO] at hx; cases hx
              | some o' => exact (HV0.out.1 o' hO).1
            have HO1 := hidd ho1
            have HB1 := hidd bb1
            clear HRES0 HV0 HRT HT S1 ho1 bb1 ht hne2
            generalize O'.bind (restF P t) = O5 at *
            go_wp2_with fail
            refine hc.mono ?_
            rintro e w5 ⟨b5', z5, rfl, hz5, S5⟩
            have b5 : BF B F' w1 w5 := HB1.out.trans (b5'.less (fun q hq => .inl hq))
            have ho5 := b5'.own HO1.out (fun k hk => .inr hk)
            have HZ5 := hidd hz5
            clear hc b5' hz5 HO1 HB1 d3 y6 y7
            have hown := ho5.alloc (.cells #[.int .i64 z5] 3)
            have hnews := int_news w5 z5
            have hH : (w5.alloc (.cells #[.int .i64 z5] 3)).heap.size = w5.heap.size + 1 := World.size_alloc ..
            have hbase : w1.heap.size ≤ (w5.alloc (.cells #[.int .i64 z5] 3)).heap.size := by rw [hH]; have := b5.bel.size; omega
            have HO5 := hidd ho5
            have HB5 := hidd b5
            have HS5b := hidd S5
            clear ho5 b5 S5
            go_upto_region 25 with (at_builtin; refine wpList_append_lies _ rfl _ _ _ rfl w1.heap.size 3 j0 (.int .i64 0) 1 8 Try.underlying23 hj0i hy0 hy1 hy2 rfl (by omega) _ n (ints vs) rfl hown ⟨w5.heap.size, 0, none⟩ 1 1 [.int .i64 z5] rfl rfl hnews (by simp [Value.oneCell']) (by omega) (by simp only [maxLen]; omega) (by omega) hbase (w5.heap.size + 1) hH ?_; intro g7 cap7 w7 hown7 hgrow hat hlt7; refine Hid.out ?_)
            obtain ⟨b7, S7⟩ := row_more (cap7 := cap7) HB5.out HS5b.out HFL.out HBW.out HO5.out hgrow hat hlt7
            have HO7 : Hid (w7.ownsRow w1.heap.size 3 1 (.slice (some ⟨g7, 0, none⟩) (n + 1) cap7) (n + 1) (ints (vs ++ [z5]))) := by
              show World.ownsRow _ _ _ _ _ _ _
              rw [← ints_snoc1]
              exact hown7
            have HB7 := hidd b7
            have HS7 := hidd S7
            clear hown hnews hH hbase hown7 hgrow hat hlt7 HO5 HB5 HS5b b7 S7
            refine Lib.hid ?_
            have hz5 := HZ5.out
            have hc := rcatC (HS7.out.less (fun q hq => .inl hq)) (vs ++ [z5]) (fun o => rs ++ [o.length - 1]) (fun o ho => ⟨by rw [HV.out _ ho, hz5 o ho, List.map_append]; rfl, .inr ⟨rs, rfl⟩⟩) _ _ _ (by rw [List.length_append, hvl]; rfl) (own_base HO7.out HBW.out) (row_apart HO7.out HFL.out)
            rw [← HRES.out] at hc
            clear hz5 HS7 HO7
            go_wp2_with fail
            refine hc.mono ?_
            rintro e w9 ⟨b9, z9, rfl, hz9, S9⟩
            have HF : Hid (RR F B b (some ⟨b1, o1, none⟩) ct gs (most : Int) w RES (.returned (.int .i64 z9)) w9) := RR.back HFF.out.1 HBA.out ⟨(HB7.out).trans b9, z9, rfl, hz9, S9⟩
            clear hc b9 hz9 S9
            go_wp2
            go_ret
            exact HF.out
          · have hc := rcatC (S1.less (fun q hq => .inl hq)) vs (fun o => rs) (fun o ho => ⟨(HV0.out.1 o ho).1, (HV0.out.1 o ho).2.1⟩) _ _ _ hvl (own_base ho1 HBW.out) (row_apart ho1 HFL.out)
            have HRES : Hid (RES = O'.bind fun o => catF rs o) := HRT.out.trans ((bind_tail (P := P) (lo := (n : Int)) (hi := hi) (fun o' ho => (HV0.out.1 o' ho).2.2) HV0.out.2).2.2 hne2 hlh)
            rw [← HRES.out] at hc
            have HB1 := hidd (bb1.less (fun q hq => hq))
            clear HRES0 HV0 HRT HT S1 ho1 bb1 hne2 HRES
            go_wp2_with fail
            refine hc.mono ?_
            rintro e w9 ⟨b9, z9, rfl, hz9, S9⟩
            have HF : Hid (RR F B b (some ⟨b1, o1, none⟩) ct gs (most : Int) w RES (.returned (.int .i64 z9)) w9) := RR.back HFF.out.1 HBA.out ⟨(HB1.out).trans b9, z9, rfl, hz9, S9⟩
            clear hc b9 hz9 S9
            go_wp2
            go_ret
            exact HF.out
end Go.Proofs.Ytahhiajliomcfaa.Sy.Pl.Qr

/- The reference's rep: a repetition, from some places on. -/
import Derived.Test.YtdaaigkmlbpbgaaPGx
namespace Go.Proofs.Ytdaaigkmlbpbgaa.Sy.Lg.Rn
open Go.RowKit Go.Proofs.Ytdaaigkmlbpbgaa.Sy.Ap Go.Proofs.Ytdaaigkmlbpbgaa.Sy.Ap.Wk Go.Proofs.Ytdaaigkmlbpbgaa.Sy.Lg.En
set_option maxRecDepth 100000
set_option linter.unusedVariables false

theorem up_split {R : Rel} {X : Nat → Prop} {s j : Nat} : img (upR R (s + 1)) X j ↔ img (upR R s) X j ∨ img (powR R (s + 1)) X j := by
  constructor
  · rintro ⟨i, hi, t, ht, h⟩
    by_cases e : t ≤ s
    · exact .inl ⟨i, hi, t, e, h⟩
    · have : t = s + 1 := by omega
      subst this
      exact .inr ⟨i, hi, h⟩
  · rintro (⟨i, hi, t, ht, h⟩ | ⟨i, hi, h⟩)
    · exact ⟨i, hi, t, by omega, h⟩
    · exact ⟨i, hi, s + 1, Nat.le_refl _, h⟩
/-- Where so many times more find nothing new that is all. -/
theorem up_fix {R : Rel} {Y : Nat → Prop} {s : Nat} (h : ∀ j, img (powR R (s + 1)) Y j → img (upR R s) Y j) : ∀ t j, img (upR R (s + t)) Y j ↔ img (upR R s) Y j := by
  refine img_up_same fun j => ?_
  rintro ⟨m, ⟨i, hi, t, ht, q1⟩, q2⟩
  by_cases e : t < s
  · exact ⟨i, hi, t + 1, by omega, m, q1, q2⟩
  · have : t = s := by omega
    subst this
    exact h j ⟨i, hi, m, q1, q2⟩
theorem rep_done {R : Rel} {X : Nat → Prop} {lo s : Nat} {hi : Int} (hv : hi = -1 ∨ (lo : Int) ≤ hi) (hs : hi = -1 ∨ (lo : Int) + (s : Int) ≤ hi)
    (hstop : (hi ≠ -1 ∧ (lo : Int) + (s : Int) = hi) ∨ ∀ j, img (powR R (s + 1)) (img (powR R lo) X) j → img (upR R s) (img (powR R lo) X) j) (j : Nat) :
    img (upR R s) (img (powR R lo) X) j ↔ img (repR R (lo : Int) hi) X j := by
  by_cases h1 : hi = -1
  · subst h1
    have hf := hstop.resolve_left (fun q => q.1 rfl)
    rw [img_rep_end (by omega)]
    constructor
    · intro h; exact ⟨s, h⟩
    · rintro ⟨t, ht⟩
      rcases Nat.le_total t s with q | q
      · obtain ⟨i, hi, r, hr, h⟩ := ht
        exact ⟨i, hi, r, by omega, h⟩
      · rw [show t = s + (t - s) from by omega, up_fix hf] at ht
        exact ht
  · obtain ⟨m, rfl⟩ : ∃ m : Nat, hi = (m : Int) := ⟨hi.toNat, by omega⟩
    rw [img_rep (by omega)]
    rcases hstop with ⟨_, q⟩ | q
    · rw [show m - lo = s from by omega]
    · rw [show m - lo = s + (m - lo - s) from by omega, up_fix q]
theorem pow_fix {R : Rel} {X : Nat → Prop} {i lo : Nat} (hi : i ≤ lo) (h : ∀ j, img R (img (powR R i) X) j ↔ img (powR R i) X j) (j : Nat) : img (powR R lo) X j ↔ img (powR R i) X j := by
  rw [show lo = i + (lo - i) from by omega, img_same h]
/-- What a kid's places owe. -/
def KidC (base : World) (n : Nat) (L : Option Addr) (ll lc : Nat) (s : ByteArray) (k : Nat) (R : Rel) : Prop :=
  ∀ (u : World) (A : Option Addr) (c : Nat) (f : Nat → Bool) (X : Nat → Prop), Below base.heap.size base u → Bls u u.heap.size A n f → (∀ j, j < n → (f j = true ↔ X j)) → (∀ j, X j → j < n) →
    Calls Try.prog 33 #[.slice L ll lc, .int .i64 (k : Int), .string s, .slice A n c] u fun e w' => BlR n u (img R X) e w'
theorem img_lt {R : Rel} {n : Nat} (hR : ∀ i j, R i j → i < n → j < n) {X : Nat → Prop} (hX : ∀ j, X j → j < n) (j : Nat) (h : img R X j) : j < n := by
  obtain ⟨i, hi, q⟩ := h
  exact hR i j q (hX i hi)
theorem pow_lt {R : Rel} {n : Nat} (hR : ∀ i j, R i j → i < n → j < n) : ∀ (t i j : Nat), powR R t i j → i < n → j < n
  | 0, i, j, q, hi => by cases q; exact hi
  | t + 1, i, j, ⟨m, q1, q2⟩, hi => hR m j q2 (pow_lt hR t i m q1 hi)
set_option maxHeartbeats 4000000 in
theorem rep_any (base : World) (g : Gd) (kA : Option Addr) (kc k : Nat) (L : Option Addr) (ll lc : Nat) (s : ByteArray) (A : Option Addr) (c n : Nat) (f : Nat → Bool) (X : Nat → Prop) (R : Rel) (w : World) (hb : Below base.heap.size base w)
    (hkA : Its w base.heap.size kA g.l) (hgl : g.l = [(k : Int)]) (hk : k < 1024) (hlo0 : 0 ≤ g.lo) (hlo1 : g.lo ≤ 4096) (hhi : g.hi = -1 ∨ (1 ≤ g.hi ∧ g.hi ≤ 4096 ∧ g.lo ≤ g.hi))
    (hx : Bls w w.heap.size A n f) (hf : ∀ j, j < n → (f j = true ↔ X j)) (hX : ∀ j, X j → j < n) (hR : ∀ i j, R i j → i < n → j < n) (hn : 0 < n) (hl : n ≤ 1000)
    (hC : KidC base n L ll lc s k R) :
    Calls Try.prog 47 #[.slice L ll lc, .agg #[.int .u8 g.op, .int .u64 (W g.s 0), .int .u64 (W g.s 1), .int .u64 (W g.s 2), .int .u64 (W g.s 3), .slice kA g.l.length kc, .int .i64 g.lo, .int .i64 g.hi, .string g.nm], .string s, .slice A n c] w fun e w' => BlR n w (img (repR R g.lo g.hi) X) e w' := by
  obtain ⟨lo, hlo⟩ : ∃ lo : Nat, g.lo = (lo : Int) := ⟨g.lo.toNat, by omega⟩
  obtain ⟨hi, hhe⟩ : ∃ hi, g.hi = hi := ⟨_, rfl⟩
  obtain ⟨b0, o0, rfl, hb0, hkc0⟩ := hkA.at_ (k := 0) (by rw [hgl]; simp)
  have hkcell : w.cell? ⟨b0, o0, none⟩ = some (.int .i64 (k : Int)) := by
    have := hkc0
    rw [hgl] at this
    exact this
  have hlen : g.l.length = 1 := by rw [hgl]; rfl
  rw [hlo, hhe] at hhi ⊢
  rw [hlo] at hlo0 hlo1
  rw [hlen]
  have HKC : Hid (∀ u, Below w.heap.size w u → u.cell? ⟨b0, o0, none⟩ = some (.int .i64 (k : Int))) := fun u hu => by
    rw [hu.cell (by show b0 < _; have := hb.size; omega)]; exact hkcell
  have HC := hidd hC
  have HB := hidd hb
  have HR := hidd hR
  have HX := hidd hX
  have HF := hidd hf
  have HBX := hidd hx
  have HHI := hidd hhi
  clear hC hb hR hX hf hx hhi hkc0 hkcell hgl hlen hkA hlo hhe hlo0
  generalize g.op = gop at *
  generalize W g.s 0 = w0 at *
  generalize W g.s 1 = w1 at *
  generalize W g.s 2 = w2 at *
  generalize W g.s 3 = w3 at *
  generalize g.nm = gnm at *
  have R0 := RowA.new w 38 #[.int .u8 gop, .int .u64 w0, .int .u64 w1, .int .u64 w2, .int .u64 w3, .slice (some ⟨b0, o0, none⟩) 1 kc, .int .i64 (lo : Int), .int .i64 hi, .string gnm]
  have bA : Below w.heap.size w (w.alloc (.cells #[.int .u8 gop, .int .u64 w0, .int .u64 w1, .int .u64 w2, .int .u64 w3, .slice (some ⟨b0, o0, none⟩) 1 kc, .int .i64 (lo : Int), .int .i64 hi, .string gnm] 38)) := (Below.refl _ _).alloc (Nat.le_refl _) _
  go_enter Try.func47, Try.ntmps47
  go_upto_region 1 with fail
  generalize w.alloc (.cells #[.int .u8 gop, .int .u64 w0, .int .u64 w1, .int .u64 w2, .int .u64 w3, .slice (some ⟨b0, o0, none⟩) 1 kc, .int .i64 (lo : Int), .int .i64 hi, .string gnm] 38) = wA at *
  obtain ⟨qb, hqb⟩ : ∃ qb, w.heap.size = qb := ⟨_, rfl⟩
  rw [hqb] at R0
  rw [hqb]
  have HQB := hidd hqb
  have HBA := hidd bA
  have HR0 := hidd R0
  clear hqb R0 bA
  go_wp2
  go_loopw [3, 9] (fun s3 s9 wr => ∃ (i : Nat) (A2 : Option Addr) (c2 : Nat) (f2 : Nat → Bool), i ≤ lo ∧ s9 = .int .i64 (i : Int) ∧ s3 = .slice A2 n c2 ∧ Below wA.heap.size wA wr ∧ Bls wr wr.heap.size A2 n f2 ∧ ∀ j, j < n → (f2 j = true ↔ img (powR R i) X j)) (fun _ s9 _ => lo - (intOf s9).toNat)
  case atStart => exact ⟨0, _, _, f, Nat.zero_le _, rfl, rfl, Below.refl _ _, (HBX.out.below HBA.out).more HBA.out.size, fun j hj => by rw [HF.out j hj, img_zero]⟩
  case round =>
    obtain ⟨i, A2, c2, f2, hi0, rfl, rfl, hbw, hb2, hf2⟩ := hrel
    have y6 : wr.cell? ⟨qb, 6, none⟩ = some (.int .i64 (lo : Int)) := by rw [hbw.cell (by exact HR0.out.lt)]; exact HR0.out.at_ rfl
    have y5 : wr.cell? ⟨qb, 5, none⟩ = some (.slice (some ⟨b0, o0, none⟩) 1 kc) := by rw [hbw.cell (by exact HR0.out.lt)]; exact HR0.out.at_ rfl
    have yk := HKC.out wr (HBA.out.trans (hbw.mono HBA.out.size))
    by_cases hlt : i < lo
    · have hii : (i : Int) < (lo : Int) := by omega
      have HBASE : Hid (Below base.heap.size base wr) := HB.out.trans ((HBA.out.trans (hbw.mono HBA.out.size)).mono HB.out.size)
      have hkid := HC.out wr A2 c2 f2 (img (powR R i) X) HBASE.out hb2 hf2 (fun j q => img_lt (pow_lt HR.out i) HX.out j q)
      have HBW := hidd hbw
      have HB2 := hidd hb2
      have HF2 := hidd hf2
      clear hbw hb2 hf2
      go_wp2_with fail
      refine hkid.mono ?_
      rintro e w5 ⟨b5, A5, c5, f5, rfl, hb5, hf5⟩
      have hsame := same_any A5 A2 c5 c2 n f5 f2 w5 hb5 ((HB2.out.below b5).more b5.size) hl
      have HB5 := hidd (HBW.out.trans (b5.mono HBW.out.size))
      have HB25 := hidd ((HB2.out.below b5).more b5.size)
      have HBL5 := hidd hb5
      have HF5 : Hid (∀ j, j < n → (f5 j = true ↔ img (powR R (i + 1)) X j)) := fun j hj => by rw [hf5 j hj, img_pow]
      clear hkid b5 hb5 hf5
      go_wp2_with fail
      refine hsame.mono ?_
      rintro e w6 ⟨b6, z, rfl, hz⟩
      have HB6 := hidd (HB5.out.trans (b6.mono HB5.out.size))
      have HB26 := hidd ((HB25.out.below b6).more b6.size)
      have HBL6 := hidd ((HBL5.out.below b6).more b6.size)
      have HZ := hidd hz
      clear hsame b6 hz
      cases z with
      | false =>
        go_wp2
        exact ⟨⟨i + 1, _, _, f5, by omega, rfl, rfl, HB6.out, HBL6.out, HF5.out⟩, by simp [intOf]; omega⟩
      | true =>
        have hY : ∀ j, j < n → (f2 j = true ↔ img (powR R lo) X j) := fun j hj => by
          rw [HF2.out j hj]
          refine (pow_fix (Nat.le_of_lt hlt) (fun j => ?_) j).symm
          constructor
          · intro q
            have hjn : j < n := img_lt HR.out (fun j q => img_lt (pow_lt HR.out i) HX.out j q) j q
            have h1 := (HZ.out.1 (by trivial)) j hjn
            rw [← HF2.out j hjn, ← h1, HF5.out j hjn, img_pow]
            exact q
          · intro q
            have hjn : j < n := img_lt (pow_lt HR.out i) HX.out j q
            have h1 := (HZ.out.1 (by trivial)) j hjn
            rw [← HF2.out j hjn, ← h1, HF5.out j hjn, img_pow] at q
            exact q
        have HB6' := HB6.out
        have HB26' := HB26.out
        clear y6 y5 yk hii
        have HBW := hidd HB6'
        have HBL := hidd HB26'
        have HY := hidd hY
        have y6 := HBW.out.cell (show (⟨qb, 6, none⟩ : Addr).block < wA.heap.size from HR0.out.lt)
        rw [show wA.cell? ⟨qb, 6, none⟩ = some (.int .i64 (lo : Int)) from HR0.out.at_ rfl] at y6
        go_wp2
        go_loopw [3, 11, 12] (fun s3 s11 s12 wr => ∃ (s_ : Nat) (A3 : Option Addr) (c3 : Nat) (f3 : Nat → Bool) (A4 : Option Addr) (c4 : Nat) (f4 : Nat → Bool), s_ ≤ n ∧ s12 = .int .i64 ((lo : Int) + (s_ : Int)) ∧ s3 = .slice A3 n c3 ∧ s11 = .slice A4 n c4 ∧ Below wA.heap.size wA wr ∧ Bls wr wr.heap.size A3 n f3 ∧ Bls wr wr.heap.size A4 n f4 ∧ (∀ j, j < n → (f3 j = true ↔ img (powR R s_) (img (powR R lo) X) j)) ∧ (∀ j, j < n → (f4 j = true ↔ img (upR R s_) (img (powR R lo) X) j)) ∧ s_ ≤ cnt f4 (n - 1) ∧ (hi = -1 ∨ (lo : Int) + (s_ : Int) ≤ hi)) (fun _ _ s12 _ => n + lo + 1 - (intOf s12).toNat)
        case atStart => exact ⟨0, _, _, _, _, _, _, Nat.zero_le _, by simp, rfl, rfl, HBW.out, HBL.out, HBL.out, fun j hj => by rw [HY.out j hj, img_zero], fun j hj => by rw [HY.out j hj, img_up_zero], Nat.zero_le _, by rcases HHI.out with q | q; exact .inl q; exact .inr (by omega)⟩
        case round =>
          clear HBW HBL HY
          obtain ⟨s_, A3, c3, f3, A4, c4, f4, hsn, rfl, rfl, rfl, hbw, hb3, hb4, hf3, hf4, hct, hsh⟩ := hrel
          have y7 : wr.cell? ⟨qb, 7, none⟩ = some (.int .i64 hi) := by rw [hbw.cell (by exact HR0.out.lt)]; exact HR0.out.at_ rfl
          have y5 : wr.cell? ⟨qb, 5, none⟩ = some (.slice (some ⟨b0, o0, none⟩) 1 kc) := by rw [hbw.cell (by exact HR0.out.lt)]; exact HR0.out.at_ rfl
          have yk := HKC.out wr (HBA.out.trans (hbw.mono HBA.out.size))
          have hls : (lo : Int) + (s_ : Int) ≤ 6000 := by omega
          have hls0 : 0 ≤ (lo : Int) + (s_ : Int) := by omega
          have HBASE : Hid (Below base.heap.size base wr) := HB.out.trans ((HBA.out.trans (hbw.mono HBA.out.size)).mono HB.out.size)
          have hkid := HC.out wr A3 c3 f3 (img (powR R s_) (img (powR R lo) X)) HBASE.out hb3 hf3 (fun j q => img_lt (pow_lt HR.out s_) (fun j q => img_lt (pow_lt HR.out lo) HX.out j q) j q)
          have HBW := hidd hbw
          have HB4 := hidd hb4
          have HF4 := hidd hf4
          have HCT := hidd hct
          have HSH := hidd hsh
          by_cases hgo : hi = -1 ∨ (lo : Int) + (s_ : Int) < hi
          · have hval : Hid ((hi = -1 ∧ ¬ ((lo : Int) + (s_ : Int) < hi)) ∨ (lo : Int) + (s_ : Int) < hi) := by
              rcases hgo with q | q
              · exact .inl ⟨q, by omega⟩
              · exact .inr q
            clear hgo hbw hb3 hb4 hf3 hf4 hct hsh
            rcases hval.out with ⟨q1, q2⟩ | q1
            · have q3 : (hi == -1) = true := by simp [q1]
              have HQ1 : Hid (hi = -1 ∨ (lo : Int) + ((s_ + 1 : Nat) : Int) ≤ hi) := .inl q1
              clear q1
              go_wp2_with fail
              refine hkid.mono ?_
              rintro e w5 ⟨b5, A5, c5, f5, rfl, hb5, hf5⟩
              have hor := or_any A4 A5 c4 c5 n f4 f5 w5 ((HB4.out.below b5).more b5.size) hb5 hn hl
              have HB5 := hidd (HBW.out.trans (b5.mono HBW.out.size))
              have HB45 := hidd ((HB4.out.below b5).more b5.size)
              have HBL5 := hidd hb5
              have HF5 := hidd hf5
              clear hkid b5 hb5 hf5
              go_wp2_with fail
              refine hor.mono ?_
              rintro e w6 ⟨b6, A6, c6, f6, rfl, hb6, hf6⟩
              have hsame := same_any A6 A4 c6 c4 n f6 f4 w6 hb6 ((HB45.out.below b6).more b6.size) hl
              have HB6 := hidd (HB5.out.trans (b6.mono HB5.out.size))
              have HB46 := hidd ((HB45.out.below b6).more b6.size)
              have HBL56 := hidd ((HBL5.out.below b6).more b6.size)
              have HBL6 := hidd hb6
              have HF6 := hidd hf6
              clear hor b6 hb6 hf6
              go_wp2_with fail
              refine hsame.mono ?_
              rintro e w7 ⟨b7, z, rfl, hz⟩
              have HB7 := hidd (HB6.out.trans (b7.mono HB6.out.size))
              have HB47 := hidd ((HB46.out.below b7).more b7.size)
              have HBL57 := hidd ((HBL56.out.below b7).more b7.size)
              have HBL67 := hidd ((HBL6.out.below b7).more b7.size)
              have HZ := hidd hz
              have HNW : Hid (∀ j, j < n → (f5 j = true ↔ img (powR R (s_ + 1)) (img (powR R lo) X) j)) := fun j hj => by rw [HF5.out j hj, img_pow]
              clear hsame b7 hz
              cases z with
              | true =>
                have HF : Hid (BlR n w (img (repR R (lo : Int) hi) X) (.returned (.slice A4 n c4)) w7) := ⟨HBA.out.trans (HB7.out.mono HBA.out.size), _, _, f4, rfl, HB47.out, fun j hj => by
                  rw [HF4.out j hj]
                  refine rep_done (by rcases HSH.out with q | q; exact .inl q; exact .inr (by omega)) HSH.out (.inr fun j q => ?_) j
                  have hjn : j < n := img_lt (pow_lt HR.out (s_ + 1)) (fun j q => img_lt (pow_lt HR.out lo) HX.out j q) j q
                  have h1 := (HZ.out.1 (by trivial)) j hjn
                  rw [← HF4.out j hjn, ← h1, HF6.out j hjn]
                  exact .inr ((HNW.out j hjn).2 q)⟩
                go_wp2
                go_ret
                exact HF.out
              | false =>
                have HNX : Hid ((∀ j, j < n → (f6 j = true ↔ img (upR R (s_ + 1)) (img (powR R lo) X) j)) ∧ s_ + 1 ≤ cnt f6 (n - 1)) := by
                  refine ⟨fun j hj => by rw [HF6.out j hj, HF4.out j hj, HNW.out j hj, up_split], ?_⟩
                  have hne : ¬ ∀ i, i < n → f6 i = f4 i := fun q => by have := HZ.out.2 q; cases this
                  obtain ⟨j, hj⟩ := Classical.not_forall.1 hne
                  rw [Classical.not_imp] at hj
                  have h6 : f6 j = true := by
                    cases e6 : f6 j with
                    | true => rfl
                    | false =>
                      cases e4 : f4 j with
                      | false => exact absurd (e6.trans e4.symm) hj.2
                      | true => have := (HF6.out j hj.1).2 (.inl e4); rw [e6] at this; cases this
                  have h4 : f4 j = false := by
                    cases e4 : f4 j with
                    | false => rfl
                    | true => exact absurd (h6.trans e4.symm) hj.2
                  have key : ∀ (N : Nat) (p q : Nat → Bool), (∀ i, i ≤ N → p i = true → q i = true) → j ≤ N → p j = false → q j = true → cnt p N < cnt q N := fun N p q hpq hjN hp hq => by
                    have h1 := cnt_more (p := fun i => p i && decide (i ≤ N)) (q := fun i => q i && decide (i ≤ N)) (N := N) (fun i hi => by
                      rw [Bool.and_eq_true, decide_eq_true_iff] at hi ⊢
                      exact ⟨hpq i hi.2 hi.1, hi.2⟩) hjN (by rw [hp]; rfl) (by rw [hq]; simpa using hjN)
                    have hc : ∀ r : Nat → Bool, cnt (fun i => r i && decide (i ≤ N)) N = cnt r N := fun r => by
                      unfold cnt
                      refine List.countP_congr fun i hi => ?_
                      have := List.mem_range.1 hi
                      simp
                      omega
                    rw [hc, hc] at h1
                    exact h1
                  have := key (n - 1) f4 f6 (fun i hi q => (HF6.out i (by omega)).2 (.inl q)) (by omega) h4 h6
                  have := HCT.out
                  omega
                have hcl := cnt_le f6 (n - 1)
                have HCL := hidd hcl
                have hws : IntKind.i64.wrap ((lo : Int) + (s_ : Int) + 1) = (lo : Int) + (s_ : Int) + 1 := by rw [IntKind.wrap_i64]; omega
                clear hcl
                go_wp2
                exact ⟨⟨s_ + 1, _, _, f5, _, _, f6, by have := HCL.out; have := HNX.out.2; omega, by congr 1, rfl, rfl, HB7.out, HBL57.out, HBL67.out, HNW.out, HNX.out.1, HNX.out.2, HQ1.out⟩, by simp [intOf]; omega⟩
            · have HQ1 : Hid (hi = -1 ∨ (lo : Int) + ((s_ + 1 : Nat) : Int) ≤ hi) := .inr (by omega)
              go_wp2_with fail
              refine hkid.mono ?_
              rintro e w5 ⟨b5, A5, c5, f5, rfl, hb5, hf5⟩
              have hor := or_any A4 A5 c4 c5 n f4 f5 w5 ((HB4.out.below b5).more b5.size) hb5 hn hl
              have HB5 := hidd (HBW.out.trans (b5.mono HBW.out.size))
              have HB45 := hidd ((HB4.out.below b5).more b5.size)
              have HBL5 := hidd hb5
              have HF5 := hidd hf5
              clear hkid b5 hb5 hf5
              go_wp2_with fail
              refine hor.mono ?_
              rintro e w6 ⟨b6, A6, c6, f6, rfl, hb6, hf6⟩
              have hsame := same_any A6 A4 c6 c4 n f6 f4 w6 hb6 ((HB45.out.below b6).more b6.size) hl
              have HB6 := hidd (HB5.out.trans (b6.mono HB5.out.size))
              have HB46 := hidd ((HB45.out.below b6).more b6.size)
              have HBL56 := hidd ((HBL5.out.below b6).more b6.size)
              have HBL6 := hidd hb6
              have HF6 := hidd hf6
              clear hor b6 hb6 hf6
              go_wp2_with fail
              refine hsame.mono ?_
              rintro e w7 ⟨b7, z, rfl, hz⟩
              have HB7 := hidd (HB6.out.trans (b7.mono HB6.out.size))
              have HB47 := hidd ((HB46.out.below b7).more b7.size)
              have HBL57 := hidd ((HBL56.out.below b7).more b7.size)
              have HBL67 := hidd ((HBL6.out.below b7).more b7.size)
              have HZ := hidd hz
              have HNW : Hid (∀ j, j < n → (f5 j = true ↔ img (powR R (s_ + 1)) (img (powR R lo) X) j)) := fun j hj => by rw [HF5.out j hj, img_pow]
              clear hsame b7 hz
              cases z with
              | true =>
                have HF : Hid (BlR n w (img (repR R (lo : Int) hi) X) (.returned (.slice A4 n c4)) w7) := ⟨HBA.out.trans (HB7.out.mono HBA.out.size), _, _, f4, rfl, HB47.out, fun j hj => by
                  rw [HF4.out j hj]
                  refine rep_done (by rcases HSH.out with q | q; exact .inl q; exact .inr (by omega)) HSH.out (.inr fun j q => ?_) j
                  have hjn : j < n := img_lt (pow_lt HR.out (s_ + 1)) (fun j q => img_lt (pow_lt HR.out lo) HX.out j q) j q
                  have h1 := (HZ.out.1 (by trivial)) j hjn
                  rw [← HF4.out j hjn, ← h1, HF6.out j hjn]
                  exact .inr ((HNW.out j hjn).2 q)⟩
                go_wp2
                go_ret
                exact HF.out
              | false =>
                have HNX : Hid ((∀ j, j < n → (f6 j = true ↔ img (upR R (s_ + 1)) (img (powR R lo) X) j)) ∧ s_ + 1 ≤ cnt f6 (n - 1)) := by
                  refine ⟨fun j hj => by rw [HF6.out j hj, HF4.out j hj, HNW.out j hj, up_split], ?_⟩
                  have hne : ¬ ∀ i, i < n → f6 i = f4 i := fun q => by have := HZ.out.2 q; cases this
                  obtain ⟨j, hj⟩ := Classical.not_forall.1 hne
                  rw [Classical.not_imp] at hj
                  have h6 : f6 j = true := by
                    cases e6 : f6 j with
                    | true => rfl
                    | false =>
                      cases e4 : f4 j with
                      | false => exact absurd (e6.trans e4.symm) hj.2
                      | true => have := (HF6.out j hj.1).2 (.inl e4); rw [e6] at this; cases this
                  have h4 : f4 j = false := by
                    cases e4 : f4 j with
                    | false => rfl
                    | true => exact absurd (h6.trans e4.symm) hj.2
                  have key : ∀ (N : Nat) (p q : Nat → Bool), (∀ i, i ≤ N → p i = true → q i = true) → j ≤ N → p j = false → q j = true → cnt p N < cnt q N := fun N p q hpq hjN hp hq => by
                    have h1 := cnt_more (p := fun i => p i && decide (i ≤ N)) (q := fun i => q i && decide (i ≤ N)) (N := N) (fun i hi => by
                      rw [Bool.and_eq_true, decide_eq_true_iff] at hi ⊢
                      exact ⟨hpq i hi.2 hi.1, hi.2⟩) hjN (by rw [hp]; rfl) (by rw [hq]; simpa using hjN)
                    have hc : ∀ r : Nat → Bool, cnt (fun i => r i && decide (i ≤ N)) N = cnt r N := fun r => by
                      unfold cnt
                      refine List.countP_congr fun i hi => ?_
                      have := List.mem_range.1 hi
                      simp
                      omega
                    rw [hc, hc] at h1
                    exact h1
                  have := key (n - 1) f4 f6 (fun i hi q => (HF6.out i (by omega)).2 (.inl q)) (by omega) h4 h6
                  have := HCT.out
                  omega
                have hcl := cnt_le f6 (n - 1)
                have HCL := hidd hcl
                have hws : IntKind.i64.wrap ((lo : Int) + (s_ : Int) + 1) = (lo : Int) + (s_ : Int) + 1 := by rw [IntKind.wrap_i64]; omega
                clear hcl
                go_wp2
                exact ⟨⟨s_ + 1, _, _, f5, _, _, f6, by have := HCL.out; have := HNX.out.2; omega, by congr 1, rfl, rfl, HB7.out, HBL57.out, HBL67.out, HNW.out, HNX.out.1, HNX.out.2, HQ1.out⟩, by simp [intOf]; omega⟩
          · have q1 : ¬ hi = -1 := fun q => hgo (.inl q)
            have q2 : ¬ (lo : Int) + (s_ : Int) < hi := fun q => hgo (.inr q)
            have HF : Hid (BlR n w (img (repR R (lo : Int) hi) X) (.returned (.slice A4 n c4)) wr) := ⟨HBA.out.trans (hbw.mono HBA.out.size), _, _, f4, rfl, hb4, fun j hj => by
              rw [hf4 j hj]
              exact rep_done (by rcases hsh with q | q; exact .inl q; exact .inr (by omega)) hsh (.inl ⟨q1, by rcases hsh with q | q; exact absurd q q1; omega⟩) j⟩
            have q3 : (hi == -1) = false := by simp [q1]
            clear hgo hbw hb3 hb4 hf3 hf4 hct hsh hkid
            go_wp2
            go_ret
            exact HF.out
    · have hle : lo = i := by omega
      subst hle
      clear y5 yk y6
      have HBW := hidd hbw
      have HBL := hidd hb2
      have HY := hidd hf2
      have y6 := HBW.out.cell (show (⟨qb, 6, none⟩ : Addr).block < wA.heap.size from HR0.out.lt)
      rw [show wA.cell? ⟨qb, 6, none⟩ = some (.int .i64 (lo : Int)) from HR0.out.at_ rfl] at y6
      go_wp2
      go_loopw [3, 11, 12] (fun s3 s11 s12 wr => ∃ (s_ : Nat) (A3 : Option Addr) (c3 : Nat) (f3 : Nat → Bool) (A4 : Option Addr) (c4 : Nat) (f4 : Nat → Bool), s_ ≤ n ∧ s12 = .int .i64 ((lo : Int) + (s_ : Int)) ∧ s3 = .slice A3 n c3 ∧ s11 = .slice A4 n c4 ∧ Below wA.heap.size wA wr ∧ Bls wr wr.heap.size A3 n f3 ∧ Bls wr wr.heap.size A4 n f4 ∧ (∀ j, j < n → (f3 j = true ↔ img (powR R s_) (img (powR R lo) X) j)) ∧ (∀ j, j < n → (f4 j = true ↔ img (upR R s_) (img (powR R lo) X) j)) ∧ s_ ≤ cnt f4 (n - 1) ∧ (hi = -1 ∨ (lo : Int) + (s_ : Int) ≤ hi)) (fun _ _ s12 _ => n + lo + 1 - (intOf s12).toNat)
      case atStart => exact ⟨0, _, _, _, _, _, _, Nat.zero_le _, by simp, rfl, rfl, HBW.out, HBL.out, HBL.out, fun j hj => by rw [HY.out j hj, img_zero], fun j hj => by rw [HY.out j hj, img_up_zero], Nat.zero_le _, by rcases HHI.out with q | q; exact .inl q; exact .inr (by omega)⟩
      case round =>
        clear HBW HBL HY
        obtain ⟨s_, A3, c3, f3, A4, c4, f4, hsn, rfl, rfl, rfl, hbw, hb3, hb4, hf3, hf4, hct, hsh⟩ := hrel
        have y7 : wr.cell? ⟨qb, 7, none⟩ = some (.int .i64 hi) := by rw [hbw.cell (by exact HR0.out.lt)]; exact HR0.out.at_ rfl
        have y5 : wr.cell? ⟨qb, 5, none⟩ = some (.slice (some ⟨b0, o0, none⟩) 1 kc) := by rw [hbw.cell (by exact HR0.out.lt)]; exact HR0.out.at_ rfl
        have yk := HKC.out wr (HBA.out.trans (hbw.mono HBA.out.size))
        have hls : (lo : Int) + (s_ : Int) ≤ 6000 := by omega
        have hls0 : 0 ≤ (lo : Int) + (s_ : Int) := by omega
        have HBASE : Hid (Below base.heap.size base wr) := HB.out.trans ((HBA.out.trans (hbw.mono HBA.out.size)).mono HB.out.size)
        have hkid := HC.out wr A3 c3 f3 (img (powR R s_) (img (powR R lo) X)) HBASE.out hb3 hf3 (fun j q => img_lt (pow_lt HR.out s_) (fun j q => img_lt (pow_lt HR.out lo) HX.out j q) j q)
        have HBW := hidd hbw
        have HB4 := hidd hb4
        have HF4 := hidd hf4
        have HCT := hidd hct
        have HSH := hidd hsh
        by_cases hgo : hi = -1 ∨ (lo : Int) + (s_ : Int) < hi
        · have hval : Hid ((hi = -1 ∧ ¬ ((lo : Int) + (s_ : Int) < hi)) ∨ (lo : Int) + (s_ : Int) < hi) := by
            rcases hgo with q | q
            · exact .inl ⟨q, by omega⟩
            · exact .inr q
          clear hgo hbw hb3 hb4 hf3 hf4 hct hsh
          rcases hval.out with ⟨q1, q2⟩ | q1
          · have q3 : (hi == -1) = true := by simp [q1]
            have HQ1 : Hid (hi = -1 ∨ (lo : Int) + ((s_ + 1 : Nat) : Int) ≤ hi) := .inl q1
            clear q1
            go_wp2_with fail
            refine hkid.mono ?_
            rintro e w5 ⟨b5, A5, c5, f5, rfl, hb5, hf5⟩
            have hor := or_any A4 A5 c4 c5 n f4 f5 w5 ((HB4.out.below b5).more b5.size) hb5 hn hl
            have HB5 := hidd (HBW.out.trans (b5.mono HBW.out.size))
            have HB45 := hidd ((HB4.out.below b5).more b5.size)
            have HBL5 := hidd hb5
            have HF5 := hidd hf5
            clear hkid b5 hb5 hf5
            go_wp2_with fail
            refine hor.mono ?_
            rintro e w6 ⟨b6, A6, c6, f6, rfl, hb6, hf6⟩
            have hsame := same_any A6 A4 c6 c4 n f6 f4 w6 hb6 ((HB45.out.below b6).more b6.size) hl
            have HB6 := hidd (HB5.out.trans (b6.mono HB5.out.size))
            have HB46 := hidd ((HB45.out.below b6).more b6.size)
            have HBL56 := hidd ((HBL5.out.below b6).more b6.size)
            have HBL6 := hidd hb6
            have HF6 := hidd hf6
            clear hor b6 hb6 hf6
            go_wp2_with fail
            refine hsame.mono ?_
            rintro e w7 ⟨b7, z, rfl, hz⟩
            have HB7 := hidd (HB6.out.trans (b7.mono HB6.out.size))
            have HB47 := hidd ((HB46.out.below b7).more b7.size)
            have HBL57 := hidd ((HBL56.out.below b7).more b7.size)
            have HBL67 := hidd ((HBL6.out.below b7).more b7.size)
            have HZ := hidd hz
            have HNW : Hid (∀ j, j < n → (f5 j = true ↔ img (powR R (s_ + 1)) (img (powR R lo) X) j)) := fun j hj => by rw [HF5.out j hj, img_pow]
            clear hsame b7 hz
            cases z with
            | true =>
              have HF : Hid (BlR n w (img (repR R (lo : Int) hi) X) (.returned (.slice A4 n c4)) w7) := ⟨HBA.out.trans (HB7.out.mono HBA.out.size), _, _, f4, rfl, HB47.out, fun j hj => by
                rw [HF4.out j hj]
                refine rep_done (by rcases HSH.out with q | q; exact .inl q; exact .inr (by omega)) HSH.out (.inr fun j q => ?_) j
                have hjn : j < n := img_lt (pow_lt HR.out (s_ + 1)) (fun j q => img_lt (pow_lt HR.out lo) HX.out j q) j q
                have h1 := (HZ.out.1 (by trivial)) j hjn
                rw [← HF4.out j hjn, ← h1, HF6.out j hjn]
                exact .inr ((HNW.out j hjn).2 q)⟩
              go_wp2
              go_ret
              exact HF.out
            | false =>
              have HNX : Hid ((∀ j, j < n → (f6 j = true ↔ img (upR R (s_ + 1)) (img (powR R lo) X) j)) ∧ s_ + 1 ≤ cnt f6 (n - 1)) := by
                refine ⟨fun j hj => by rw [HF6.out j hj, HF4.out j hj, HNW.out j hj, up_split], ?_⟩
                have hne : ¬ ∀ i, i < n → f6 i = f4 i := fun q => by have := HZ.out.2 q; cases this
                obtain ⟨j, hj⟩ := Classical.not_forall.1 hne
                rw [Classical.not_imp] at hj
                have h6 : f6 j = true := by
                  cases e6 : f6 j with
                  | true => rfl
                  | false =>
                    cases e4 : f4 j with
                    | false => exact absurd (e6.trans e4.symm) hj.2
                    | true => have := (HF6.out j hj.1).2 (.inl e4); rw [e6] at this; cases this
                have h4 : f4 j = false := by
                  cases e4 : f4 j with
                  | false => rfl
                  | true => exact absurd (h6.trans e4.symm) hj.2
                have key : ∀ (N : Nat) (p q : Nat → Bool), (∀ i, i ≤ N → p i = true → q i = true) → j ≤ N → p j = false → q j = true → cnt p N < cnt q N := fun N p q hpq hjN hp hq => by
                  have h1 := cnt_more (p := fun i => p i && decide (i ≤ N)) (q := fun i => q i && decide (i ≤ N)) (N := N) (fun i hi => by
                    rw [Bool.and_eq_true, decide_eq_true_iff] at hi ⊢
                    exact ⟨hpq i hi.2 hi.1, hi.2⟩) hjN (by rw [hp]; rfl) (by rw [hq]; simpa using hjN)
                  have hc : ∀ r : Nat → Bool, cnt (fun i => r i && decide (i ≤ N)) N = cnt r N := fun r => by
                    unfold cnt
                    refine List.countP_congr fun i hi => ?_
                    have := List.mem_range.1 hi
                    simp
                    omega
                  rw [hc, hc] at h1
                  exact h1
                have := key (n - 1) f4 f6 (fun i hi q => (HF6.out i (by omega)).2 (.inl q)) (by omega) h4 h6
                have := HCT.out
                omega
              have hcl := cnt_le f6 (n - 1)
              have HCL := hidd hcl
              have hws : IntKind.i64.wrap ((lo : Int) + (s_ : Int) + 1) = (lo : Int) + (s_ : Int) + 1 := by rw [IntKind.wrap_i64]; omega
              clear hcl
              go_wp2
              exact ⟨⟨s_ + 1, _, _, f5, _, _, f6, by have := HCL.out; have := HNX.out.2; omega, by congr 1, rfl, rfl, HB7.out, HBL57.out, HBL67.out, HNW.out, HNX.out.1, HNX.out.2, HQ1.out⟩, by simp [intOf]; omega⟩
          · have HQ1 : Hid (hi = -1 ∨ (lo : Int) + ((s_ + 1 : Nat) : Int) ≤ hi) := .inr (by omega)
            go_wp2_with fail
            refine hkid.mono ?_
            rintro e w5 ⟨b5, A5, c5, f5, rfl, hb5, hf5⟩
            have hor := or_any A4 A5 c4 c5 n f4 f5 w5 ((HB4.out.below b5).more b5.size) hb5 hn hl
            have HB5 := hidd (HBW.out.trans (b5.mono HBW.out.size))
            have HB45 := hidd ((HB4.out.below b5).more b5.size)
            have HBL5 := hidd hb5
            have HF5 := hidd hf5
            clear hkid b5 hb5 hf5
            go_wp2_with fail
            refine hor.mono ?_
            rintro e w6 ⟨b6, A6, c6, f6, rfl, hb6, hf6⟩
            have hsame := same_any A6 A4 c6 c4 n f6 f4 w6 hb6 ((HB45.out.below b6).more b6.size) hl
            have HB6 := hidd (HB5.out.trans (b6.mono HB5.out.size))
            have HB46 := hidd ((HB45.out.below b6).more b6.size)
            have HBL56 := hidd ((HBL5.out.below b6).more b6.size)
            have HBL6 := hidd hb6
            have HF6 := hidd hf6
            clear hor b6 hb6 hf6
            go_wp2_with fail
            refine hsame.mono ?_
            rintro e w7 ⟨b7, z, rfl, hz⟩
            have HB7 := hidd (HB6.out.trans (b7.mono HB6.out.size))
            have HB47 := hidd ((HB46.out.below b7).more b7.size)
            have HBL57 := hidd ((HBL56.out.below b7).more b7.size)
            have HBL67 := hidd ((HBL6.out.below b7).more b7.size)
            have HZ := hidd hz
            have HNW : Hid (∀ j, j < n → (f5 j = true ↔ img (powR R (s_ + 1)) (img (powR R lo) X) j)) := fun j hj => by rw [HF5.out j hj, img_pow]
            clear hsame b7 hz
            cases z with
            | true =>
              have HF : Hid (BlR n w (img (repR R (lo : Int) hi) X) (.returned (.slice A4 n c4)) w7) := ⟨HBA.out.trans (HB7.out.mono HBA.out.size), _, _, f4, rfl, HB47.out, fun j hj => by
                rw [HF4.out j hj]
                refine rep_done (by rcases HSH.out with q | q; exact .inl q; exact .inr (by omega)) HSH.out (.inr fun j q => ?_) j
                have hjn : j < n := img_lt (pow_lt HR.out (s_ + 1)) (fun j q => img_lt (pow_lt HR.out lo) HX.out j q) j q
                have h1 := (HZ.out.1 (by trivial)) j hjn
                rw [← HF4.out j hjn, ← h1, HF6.out j hjn]
                exact .inr ((HNW.out j hjn).2 q)⟩
              go_wp2
              go_ret
              exact HF.out
            | false =>
              have HNX : Hid ((∀ j, j < n → (f6 j = true ↔ img (upR R (s_ + 1)) (img (powR R lo) X) j)) ∧ s_ + 1 ≤ cnt f6 (n - 1)) := by
                refine ⟨fun j hj => by rw [HF6.out j hj, HF4.out j hj, HNW.out j hj, up_split], ?_⟩
                have hne : ¬ ∀ i, i < n → f6 i = f4 i := fun q => by have := HZ.out.2 q; cases this
                obtain ⟨j, hj⟩ := Classical.not_forall.1 hne
                rw [Classical.not_imp] at hj
                have h6 : f6 j = true := by
                  cases e6 : f6 j with
                  | true => rfl
                  | false =>
                    cases e4 : f4 j with
                    | false => exact absurd (e6.trans e4.symm) hj.2
                    | true => have := (HF6.out j hj.1).2 (.inl e4); rw [e6] at this; cases this
                have h4 : f4 j = false := by
                  cases e4 : f4 j with
                  | false => rfl
                  | true => exact absurd (h6.trans e4.symm) hj.2
                have key : ∀ (N : Nat) (p q : Nat → Bool), (∀ i, i ≤ N → p i = true → q i = true) → j ≤ N → p j = false → q j = true → cnt p N < cnt q N := fun N p q hpq hjN hp hq => by
                  have h1 := cnt_more (p := fun i => p i && decide (i ≤ N)) (q := fun i => q i && decide (i ≤ N)) (N := N) (fun i hi => by
                    rw [Bool.and_eq_true, decide_eq_true_iff] at hi ⊢
                    exact ⟨hpq i hi.2 hi.1, hi.2⟩) hjN (by rw [hp]; rfl) (by rw [hq]; simpa using hjN)
                  have hc : ∀ r : Nat → Bool, cnt (fun i => r i && decide (i ≤ N)) N = cnt r N := fun r => by
                    unfold cnt
                    refine List.countP_congr fun i hi => ?_
                    have := List.mem_range.1 hi
                    simp
                    omega
                  rw [hc, hc] at h1
                  exact h1
                have := key (n - 1) f4 f6 (fun i hi q => (HF6.out i (by omega)).2 (.inl q)) (by omega) h4 h6
                have := HCT.out
                omega
              have hcl := cnt_le f6 (n - 1)
              have HCL := hidd hcl
              have hws : IntKind.i64.wrap ((lo : Int) + (s_ : Int) + 1) = (lo : Int) + (s_ : Int) + 1 := by rw [IntKind.wrap_i64]; omega
              clear hcl
              go_wp2
              exact ⟨⟨s_ + 1, _, _, f5, _, _, f6, by have := HCL.out; have := HNX.out.2; omega, by congr 1, rfl, rfl, HB7.out, HBL57.out, HBL67.out, HNW.out, HNX.out.1, HNX.out.2, HQ1.out⟩, by simp [intOf]; omega⟩
        · have q1 : ¬ hi = -1 := fun q => hgo (.inl q)
          have q2 : ¬ (lo : Int) + (s_ : Int) < hi := fun q => hgo (.inr q)
          have HF : Hid (BlR n w (img (repR R (lo : Int) hi) X) (.returned (.slice A4 n c4)) wr) := ⟨HBA.out.trans (hbw.mono HBA.out.size), _, _, f4, rfl, hb4, fun j hj => by
            rw [hf4 j hj]
            exact rep_done (by rcases hsh with q | q; exact .inl q; exact .inr (by omega)) hsh (.inl ⟨q1, by rcases hsh with q | q; exact absurd q q1; omega⟩) j⟩
          have q3 : (hi == -1) = false := by simp [q1]
          clear hgo hbw hb3 hb4 hf3 hf4 hct hsh hkid
          go_wp2
          go_ret
          exact HF.out
end Go.Proofs.Ytdaaigkmlbpbgaa.Sy.Lg.Rn

/- The landed planner: what each of its calls but plan itself does. -/
import Derived.Test.YtaagkfiaccmepaaPJh
namespace Go.Proofs.Ytaagkfiaccmepaa.Sy.Pl
open Go.RowKit Go.Proofs.Ytaagkfiaccmepaa.Sy.Ap
set_option maxRecDepth 100000
set_option linter.unusedVariables false

section
variable {F : Nat → Prop} {B b : Nat} {At : Option Addr} {ct : Nat} {gs : List Gd} {most : Int} {w w2 w' : World} {rt ks : List Nat} {o : List Nd}
theorem drop_end (rt ks : List Nat) : (rt ++ ks).drop ((rt ++ ks).length - ks.length) = ks := by
  rw [List.length_append, Nat.add_sub_cancel, List.drop_append_of_le_length (Nat.le_refl _), List.drop_length, List.nil_append]
theorem take_end (rt ks : List Nat) : (rt ++ ks).take ((rt ++ ks).length - ks.length) = rt := by
  rw [List.length_append, Nat.add_sub_cancel, List.take_append_of_le_length (Nat.le_refl _), List.take_length]
/-- A node is put, or there is no room. -/
theorem putC (hS : St F B b At ct gs most w (rt ++ ks) o) {g : Gd} {n : Nd} (hg : GN1 g n) (A : Option Addr) (c : Nat) {m : Nat} (hm : ks.length = m) :
    Calls Try.prog 28 #[.pointer (some ⟨b, 0, none⟩), .agg (gdL g A c).toArray, .int .i64 (m : Int)] w (PlR F B b At ct gs most w rt (putF (withL n ks) o)) := by
  subst hm
  obtain ⟨nv, rv, l, p, gn, hrl, hol, hfar⟩ := hS
  have hlen : l.length = o.length := by rw [← gn.1, List.length_map]
  have hk : ks.length ≤ (rt ++ ks).length := by rw [List.length_append]; omega
  by_cases hlt : o.length < 1024
  · refine (put_ok p g A c ks.length hk (by omega) (by omega)).mono ?_
    rintro e w' ⟨rfl, b2, nv', rv', kA, kc, f1, f2, f3, p'⟩
    rw [drop_end, take_end] at p'
    unfold putF
    rw [if_pos hlt]
    refine ⟨⟨b2, fun q hq => f1 q (hfar q hq).1 (hfar q hq).2.1 (hfar q hq).2.2.1 (hfar q hq).2.2.2⟩, rfl, nv', rv', l ++ [(withG g (ks.map fun k : Nat => (k : Int)), kA, kc)], ?_, ?_, ?_, ?_, fun q hq => ?_⟩
    · have e : (o ++ [withL n ks]).length - 1 = l.length := by rw [List.length_append, List.length_singleton, hlen]; omega
      rw [e]
      exact p'
    · rw [List.map_append]
      exact gn_snoc gn ⟨hg.op, hg.s, rfl, hg.lo, hg.hi, hg.nm⟩
    · rw [List.length_append, List.length_singleton, List.length_append, List.length_singleton]
      rw [List.length_append] at hrl
      omega
    · rw [List.length_append, List.length_singleton]
      omega
    · obtain ⟨h1, h2, h3, h4⟩ := hfar q hq
      refine ⟨Nat.lt_of_lt_of_le h1 b2.size, h2, fun e => ?_, fun e => ?_⟩
      · rcases f2 q e with r | r
        · exact h3 r
        · omega
      · rcases f3 q e with r | r
        · exact h4 r
        · omega
  · refine (put_full p g A c ks.length (by omega)).mono ?_
    rintro e w' ⟨rfl, b2⟩
    unfold putF
    rw [if_neg hlt]
    exact ⟨⟨b2.mono p.size, fun q hq => b2.block q (hfar q hq).1⟩, rfl⟩
def zG (op : Nat) (lo hi : Int) : Gd := ⟨op, noB, [], lo, hi, { data := #[] }⟩
def zN (op : Nat) (lo hi : Int) : Nd := ⟨op, noS, [], lo, hi, []⟩
theorem zG_row (op : Nat) (lo hi : Int) : (gdL (zG op lo hi) none 0).toArray = #[.int .u8 (op : Int), .int .u64 0, .int .u64 0, .int .u64 0, .int .u64 0, .slice none 0 0, .int .i64 lo, .int .i64 hi, .string { data := #[] }] := by
  simp only [gdL, zG, W_zero, List.length_nil]
theorem zG_zN (op : Nat) (lo hi : Int) : GN1 (zG op lo hi) (zN op lo hi) := ⟨rfl, fun _ _ => rfl, rfl, rfl, rfl, rfl⟩
/-- A node of its own is put over the last roots. -/
theorem putZ (hS : St F B b At ct gs most w (rt ++ ks) o) (op : Nat) (lo hi : Int) {m : Nat} (hm : ks.length = m) :
    Calls Try.prog 28 #[.pointer (some ⟨b, 0, none⟩), .agg #[.int .u8 (op : Int), .int .u64 0, .int .u64 0, .int .u64 0, .int .u64 0, .slice none 0 0, .int .i64 lo, .int .i64 hi, .string { data := #[] }], .int .i64 (m : Int)] w (PlR F B b At ct gs most w rt (putF ⟨op, noS, ks, lo, hi, []⟩ o)) := by
  have h := putC hS (zG_zN op lo hi) none 0 hm
  rw [zG_row] at h
  exact h
theorem joinC (hS : St F B b At ct gs most w (rt ++ ks) o) (op : Nat) {m : Nat} (hm : ks.length = m) :
    Calls Try.prog 40 #[.pointer (some ⟨b, 0, none⟩), .int .u8 (op : Int), .int .i64 (m : Int)] w (PlR F B b At ct gs most w rt (putF ⟨op, noS, ks, 0, 0, []⟩ o)) := by
  have h := putZ hS op 0 0 hm
  clear hS
  generalize putF ⟨op, noS, ks, 0, 0, []⟩ o = R at *
  go_enter Try.func40, Try.ntmps40
  go_wp2_with fail
  refine h.mono ?_
  rintro e w' ⟨b2, h2⟩
  cases R with
  | none =>
    obtain rfl := h2
    clear h
    go_wp2
    go_ret
    exact ⟨b2, rfl⟩
  | some o' =>
    obtain ⟨rfl, S2⟩ := h2
    have HS := hidd S2
    clear h S2
    go_wp2
    go_ret
    exact ⟨b2, rfl, HS.out⟩
theorem emptyC (hS : St F B b At ct gs most w rt o) :
    Calls Try.prog 38 #[.pointer (some ⟨b, 0, none⟩)] w (PlR F B b At ct gs most w rt (putF ndEmpty o)) := by
  have h : Calls Try.prog 28 #[.pointer (some ⟨b, 0, none⟩), .agg #[.int .u8 1, .int .u64 0, .int .u64 0, .int .u64 0, .int .u64 0, .slice none 0 0, .int .i64 0, .int .i64 0, .string { data := #[] }], .int .i64 0] w (PlR F B b At ct gs most w rt (putF ndEmpty o)) := putZ (ks := []) (by rw [List.append_nil]; exact hS) 1 0 0 rfl
  clear hS
  generalize putF ndEmpty o = R at *
  go_enter Try.func38, Try.ntmps38
  go_wp2_with fail
  refine h.mono ?_
  rintro e w' ⟨b2, h2⟩
  cases R with
  | none =>
    obtain rfl := h2
    clear h
    go_wp2
    go_ret
    exact ⟨b2, rfl⟩
  | some o' =>
    obtain ⟨rfl, S2⟩ := h2
    have HS := hidd S2
    clear h S2
    go_wp2
    go_ret
    exact ⟨b2, rfl, HS.out⟩
/-- What plan owes for a node: its plan is P. -/
def PC (B b : Nat) (At : Option Addr) (ct : Nat) (gs : List Gd) (most : Int) (P : PF) (k : Nat) : Prop :=
  ∀ (F : Nat → Prop) (w : World) (rt : List Nat) (o : List Nd), St F B b At ct gs most w rt o → Nds w B At gs → Calls Try.prog 16 #[.pointer (some ⟨b, 0, none⟩), .int .i64 (k : Int)] w (PlR F B b At ct gs most w rt (P o))
theorem repeatC {P : PF} {k : Nat} (hP : PC B b At ct gs most P k) (lo hi : Int) (hS : St F B b At ct gs most w rt o) (hN : Nds w B At gs) :
    Calls Try.prog 39 #[.pointer (some ⟨b, 0, none⟩), .int .i64 (k : Int), .int .i64 lo, .int .i64 hi] w (PlR F B b At ct gs most w rt (repeatF P lo hi o)) := by
  have hc := hP F w rt o hS hN
  clear hP hS hN
  obtain ⟨RES, hRES⟩ : ∃ RES, repeatF P lo hi o = RES := ⟨_, rfl⟩
  have HR : Hid (RES = (P o).bind fun o' => putF (ndRep (o'.length - 1) lo hi) o') := hRES.symm
  rw [hRES]
  clear hRES
  generalize P o = R at *
  go_enter Try.func39, Try.ntmps39
  go_wp2_with fail
  refine hc.mono ?_
  rintro e w2 ⟨b2, h2⟩
  clear hc
  cases R with
  | none =>
    obtain rfl := h2
    go_wp2
    go_ret
    rw [HR.out]
    exact ⟨b2, rfl⟩
  | some o1 =>
    obtain ⟨rfl, S2⟩ := h2
    have hc := putZ S2 5 lo hi rfl
    have HF : Hid (RES = putF ⟨5, noS, [o1.length - 1], lo, hi, []⟩ o1) := HR.out
    clear S2 HR
    generalize putF ⟨5, noS, [o1.length - 1], lo, hi, []⟩ o1 = R at *
    go_wp2_with fail
    refine hc.mono ?_
    rintro e w9 ⟨b9, h9⟩
    cases R with
    | none =>
      obtain rfl := h9
      clear hc
      go_wp2
      go_ret
      rw [HF.out]
      exact ⟨(b2).trans b9, rfl⟩
    | some o9 =>
      obtain ⟨rfl, S9⟩ := h9
      have HS := hidd S9
      clear hc S9
      go_wp2
      go_ret
      rw [HF.out]
      exact ⟨(b2).trans b9, rfl, HS.out⟩
end
end Go.Proofs.Ytaagkfiaccmepaa.Sy.Pl

namespace Go.Proofs.Ytaagkfiaccmepaa.Sy.Pl
open Go.RowKit Go.Proofs.Ytaagkfiaccmepaa.Sy.Ap
set_option maxRecDepth 100000
set_option linter.unusedVariables false

section
variable {F : Nat → Prop} {B b : Nat} {At : Option Addr} {ct : Nat} {gs : List Gd} {most : Int}
theorem roots2 (rt : List Nat) (x y : Nat) : rt ++ [x] ++ [y] = rt ++ [x, y] := by rw [List.append_assoc]; rfl
theorem roots3 (rt : List Nat) (x y z : Nat) : rt ++ [x] ++ [y] ++ [z] = rt ++ [x] ++ [y, z] := by rw [List.append_assoc (rt ++ [x])]; rfl
theorem restC {P : PF} {k : Nat} (hP : PC B b At ct gs most P k) : ∀ (t : Nat) (w : World) (rt : List Nat) (o : List Nd), t ≤ 100000 → St F B b At ct gs most w rt o → Nds w B At gs →
    Calls Try.prog 52 #[.pointer (some ⟨b, 0, none⟩), .int .i64 (k : Int), .int .i64 ((t : Int) + 1)] w (PlR F B b At ct gs most w rt (restF P t o)) := by
  intro t
  induction t with
  | zero =>
    intro w rt o ht hS hN
    have hc := emptyC hS
    have HN := hidd hN
    have HP := hidd hP
    clear hS hN hP
    obtain ⟨RES, hRES⟩ : ∃ RES, restF P 0 o = RES := ⟨_, rfl⟩
    have HR : Hid (RES = (putF ndEmpty o).bind fun o1 => (P o1).bind fun o2 => putF (ndAlt [o1.length - 1, o2.length - 1]) o2) := hRES.symm
    rw [hRES]
    clear hRES
    generalize putF ndEmpty o = R1 at *
    go_enter Try.func52, Try.ntmps52
    go_wp2_with fail
    refine hc.mono ?_
    rintro e w1 ⟨b1, h1⟩
    clear hc
    cases R1 with
    | none =>
      obtain rfl := h1
      go_wp2
      go_ret
      rw [HR.out]
      exact ⟨b1, rfl⟩
    | some o1 =>
      obtain ⟨rfl, S1⟩ := h1
      have hc := HP.out F w1 (rt ++ [o1.length - 1]) o1 S1 (HN.out.below b1.bel)
      clear S1
      generalize hq : P o1 = R2 at hc
      have HQ := hidd hq
      clear hq
      go_wp2_with fail
      refine hc.mono ?_
      rintro e w2 ⟨b2, h2⟩
      clear hc
      cases R2 with
      | none =>
        obtain rfl := h2
        go_wp2
        go_ret
        rw [HR.out, Option.bind_some, HQ.out]
        exact ⟨b1.trans b2, rfl⟩
      | some o2 =>
        obtain ⟨rfl, S2⟩ := h2
        rw [roots2] at S2
        have hc := joinC (ks := [o1.length - 1, o2.length - 1]) S2 4 rfl
        have e : putF ⟨4, noS, [o1.length - 1, o2.length - 1], 0, 0, []⟩ o2 = putF (ndAlt [o1.length - 1, o2.length - 1]) o2 := rfl
        rw [e] at hc
        have HF : Hid (RES = putF (ndAlt [o1.length - 1, o2.length - 1]) o2) := by
          show _ = _
          rw [HR.out, Option.bind_some, HQ.out, Option.bind_some]
        clear e S2 HQ HR
        generalize putF (ndAlt [o1.length - 1, o2.length - 1]) o2 = R at *
        go_wp2_with fail
        refine hc.mono ?_
        rintro e w9 ⟨b9, h9⟩
        cases R with
        | none =>
          obtain rfl := h9
          clear hc
          go_wp2
          go_ret
          rw [HF.out]
          exact ⟨(b1.trans b2).trans b9, rfl⟩
        | some o9 =>
          obtain ⟨rfl, S9⟩ := h9
          have HS := hidd S9
          clear hc S9
          go_wp2
          go_ret
          rw [HF.out]
          exact ⟨(b1.trans b2).trans b9, rfl, HS.out⟩
  | succ t ih =>
    intro w rt o ht hS hN
    have hc := emptyC hS
    have HN := hidd hN
    have HP := hidd hP
    have HI := hidd ih
    clear hS hN hP ih
    obtain ⟨RES, hRES⟩ : ∃ RES, restF P (t + 1) o = RES := ⟨_, rfl⟩
    have HR : Hid (RES = (putF ndEmpty o).bind fun o1 => (P o1).bind fun o2 => (restF P t o2).bind fun o3 => (putF (ndCat [o2.length - 1, o3.length - 1]) o3).bind fun o4 => putF (ndAlt [o1.length - 1, o4.length - 1]) o4) := hRES.symm
    rw [hRES]
    clear hRES
    generalize putF ndEmpty o = R1 at *
    go_enter Try.func52, Try.ntmps52
    go_wp2_with fail
    refine hc.mono ?_
    rintro e w1 ⟨b1, h1⟩
    clear hc
    cases R1 with
    | none =>
      obtain rfl := h1
      go_wp2
      go_ret
      rw [HR.out]
      exact ⟨b1, rfl⟩
    | some o1 =>
      obtain ⟨rfl, S1⟩ := h1
      have hc := HP.out F w1 (rt ++ [o1.length - 1]) o1 S1 (HN.out.below b1.bel)
      clear S1
      generalize hq : P o1 = R2 at hc
      have HQ := hidd hq
      clear hq
      go_wp2_with fail
      refine hc.mono ?_
      rintro e w2 ⟨b2, h2⟩
      clear hc
      cases R2 with
      | none =>
        obtain rfl := h2
        go_wp2
        go_ret
        rw [HR.out, Option.bind_some, HQ.out]
        exact ⟨b1.trans b2, rfl⟩
      | some o2 =>
        obtain ⟨rfl, S2⟩ := h2
        have hc := HI.out w2 (rt ++ [o1.length - 1] ++ [o2.length - 1]) o2 (by omega) S2 (HN.out.below (b1.trans b2).bel)
        clear S2
        generalize hq3 : restF P t o2 = R3 at hc
        have HQ3 := hidd hq3
        clear hq3
        have hadd : ((t + 1 : Nat) : Int) + 1 - 1 = (t : Int) + 1 := by omega
        have hgt : (1 : Int) < ((t + 1 : Nat) : Int) + 1 := by omega
        go_wp2_with fail
        refine hc.mono ?_
        rintro e w3 ⟨b3, h3⟩
        clear hc
        cases R3 with
        | none =>
          obtain rfl := h3
          go_wp2
          go_ret
          rw [HR.out, Option.bind_some, HQ.out, Option.bind_some, HQ3.out]
          exact ⟨b1.trans (b2.trans b3), rfl⟩
        | some o3 =>
          obtain ⟨rfl, S3⟩ := h3
          rw [roots3] at S3
          have hc := joinC (ks := [o2.length - 1, o3.length - 1]) S3 3 rfl
          clear S3
          have e : putF ⟨3, noS, [o2.length - 1, o3.length - 1], 0, 0, []⟩ o3 = putF (ndCat [o2.length - 1, o3.length - 1]) o3 := rfl
          rw [e] at hc
          clear e
          generalize hq4 : putF (ndCat [o2.length - 1, o3.length - 1]) o3 = R4 at hc
          have HQ4 := hidd hq4
          clear hq4
          go_wp2_with fail
          refine hc.mono ?_
          rintro e w4 ⟨b4, h4⟩
          clear hc
          cases R4 with
          | none =>
            obtain rfl := h4
            go_wp2
            go_ret
            rw [HR.out, Option.bind_some, HQ.out, Option.bind_some, HQ3.out, Option.bind_some, HQ4.out]
            exact ⟨b1.trans (b2.trans (b3.trans b4)), rfl⟩
          | some o4 =>
            obtain ⟨rfl, S4⟩ := h4
            rw [roots2] at S4
            have hc := joinC (ks := [o1.length - 1, o4.length - 1]) S4 4 rfl
            have e : putF ⟨4, noS, [o1.length - 1, o4.length - 1], 0, 0, []⟩ o4 = putF (ndAlt [o1.length - 1, o4.length - 1]) o4 := rfl
            rw [e] at hc
            have HF : Hid (RES = putF (ndAlt [o1.length - 1, o4.length - 1]) o4) := by
              show _ = _
              rw [HR.out, Option.bind_some, HQ.out, Option.bind_some, HQ3.out, Option.bind_some, HQ4.out, Option.bind_some]
            clear e S4 HR HQ HQ3 HQ4
            generalize putF (ndAlt [o1.length - 1, o4.length - 1]) o4 = R at *
            go_wp2_with fail
            refine hc.mono ?_
            rintro e w9 ⟨b9, h9⟩
            cases R with
            | none =>
              obtain rfl := h9
              clear hc
              go_wp2
              go_ret
              rw [HF.out]
              exact ⟨(b1.trans (b2.trans (b3.trans b4))).trans b9, rfl⟩
            | some o9 =>
              obtain ⟨rfl, S9⟩ := h9
              have HS := hidd S9
              clear hc S9
              go_wp2
              go_ret
              rw [HF.out]
              exact ⟨(b1.trans (b2.trans (b3.trans b4))).trans b9, rfl, HS.out⟩
end
end Go.Proofs.Ytaagkfiaccmepaa.Sy.Pl

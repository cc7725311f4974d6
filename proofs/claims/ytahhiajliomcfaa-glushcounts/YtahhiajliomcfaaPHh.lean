/- The reference's reader: a name of one letter in braces; a class of one range. -/
import Derived.Test.YtahhiajliomcfaaPHc
import Derived.Test.YtahhiajliomcfaaPM4
namespace Go.Proofs.Ytahhiajliomcfaa.Sy.Rf
open Go.RowKit
set_option maxRecDepth 100000
set_option linter.unusedVariables false

structure NamAt (s : ByteArray) (i : Nat) : Prop where
  lt : i + 2 < s.size
  let_ : letterB (at_ (bs s) (i + 1)) = true
  shut : at_ (bs s) (i + 2) = 125
structure ClsAt (s : ByteArray) (i : Nat) : Prop where
  lt : i + 4 < s.size
  a : specialB (at_ (bs s) (i + 1)) = false
  a45 : at_ (bs s) (i + 1) ≠ 45
  dash : at_ (bs s) (i + 2) = 45
  b : specialB (at_ (bs s) (i + 3)) = false
  b45 : at_ (bs s) (i + 3) ≠ 45
  le : at_ (bs s) (i + 1) ≤ at_ (bs s) (i + 3)
  shut : at_ (bs s) (i + 4) = 93
section
variable {w w' : World} {b : Nat} {s : ByteArray} {v : Value} {d : Int} {l : List NR}
/-- Memory while a name is put. -/
structure NmS (w : World) (b : Nat) (s : ByteArray) (i d : Int) (v : Value) (l : List NR) (u : World) : Prop where
  qs : QS u b s i d v l
  bel : Below w.heap.size w u
theorem NmS.below {i : Int} {u u' : World} (h : NmS w b s i d v l u) (hb : Below u.heap.size u u') : NmS w b s i d v l u' :=
  ⟨h.qs.read ((Touch.refl b b u).below hb) (h.qs.pr.below hb h.qs.pr.lt), h.bel.trans (hb.mono h.bel.size)⟩
end
namespace Nm
def Eb (_ : Option Nat) (u u' : World) : Prop := Below u.heap.size u u'
theorem eby {d : Option Nat} {u u' : World} (_ : true = true) (h : Below u.heap.size u u') : Eb d u u' := h
set_option linter.unusedVariables false in
def NmGV (b i1 i2 i3 : Nat) (s tt : ByteArray) (t : Nat) : Option Value :=
  match t with
  | 0 => some (.pointer (some ⟨b, 0, none⟩))
  | 3 => some (.int .i64 (i1 : Int))
  | 68 => some (.pointer (some ⟨b, 0, none⟩))
  | 69 => some (.pointer (some ⟨b, 0, none⟩))
  | 70 => some (.pointer (some ⟨b, 0, none⟩))
  | 71 => some (.pointer (some ⟨b, 0, none⟩))
  | 72 => some (.string s)
  | 73 => some (.int .i64 (i1 : Int))
  | 74 => some (.pointer (some ⟨b, 0, none⟩))
  | 75 => some (.pointer (some ⟨b, 0, none⟩))
  | 76 => some (.pointer (some ⟨b, 1, none⟩))
  | 77 => some (.int .i64 (i3 : Int))
  | 78 => some (.int .i64 (i2 : Int))
  | 79 => some (.string tt)
  | 80 => some (.agg #[.int .u8 6, .int .u64 0, .int .u64 0, .int .u64 0, .int .u64 0, .slice none 0 0, .int .i64 0, .int .i64 0, .string tt])
  | _ => none
set_option linter.unusedVariables false in
def NmGP (b i1 i2 i3 : Nat) (s tt : ByteArray) (t : Nat) : Option (Value → World → Prop) :=
  match t with
  | _ => none
def NmG (b i1 i2 i3 : Nat) (s tt : ByteArray) (t : Nat) (v : Value) (u : World) : Prop := (∀ z9, NmGV b i1 i2 i3 s tt t = some z9 → v = z9) ∧ ∀ R, NmGP b i1 i2 i3 s tt t = some R → R v u
set_option maxHeartbeats 2000000 in
theorem name_one {w : World} {b : Nat} {s : ByteArray} {v : Value} {d : Int} {l : List NR} {i i1 i2 i3 : Nat} (p : QS w b s (i : Int) d v l) (h1 : i1 = i + 1) (h2 : i2 = i + 2) (h3 : i3 = i + 3) (hN : NamAt s i) (hs : s.size ≤ 100000) (hl : l.length ≤ 100000) :
    Calls Try.prog 97 #[.pointer (some ⟨b, 0, none⟩)] w fun e w' => e = .returned (.int .i64 (l.length : Int)) ∧ ∃ v', QS w' b s (i3 : Int) d v' (l ++ [(refG (s.extract i1 i2), none, 0)]) ∧ Fr b v v' w w' := by
  have hlt := hN.lt
  have h12 : i1 < s.size := by omega
  have h22 : i2 < s.size := by omega
  have hv1 : s[i1].toNat ≠ 125 := by
    rw [← at_get h12, h1]
    intro e
    have := hN.let_
    rw [e] at this
    cases this
  have hv2 : s[i2].toNat = 125 := by rw [← at_get h22, h2]; exact hN.shut
  have hnb : nameB (bs (s.extract i1 i2)) = true := by
    rw [ex_bs]
    have : cut (bs s) i1 i2 = [at_ (bs s) (i + 1)] := by
      unfold cut at_
      rw [h1, h2, show i + 2 - (i + 1) = 1 from by omega]
      have hb : i + 1 < (bs s).length := by rw [bs_len]; omega
      rw [List.drop_eq_getElem_cons hb, List.take_succ_cons, List.take_zero, List.getD_eq_getElem?_getD, List.getElem?_eq_getElem hb]
      rfl
    rw [this]
    unfold nameB nameAt nameAt
    rw [hN.let_]
    rfl
  have hts : (s.extract i1 i2).size ≤ 100000 := by rw [ByteArray.size_extract]; omega
  generalize ht : s.extract i1 i2 = t at *
  have HT := hidd ht
  clear ht hN
  obtain ⟨c0, c1, c2, c3, c4, c5⟩ := p.pr.cells
  have hth := p.pr.thawed
  have R1 := p.pr.atTo (i1 : Int)
  have T1 := (Touch.refl b b w).set1 1 (.int .i64 (i1 : Int))
  have hii : (i : Int) + 1 = (i1 : Int) := by omega
  have hi12 : (i1 : Int) + 1 = (i2 : Int) := by omega
  have hi23 : (i2 : Int) + 1 = (i3 : Int) := by omega
  have hi32 : (i3 : Int) - 1 = (i2 : Int) := by omega
  have hI := hidd (⟨h1, h2, h3⟩ : i1 = i + 1 ∧ i2 = i + 2 ∧ i3 = i + 3)
  clear h1 h2 h3
  go_enter Try.func97, Try.ntmps97
  go_upto_region 2 with fail
  have p1 := p.read T1 R1
  have f1 := Fr.of T1 v
  generalize w.setCell ⟨b, 1, none⟩ (.int .i64 (i1 : Int)) = w1 at *
  clear c0 c1 c2 c3 c4 c5 hth R1 T1
  obtain ⟨c0, c1, c2, c3, c4, c5⟩ := p1.pr.cells
  have HP1 := hidd p1
  have HF1 := hidd f1
  clear p1 f1 p
  go_wp2
  go_loopw [16] (fun _ wr => (QR wr b s (i1 : Int) v d ∧ Touch b b w1 wr) ∨ (QR wr b s (i2 : Int) v d ∧ Touch b b w1 wr)) (fun _ wr => s.size - atOf wr b)
  case atStart => exact .inl ⟨HP1.out.pr, Touch.refl _ _ _⟩
  case round =>
    clear c0 c1 c2 c3 c4 c5
    rcases hrel with ⟨r1, T1⟩ | ⟨r1, T1⟩
    · obtain ⟨c0, c1, c2, c3, c4, c5⟩ := r1.cells
      have hth := r1.thawed
      have hE := fun m => ends_no (i := i1) (r1.drewN m) h12
      have hao : Hid (atOf wr b = i1) := r1.atOf
      have HR1 := hidd r1
      have HT1 := hidd T1
      have hi1s : (i1 : Int) < (s.size : Int) := by omega
      have hne : ((s[i1].toNat : Int) != 125) = true := by simp; omega
      clear r1 T1 hv1
      go_wp2_with fail
      go_quiet ((go_at_call 66; exact Calls.quiet_of (hE _)))
      go_wp2
      have R2 : ∀ m, QR ((wr.drewN m).setCell ⟨b, 1, none⟩ (.int .i64 (i2 : Int))) b s (i2 : Int) v d := fun m => (HR1.out.drewN m).atTo (i2 : Int)
      refine ⟨.inr ⟨R2 _, (HT1.out.drewN _).set1 1 _⟩, ?_⟩
      rw [hao.out, (R2 _).atOf]
      have := hI.out
      omega
    · have hE := fun m => ends_no (i := i2) (r1.drewN m) h22
      have hi2s : (i2 : Int) < (s.size : Int) := by omega
      have hne : ((s[i2].toNat : Int) != 125) = false := by rw [hv2]; rfl
      obtain ⟨c0, c1, c2, c3, c4, c5⟩ := r1.cells
      clear hv1 hv2
      go_wp2_with fail
      go_quiet ((go_at_call 66; exact Calls.quiet_of (hE _)))
      have r2 := r1.drewN nq
      have T2 := T1.drewN nq
      clear c0 c1 c2 c3 c4 c5 hE hne r1 T1
      generalize wr.drewN nq = w2 at *
      go_wp2_with fail
      refine (ends_no r2 h22).mono ?_
      rintro e w3 ⟨rfl, m3, rfl⟩
      have r3 := r2.drewN m3
      have T3 := T2.drewN m3
      clear r2 T2
      generalize w2.drewN m3 = w3 at *
      obtain ⟨c0, c1, c2, c3, c4, c5⟩ := r3.cells
      have hth := r3.thawed
      have hNm : ∀ u : World, Calls Try.prog 69 #[.string t] u fun e w' => e = .returned (.bool true) ∧ w' = u := fun u => by
        have := rname_any t u (by unfold maxLen; omega)
        rw [hnb] at this
        exact this
      have hex := HT.out
      have R4 : ∀ m, QR ((w3.drewN m).setCell ⟨b, 1, none⟩ (.int .i64 (i3 : Int))) b s (i3 : Int) v d := fun m => (r3.drewN m).atTo (i3 : Int)
      have T4 : ∀ m, Touch b b w1 ((w3.drewN m).setCell ⟨b, 1, none⟩ (.int .i64 (i3 : Int))) := fun m => (T3.drewN m).set1 1 _
      go_wp2_with fail
      go_quiet ((go_at_call 69; exact Calls.quiet_of_same (hNm _)))
      go_upto_region 12 with fail
      have p4 := HP1.out.read (T4 nq) (R4 nq)
      have f4 := HF1.out.trans (Fr.of (T4 nq) v)
      generalize (w3.drewN nq).setCell ⟨b, 1, none⟩ (.int .i64 (i3 : Int)) = w4 at *
      clear c0 c1 c2 c3 c4 c5 hth hNm R4 T4 r3 T3 HP1 HF1 hts hnb hex
      have HF4 := hidd f4
      clear f4
      have hsz1 : (i1 : Int) ≤ (i2 : Int) := by omega
      have hsz2 : (i2 : Int) ≤ (s.size : Int) := by omega
      refine wp_region_slotsT 13 (by decide) (by kernel_rfl) (by kernel_rfl) (fun _ _ => true) (NmS w4 b s (i3 : Int) d v l) (NmG b i1 i2 i3 s t) Eb (by kernel_rfl) (by kernel_rfl) (by kernel_rfl) (by kernel_rfl) ?_ (NmS.below ⟨p4, Below.refl _ _⟩ (bel_drew (Below.refl _ _))) [0, 3] (by kernel_rfl) ?_ ?_ ?_
      · intro t d v u u' _ _ h hE
        exact ⟨h.1, fun R hR => by unfold NmGP at hR; cases hR⟩
      · intro u _
        refine ⟨⟨_, rfl, ?_⟩, ⟨_, rfl, ?_⟩, trivial⟩
        · exact ⟨fun _ h => Option.some.inj h, fun _ h => no_some h⟩
        · exact ⟨fun _ h => Option.some.inj h, fun _ h => no_some h⟩
      · refine ⟨?_, ?_, ?_, ?_, ?_, ?_, ?_, ?_, ?_, ?_, ?_, ?_, ?_, trivial⟩
        · intro a u hS hr K hK
          obtain ⟨⟨vl0, e0, g0⟩, -⟩ := hr
          obtain rfl := g0.1 _ rfl
          clear g0
          rw [if_pos (want_none rfl)]
          unfold Oper.wp
          go_simp
          exact hK _ _ ⟨fun _ h => Option.some.inj h, fun _ h => no_some h⟩ hS (eby rfl (Below.refl _ _))
        · intro a u hS hr K hK
          obtain ⟨⟨vl0, e0, g0⟩, -⟩ := hr
          obtain rfl := g0.1 _ rfl
          clear g0
          rw [if_pos (want_none rfl)]
          unfold Oper.wp
          go_simp
          exact hK _ _ ⟨fun _ h => Option.some.inj h, fun _ h => no_some h⟩ hS (eby rfl (Below.refl _ _))
        · intro a u hS hr K hK
          obtain ⟨⟨vl0, e0, g0⟩, -⟩ := hr
          obtain rfl := g0.1 _ rfl
          clear g0
          rw [if_pos (want_none rfl)]
          unfold Oper.wp
          go_simp
          exact hK _ _ ⟨fun _ h => Option.some.inj h, fun _ h => no_some h⟩ hS (eby rfl (Below.refl _ _))
        · intro a u hS hr K hK
          obtain ⟨⟨vl0, e0, g0⟩, -⟩ := hr
          obtain rfl := g0.1 _ rfl
          clear g0
          rw [if_pos (want_none rfl)]
          unfold Oper.wp
          go_simp
          exact hK _ _ ⟨fun _ h => Option.some.inj h, fun _ h => no_some h⟩ hS (eby rfl (Below.refl _ _))
        · intro a u hS hr K hK
          obtain ⟨⟨vl0, e0, g0⟩, -⟩ := hr
          obtain rfl := g0.1 _ rfl
          clear g0
          rw [if_pos (want_none rfl)]
          obtain ⟨c0, c1, c2, c3, c4, c5⟩ := hS.qs.pr.cells
          unfold Oper.wp
          go_simp
          exact hK _ _ ⟨fun _ h => Option.some.inj h, fun _ h => no_some h⟩ hS (eby rfl (Below.refl _ _))
        · intro a u hS hr K hK
          obtain ⟨⟨vl0, e0, g0⟩, -⟩ := hr
          obtain rfl := g0.1 _ rfl
          clear g0
          rw [if_pos (want_none rfl)]
          unfold Oper.wp
          go_simp
          exact hK _ _ ⟨fun _ h => Option.some.inj h, fun _ h => no_some h⟩ hS (eby rfl (Below.refl _ _))
        · intro a u hS hr K hK
          obtain ⟨⟨vl0, e0, g0⟩, -⟩ := hr
          obtain rfl := g0.1 _ rfl
          clear g0
          rw [if_pos (want_none rfl)]
          unfold Oper.wp
          go_simp
          exact hK _ _ ⟨fun _ h => Option.some.inj h, fun _ h => no_some h⟩ hS (eby rfl (Below.refl _ _))
        · intro a u hS hr K hK
          obtain ⟨⟨vl0, e0, g0⟩, -⟩ := hr
          obtain rfl := g0.1 _ rfl
          clear g0
          rw [if_pos (want_none rfl)]
          unfold Oper.wp
          go_simp
          exact hK _ _ ⟨fun _ h => Option.some.inj h, fun _ h => no_some h⟩ hS (eby rfl (Below.refl _ _))
        · intro a u hS hr K hK
          obtain ⟨⟨vl0, e0, g0⟩, -⟩ := hr
          obtain rfl := g0.1 _ rfl
          clear g0
          rw [if_pos (want_none rfl)]
          unfold Oper.wp
          go_simp
          exact hK _ _ ⟨fun _ h => Option.some.inj h, fun _ h => no_some h⟩ hS (eby rfl (Below.refl _ _))
        · intro a u hS hr K hK
          obtain ⟨⟨vl0, e0, g0⟩, -⟩ := hr
          obtain rfl := g0.1 _ rfl
          clear g0
          rw [if_pos (want_none rfl)]
          obtain ⟨c0, c1, c2, c3, c4, c5⟩ := hS.qs.pr.cells
          unfold Oper.wp
          go_simp
          exact hK _ _ ⟨fun _ h => Option.some.inj h, fun _ h => no_some h⟩ hS (eby rfl (Below.refl _ _))
        · intro a u hS hr K hK
          obtain ⟨⟨vl0, e0, g0⟩, -⟩ := hr
          obtain rfl := g0.1 _ rfl
          clear g0
          rw [if_pos (want_none rfl)]
          have z3 : IntKind.i64.wrap (i2 : Int) = (i2 : Int) := IntWalk.i64_in _ (by omega)
          unfold Oper.wp
          go_simp
          exact hK _ _ ⟨fun _ h => Option.some.inj h, fun _ h => no_some h⟩ hS (eby rfl (Below.refl _ _))
        · intro a u hS hr K hK
          obtain ⟨⟨vl0, e0, g0⟩, ⟨vl1, e1, g1⟩, ⟨vl2, e2, g2⟩, -⟩ := hr
          obtain rfl := g0.1 _ rfl
          clear g0
          obtain rfl := g1.1 _ rfl
          clear g1
          obtain rfl := g2.1 _ rfl
          clear g2
          rw [if_pos (want_none rfl)]
          have h9 := HT.out
          unfold Oper.wp
          go_simp
          exact hK _ _ ⟨fun _ h => Option.some.inj h, fun _ h => no_some h⟩ hS (eby rfl (Below.refl _ _))
        · intro a u hS hr K hK
          obtain ⟨⟨vl0, e0, g0⟩, -⟩ := hr
          obtain rfl := g0.1 _ rfl
          clear g0
          rw [if_pos (want_none rfl)]
          unfold Oper.wp
          go_simp
          exact hK _ _ ⟨fun _ h => Option.some.inj h, fun _ h => no_some h⟩ hS (eby rfl (Below.refl _ _))
      intro a u hS hts hd hkn hf
      obtain ⟨v68, e68, g68⟩ := hf 0 _ 68 (by decide) rfl rfl (fun _ => rfl)
      obtain ⟨v69, e69, g69⟩ := hf 1 _ 69 (by decide) rfl rfl (fun _ => rfl)
      obtain ⟨v70, e70, g70⟩ := hf 2 _ 70 (by decide) rfl rfl (fun _ => rfl)
      obtain ⟨v71, e71, g71⟩ := hf 3 _ 71 (by decide) rfl rfl (fun _ => rfl)
      obtain ⟨v72, e72, g72⟩ := hf 4 _ 72 (by decide) rfl rfl (fun _ => rfl)
      obtain ⟨v73, e73, g73⟩ := hf 5 _ 73 (by decide) rfl rfl (fun _ => rfl)
      obtain ⟨v74, e74, g74⟩ := hf 6 _ 74 (by decide) rfl rfl (fun _ => rfl)
      obtain ⟨v75, e75, g75⟩ := hf 7 _ 75 (by decide) rfl rfl (fun _ => rfl)
      obtain ⟨v76, e76, g76⟩ := hf 8 _ 76 (by decide) rfl rfl (fun _ => rfl)
      obtain ⟨v77, e77, g77⟩ := hf 9 _ 77 (by decide) rfl rfl (fun _ => rfl)
      obtain ⟨v78, e78, g78⟩ := hf 10 _ 78 (by decide) rfl rfl (fun _ => rfl)
      obtain ⟨v79, e79, g79⟩ := hf 11 _ 79 (by decide) rfl rfl (fun _ => rfl)
      obtain ⟨v80, e80, g80⟩ := hf 12 _ 80 (by decide) rfl rfl (fun _ => rfl)
      obtain ⟨v81, e81⟩ : ∃ z, a.tmps[81]? = some z := ⟨_, Array.getElem?_eq_getElem (by rw [hts]; simp)⟩
      obtain ⟨v2, e2⟩ : ∃ z, a.tmps[2]? = some z := ⟨_, Array.getElem?_eq_getElem (by rw [hts]; simp)⟩
      have hA := act_puts [(68, v68), (69, v69), (70, v70), (71, v71), (72, v72), (73, v73), (74, v74), (75, v75), (76, v76), (77, v77), (78, v78), (79, v79), (80, v80), (81, v81), (2, v2)] hts hd hkn (by kernel_rfl) (by simp [e68, e69, e70, e71, e72, e73, e74, e75, e76, e77, e78, e79, e80, e81, e2])
      clear hf hts hd hkn e68 e69 e70 e71 e72 e73 e74 e75 e76 e77 e78 e79 e80 e81 e2
      obtain rfl := g68.1 _ rfl
      clear g68
      obtain rfl := g69.1 _ rfl
      clear g69
      obtain rfl := g70.1 _ rfl
      clear g70
      obtain rfl := g71.1 _ rfl
      clear g71
      obtain rfl := g72.1 _ rfl
      clear g72
      obtain rfl := g73.1 _ rfl
      clear g73
      obtain rfl := g74.1 _ rfl
      clear g74
      obtain rfl := g75.1 _ rfl
      clear g75
      obtain rfl := g76.1 _ rfl
      clear g76
      obtain rfl := g77.1 _ rfl
      clear g77
      obtain rfl := g78.1 _ rfl
      clear g78
      obtain rfl := g79.1 _ rfl
      clear g79
      obtain rfl := g80.1 _ rfl
      clear g80
      subst hA
      simp only [List.foldl, List.setIfInBounds_toArray, List.set_cons_zero, List.set_cons_succ]
      simp only [List.drop_succ_cons, List.drop_zero]
      have p5 := hS.qs
      have f5 := HF4.out.trans (Fr.of ((Touch.refl b b w4).below hS.bel) v)
      have ha := Ad.add_any p5 (refG t) none 0 (fun h => absurd rfl h) hl
      rw [ref_lit] at ha
      clear hS p5 p4 HF4
      have HF5 := hidd f5
      clear f5
      go_wp2_with fail
      refine ha.mono ?_
      rintro e w6 ⟨rfl, v', p6, f6⟩
      have HP6 := hidd p6
      have HF6 := hidd (HF5.out.trans f6)
      clear ha p6 f6 HF5
      go_wp2
      go_ret
      exact ⟨rfl, v', HP6.out, HF6.out⟩
end Nm
section
variable {w w' : World} {b : Nat} {s : ByteArray} {v : Value} {d : Int} {l : List NR}
abbrev mbrA : ByteArray := { data := #[93, 45, 94] }
set_option maxHeartbeats 1000000 in
theorem in_mbr {c : Nat} (h1 : c ≠ 93) (h2 : c ≠ 45) (h3 : c ≠ 94) (w : World) : Calls Try.prog 98 #[.int .u8 (c : Int), .string mbrA] w fun e w' => e = .returned (.bool false) ∧ w' = w := by
  have hne : ∀ k, k < 3 → ((mbrA[k]!).toNat : Int) ≠ (c : Int) := fun k hk => by
    match k, hk with
    | 0, _ => show ((93 : Nat) : Int) ≠ _; omega
    | 1, _ => show ((45 : Nat) : Int) ≠ _; omega
    | 2, _ => show ((94 : Nat) : Int) ≠ _; omega
  go_enter Try.func98, Try.ntmps98
  go_wp2
  go_loopw [5] (fun s5 wr => ∃ k : Nat, s5 = .int .i64 (k : Int) ∧ k ≤ 3 ∧ wr = w) (fun s5 _ => 3 - (intOf s5).toNat)
  case atStart => exact ⟨0, rfl, Nat.zero_le _, rfl⟩
  case round =>
    obtain ⟨k, rfl, hk, rfl⟩ := hrel
    by_cases hlt : k < 3
    · have hki : (k : Int) < 3 := by omega
      have hkl : k < mbrA.size := hlt
      have hx : ((mbrA[k].toNat : Int) == (c : Int)) = false := by
        have := hne k hlt
        rw [getElem!_pos mbrA k hkl] at this
        simpa using this
      clear hne
      go_wp2
      exact ⟨⟨k + 1, rfl, by omega, by first | trivial | rfl⟩, by simp [intOf]; omega⟩
    · have hke : k = 3 := by omega
      subst hke
      go_wp2
      go_ret
      exact ⟨rfl, rfl⟩
set_option maxHeartbeats 1000000 in
/-- A byte of a class that stands for itself. -/
theorem member_plain {i j c : Nat} (r : QR w b s i v d) (hj : j = i + 1) (hi : i < s.size) (hs : s.size ≤ 100000) (hc : at_ (bs s) i = c) (h92 : specialB c = false) (h45 : c ≠ 45) :
    Calls Try.prog 102 #[.pointer (some ⟨b, 0, none⟩)] w fun e w' => e = .returned (.int .u8 (c : Int)) ∧ QR w' b s (j : Int) v d ∧ Touch b b w w' := by
  have h93 : c ≠ 93 := fun e => by rw [e] at h92; cases h92
  have h94 : c ≠ 94 := fun e => by rw [e] at h92; cases h92
  have h9 : c ≠ 92 := fun e => by rw [e] at h92; cases h92
  have hv : s[i].toNat = c := by rw [← at_get hi]; exact hc
  have hii : (i : Int) < (s.size : Int) := by omega
  have hin := fun u => in_mbr h93 h45 h94 u
  have HC := hidd hc
  clear h92 hc
  go_enter Try.func102, Try.ntmps102
  go_wp2_with fail
  refine (ends_no r hi).mono ?_
  rintro e w2 ⟨rfl, m2, rfl⟩
  have r2 := r.drewN m2
  have T2 := (Touch.refl b b w).drewN m2
  clear r
  generalize w.drewN m2 = w2 at *
  obtain ⟨c0, c1, c2, c3, c4, c5⟩ := r2.cells
  go_wp2_with fail
  go_quiet ((go_at_call 98; exact Calls.quiet_of_same (hin _)))
  have r3 := r2.drewN nq
  have T3 := T2.drewN nq
  clear c0 c1 c2 c3 c4 c5 r2 T2 hin
  generalize w2.drewN nq = w3 at *
  go_wp2_with fail
  refine (one_plain r3 hj hi hs HC.out h9).mono ?_
  rintro e w4 ⟨rfl, r4, T4⟩
  have HR := hidd r4
  have HT := hidd (T3.trans T4)
  clear r4 T4 T3 r3
  go_wp2
  go_ret
  exact ⟨rfl, HR.out, HT.out⟩
def setG (p : Nat → Bool) : Gd := ⟨2, p, [], 0, 0, ⟨#[]⟩⟩
end
end Go.Proofs.Ytahhiajliomcfaa.Sy.Rf

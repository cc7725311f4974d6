/- The last place; Is, Longest; the laws' helpers ints, text. -/
import Derived.Test.YtcidimjjclanmaaDoorCz
namespace Go.Proofs.YtcidimjjclanmaaDoor.Sy.Lg.En
open Go.RowKit Go.Proofs.YtcidimjjclanmaaDoor.Sy.Ap Go.Proofs.YtcidimjjclanmaaDoor.Sy.Ap.Wk
set_option maxRecDepth 100000
set_option linter.unusedVariables false

theorem nts_own {w : World} {b : Nat} {A : Option Addr} {c : Nat} {l : List Nat} (h : w.ownsRow b 3 1 (.slice A l.length c) l.length (i64s l)) : Nts w w.heap.size A l := by
  obtain ⟨A2, c2, e, hN⟩ := Nts.of_own h
  injection e with e1 e2 e3
  subst e1
  exact hN
set_option maxHeartbeats 400000 in
theorem last_any (A : Option Addr) (c : Nat) (l : List Nat) (w : World) (hx : Nts w w.heap.size A l) (hl : l.length ≤ 1000) :
    Calls Tryd.prog 28 #[.slice A l.length c] w fun e w' => w' = w ∧ e = .returned (.tuple #[.int .i64 ((l.getLast?.getD 0 : Nat) : Int), .bool l.getLast?.isSome]) := by
  by_cases h0 : l.length = 0
  · have e : l = [] := List.eq_nil_of_length_eq_zero h0
    subst e
    go_enter Tryd.func28, Tryd.ntmps28
    go_wp2
    go_ret2
    exact ⟨rfl, rfl⟩
  · have hk : l.length - 1 < l.length := by omega
    obtain ⟨g, off, rfl, hg, hcell⟩ := hx.at_ hk
    have hla : l.getLast? = some (l.getD (l.length - 1) 0) := by
      rw [List.getLast?_eq_getElem?, List.getD_eq_getElem?_getD, List.getElem?_eq_getElem hk]
      rfl
    have HLA := hidd hla
    clear hla hx
    generalize l.getD (l.length - 1) 0 = x at *
    obtain ⟨n, hn⟩ : ∃ n, l.length = n := ⟨_, rfl⟩
    rw [hn] at hcell hk h0 hl
    rw [hn]
    clear hn
    have e1 : ((n : Int) - 1) = ((n - 1 : Nat) : Int) := by omega
    have e2 : (n : Int) ≠ 0 := by omega
    have e3 : ((n : Int) == 0) = false := by simp; omega
    have e4 : ((n - 1 : Nat) : Int) < (n : Int) := by omega
    go_enter Tryd.func28, Tryd.ntmps28
    go_wp2
    go_ret2
    rw [HLA.out]
    exact ⟨rfl, rfl⟩
def isL (l : List Nat) (n : Nat) : Bool := l.getLast? == some n
def longZ (l : List Nat) (i : Int) : Int := match l.getLast? with | some e => if (e : Int) ≤ i then 0 else (e : Int) | none => 0
def longB (l : List Nat) (i : Int) : Bool := match l.getLast? with | some e => !decide ((e : Int) ≤ i) | none => false
def EndsL (args : Array Value) (l : List Nat) (w : World) : Prop := Calls Tryd.prog 17 args w fun e w' => LstR w l e w'
set_option maxHeartbeats 400000 in
theorem is_any (A : Option Addr) (n c : Nat) (s : ByteArray) (hs : s.size ≤ 1000) (l : List Nat) (hl : l.length ≤ 100) (w : World) (hE : EndsL #[.slice A n c, .string s, .int .i64 0] l w) :
    Calls Tryd.prog 19 #[.slice A n c, .string s] w fun e w' => Below w.heap.size w w' ∧ e = .returned (.bool (isL l s.size)) := by
  have HE := hidd hE
  clear hE
  go_enter Tryd.func19, Tryd.ntmps19
  go_wp2_with fail
  refine HE.out.mono ?_
  rintro e w1 ⟨b1, A1, c1, rfl, own1⟩
  have hla := last_any A1 c1 l w1 (nts_own own1) (by omega)
  have HB := hidd b1
  have HL : Hid (isL l s.size = (l.getLast? == some s.size)) := rfl
  clear own1 b1
  generalize l.length = m at *
  go_wp2_with fail
  refine hla.mono ?_
  rintro e w2 ⟨rfl, rfl⟩
  clear hla
  cases hg : l.getLast? with
  | none =>
    have HF : Hid (isL l s.size = false) := by show _ = _; unfold isL; rw [hg]; rfl
    clear hg
    go_wp2
    go_ret
    exact ⟨HB.out, by rw [HF.out]; rfl⟩
  | some x =>
    have HF : Hid (isL l s.size = (x == s.size)) := by show _ = _; unfold isL; rw [hg]; rfl
    clear hg
    have hxs : ((x : Int) == (s.size : Int)) = (x == s.size) := by
      rw [Bool.eq_iff_iff]
      simp
      omega
    have hxd : decide ((x : Int) = (s.size : Int)) = (x == s.size) := by
      rw [Bool.eq_iff_iff]
      simp
      omega
    have HF2 := HF.out
    generalize (x == s.size) = zz at *
    go_wp2
    go_ret
    exact ⟨HB.out, by rw [HF.out]; rfl⟩
set_option maxHeartbeats 400000 in
theorem longest_any (A : Option Addr) (n c : Nat) (s : ByteArray) (i : Int) (l : List Nat) (hl : l.length ≤ 100) (w : World) (hE : EndsL #[.slice A n c, .string s, .int .i64 i] l w) :
    Calls Tryd.prog 14 #[.slice A n c, .string s, .int .i64 i] w fun e w' => Below w.heap.size w w' ∧ e = .returned (.tuple #[.int .i64 (longZ l i), .bool (longB l i)]) := by
  have HE := hidd hE
  clear hE
  go_enter Tryd.func14, Tryd.ntmps14
  go_wp2_with fail
  refine HE.out.mono ?_
  rintro e w1 ⟨b1, A1, c1, rfl, own1⟩
  have hla := last_any A1 c1 l w1 (nts_own own1) (by omega)
  have HB := hidd b1
  clear own1 b1
  generalize l.length = m at *
  go_wp2_with fail
  refine hla.mono ?_
  rintro e w2 ⟨rfl, rfl⟩
  clear hla
  cases hg : l.getLast? with
  | none =>
    have HF : Hid (longZ l i = 0 ∧ longB l i = false) := ⟨by unfold longZ; rw [hg], by unfold longB; rw [hg]⟩
    clear hg
    go_wp2
    go_ret2
    exact ⟨HB.out, by rw [HF.out.1, HF.out.2]; rfl⟩
  | some x =>
    by_cases hxi : (x : Int) ≤ i
    · have HF : Hid (longZ l i = 0 ∧ longB l i = false) := ⟨by unfold longZ; rw [hg]; exact if_pos hxi, by unfold longB; rw [hg]; simp [hxi]⟩
      clear hg
      go_wp2
      go_ret2
      exact ⟨HB.out, by rw [HF.out.1, HF.out.2]; rfl⟩
    · have HF : Hid (longZ l i = (x : Int) ∧ longB l i = true) := ⟨by unfold longZ; rw [hg]; exact if_neg hxi, by unfold longB; rw [hg]; simp [hxi]⟩
      clear hg
      go_wp2
      go_ret2
      exact ⟨HB.out, by rw [HF.out.1, HF.out.2]; rfl⟩
/-! ### The laws' helpers -/
theorem endL_len (ns : List Nd) (t : List Nat) (i : Nat) : (endL ns t i).length ≤ t.length + 1 := by
  unfold endL
  have := List.length_filter_le (fun j => @decide (Mt ns t (ns.length - 1) i j) (Classical.propDecidable _)) (List.range (t.length + 1))
  rw [List.length_range] at this
  exact this
set_option maxHeartbeats 1000000 in
theorem ints_any (A A2 : Option Addr) (c c2 : Nat) (l l2 : List Nat) (w : World) (hx : Nts w w.heap.size A l) (hy : Nts w w.heap.size A2 l2) (hl : l.length ≤ 1000) (hl2 : l2.length ≤ 1000) :
    Calls Tryd.prog 16 #[.slice A l.length c, .slice A2 l2.length c2] w fun e w' => Below w.heap.size w w' ∧ ∃ z, e = .returned (.bool z) ∧ (z = true ↔ l = l2) := by
  by_cases hne : l.length = l2.length
  · obtain ⟨n, hn⟩ : ∃ n, l.length = n := ⟨_, rfl⟩
    have HN := hidd hn
    have HN2 : Hid (l2.length = n) := by rw [← hne, hn]; exact rfl
    rw [← hne, hn]
    rw [hn] at hl
    clear hn hne hl2
    go_enter Tryd.func16, Tryd.ntmps16
    go_wp2
    go_loopw [13] (fun s13 wr => ∃ (k m : Nat), k ≤ n ∧ s13 = .int .i64 (k : Int) ∧ (∀ i, i < k → l.getD i 0 = l2.getD i 0) ∧ wr = w.drewN m) (fun s13 _ => n - (intOf s13).toNat)
    case atStart => exact ⟨0, 0, Nat.zero_le _, rfl, fun i hi => absurd hi (Nat.not_lt_zero _), rfl⟩
    case round =>
      obtain ⟨k, m, hk0, rfl, hp, rfl⟩ := hrel
      have HP := hidd hp
      clear hp
      by_cases hlt : k < n
      · obtain ⟨g1, o1, rfl, hg1, hc1⟩ := hx.at_ (k := k) (by rw [HN.out]; exact hlt)
        obtain ⟨g2, o2, rfl, hg2, hc2⟩ := hy.at_ (k := k) (by rw [HN2.out]; exact hlt)
        have y1 : (w.drewN m).cell? ⟨g1, o1 + k, none⟩ = some (.int .i64 ((l.getD k 0 : Nat) : Int)) := hc1
        have y2 : (w.drewN m).cell? ⟨g2, o2 + k, none⟩ = some (.int .i64 ((l2.getD k 0 : Nat) : Int)) := hc2
        have hki : (k : Int) < (n : Int) := by omega
        have HQ : Hid (l.getD k 0 = l2.getD k 0 → ∀ i, i < k + 1 → l.getD i 0 = l2.getD i 0) := fun q i hi => by
          by_cases e : i = k
          · subst e; exact q
          · exact HP.out i (by omega)
        have HNE : Hid (l.getD k 0 ≠ l2.getD k 0 → l ≠ l2) := fun q e => q (by rw [e])
        generalize l.getD k 0 = x at *
        generalize l2.getD k 0 = y at *
        by_cases hxy : x = y
        · subst hxy
          have h1 : ((x : Int) != (x : Int)) = false := by simp
          have HQ2 := hidd (HQ.out rfl)
          clear HQ HNE
          go_wp2
          go_quiet (fail)
          go_wp2
          refine ⟨⟨k + 1, m + nq, by omega, rfl, HQ2.out, ?_⟩, by simp [intOf]; omega⟩
          simp [World.drewN]
        · have h1 : ((x : Int) != (y : Int)) = true := by simp; omega
          have h2 : decide ((x : Int) = (y : Int)) = false := by simp; omega
          have HQ2 := hidd (HNE.out hxy)
          clear HQ HNE hxy
          go_wp2
          go_quiet (fail)
          go_wp2
          go_ret
          exact ⟨bel_drewN (bel_drewN (Below.refl _ _) m) nq, false, rfl, (fun q => by cases q), fun q => absurd q HQ2.out⟩
      · have hkn : k = n := by omega
        have HEQ : Hid (l = l2) := by
          show _ = _
          apply List.ext_getElem?
          intro i
          by_cases hi : i < n
          · have := HP.out i (by omega)
            have h1 : i < l.length := by rw [HN.out]; exact hi
            have h2 : i < l2.length := by rw [HN2.out]; exact hi
            rw [List.getD_eq_getElem?_getD, List.getElem?_eq_getElem h1, List.getD_eq_getElem?_getD, List.getElem?_eq_getElem h2] at this
            rw [List.getElem?_eq_getElem h1, List.getElem?_eq_getElem h2]
            exact congrArg some this
          · rw [List.getElem?_eq_none (by rw [HN.out]; omega), List.getElem?_eq_none (by rw [HN2.out]; omega)]
        subst hkn
        go_wp2
        go_ret
        exact ⟨bel_drewN (Below.refl _ _) m, true, rfl, fun _ => HEQ.out, fun _ => rfl⟩
  · have HNE : Hid (l ≠ l2) := fun e => hne (by rw [e])
    generalize l.length = n at *
    generalize l2.length = n2 at *
    have h1 : ((n : Int) != (n2 : Int)) = true := by simp; omega
    have h2 : decide ((n : Int) = (n2 : Int)) = false := by simp; omega
    have h3 : ((n : Int) == (n2 : Int)) = false := by simp; omega
    clear hne hx hy
    go_enter Tryd.func16, Tryd.ntmps16
    go_wp2
    go_ret
    exact ⟨Below.refl _ _, false, rfl, (fun q => by cases q), fun q => absurd q HNE.out⟩
end Go.Proofs.YtcidimjjclanmaaDoor.Sy.Lg.En

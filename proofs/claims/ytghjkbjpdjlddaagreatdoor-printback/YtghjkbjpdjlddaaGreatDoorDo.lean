/- PrintBack: its walk. -/
import Derived.Test.YtghjkbjpdjlddaaGreatDoorDl
namespace Go.Proofs.YtghjkbjpdjlddaaGreatDoor.Sy.Pn
open Go.RowKit
set_option maxRecDepth 100000
set_option linter.unusedVariables false

theorem nds_take2 {w : World} {B : Nat} {A : Option Addr} {gs : List Gd} (h : Nds w B A gs) (r : Nat) : Nds w B A (gs.take r) := fun hne => by
  obtain ⟨b, off, e, hb, ha⟩ := h (fun e => hne (by rw [e]; simp))
  refine ⟨b, off, e, hb, fun i hi => ?_⟩
  rw [List.length_take] at hi
  have := ha i (by omega)
  rw [List.getD_eq_getElem?_getD, List.getElem?_take, if_pos (by omega), ← List.getD_eq_getElem?_getD]
  exact this
def cnt (l : List Nat) (i : Nat) : Nat := (l.take i).count 40
theorem cnt_succ {l : List Nat} {i : Nat} (h : i < l.length) : cnt l (i + 1) = cnt l i + if at_ l i = 40 then 1 else 0 := by
  unfold cnt
  rw [List.take_succ_eq_append_getElem h, List.count_append]
  have e : at_ l i = l[i] := by unfold at_; rw [List.getD_eq_getElem?_getD, List.getElem?_eq_getElem h]; rfl
  rw [e]
  congr 1
  by_cases h4 : l[i] = 40
  · rw [if_pos h4, h4]; rfl
  · rw [if_neg h4, List.count_eq_zero]
    simp
    omega
theorem cnt_le (l : List Nat) (i : Nat) : cnt l i ≤ i := by
  unfold cnt
  refine Nat.le_trans List.count_le_length ?_
  rw [List.length_take]
  omega
set_option maxHeartbeats 4000000 in
theorem back_core (A : Option Addr) (c k : Nat) (gs xs : List Gd) (w : World) (hE : EV w) (hT : TV w) (hx : Nds w w.heap.size A xs) (hlx : xs.length = k) (hk : k = min gs.length 300) (hl : gs.length ≤ c) (hc : c ≤ maxLen) (hnm : ∀ g ∈ xs, g.nm.size ≤ maxLen ∧ g.l.length ≤ maxLen) :
    Calls Tryz.prog 3 #[.slice A gs.length c] w fun e w' => e = .returned (.bool true) ∧ Below w.heap.size w w' := by
  have HTR := hidd (fun (w1 : World) (b : Below w.heap.size w w1) => tree_any A c xs w1 ((hx.below b).more b.size) (by omega) hnm (hT.below b))
  have HR := hidd (fun (w1 : World) (b : Below w.heap.size w w1) => right_any A c xs w1 ((hx.below b).more b.size) (by omega) hnm)
  have HX := hidd hx
  have HLX := hidd hlx
  have HE := hidd (fun (w1 : World) (b : Below w.heap.size w w1) => hE.below b)
  rw [hlx] at HTR HR
  generalize gs.length = n at *
  unfold maxLen at hc
  clear hx hnm hlx hE
  by_cases h : n ≤ 300
  · have hkn : k = n := by omega
    subst hkn
    have hmi : min (k : Int) 300 = (k : Int) := by omega
    have hmd : decide ((300 : Int) < (k : Int)) = false := decide_eq_false (by omega)
    clear h hk
    go_enter Tryz.func3, Tryz.ntmps3
    go_wp2_with fail
    refine (shown5_any w hT).mono ?_
    rintro e w1 ⟨rfl, b1⟩
    have htr := HTR.out w1 b1
    have HB1 := hidd b1
    clear b1 HTR
    go_wp2_with fail
    refine htr.mono ?_
    rintro e w2 ⟨⟨ms, hm, rfl⟩ | ⟨hn, rfl⟩, b2⟩
    · have D2 := hidd (HB1.out.trans (b2.mono HB1.out.size))
      have HM := hidd hm
      obtain ⟨s, hs⟩ : ∃ s, txt (treeT ms) = s := ⟨_, rfl⟩
      have HBS : Hid (bs s = treeT ms) := by show _ = _; rw [← hs]; exact bs_txt (RN.lt hm)
      have hsz : s.size ≤ 4000000 := by rw [← hs, txt_size]; exact hm.size
      have HSB : Hid (s.size = (bs s).length) := (bs_len s).symm
      have HT2 := hidd hs
      rw [hs]
      clear hs hm htr b2 HR HB1
      go_wp2
      go_loopw [7, 37] (fun s7 s37 wr => ∃ i : Nat, s37 = .int .i64 (i : Int) ∧ i ≤ s.size ∧ s7 = .int .i64 ((cnt (bs s) i : Nat) : Int) ∧ wr = w2) (fun _ s37 _ => s.size - (intOf s37).toNat)
      case atStart => exact ⟨0, rfl, Nat.zero_le _, rfl, rfl⟩
      case round =>
        obtain ⟨i, rfl, hi, rfl, rfl⟩ := hrel
        have hcl := cnt_le (bs s) i
        by_cases hlt : i < s.size
        · have hii : (i : Int) < (s.size : Int) := by omega
          have hc := cnt_succ (l := bs s) (i := i) (by rw [← HSB.out]; exact hlt)
          rw [at_bs s i hlt] at hc
          have HC := hidd hc
          obtain ⟨j, hj⟩ : ∃ j, cnt (bs s) i = j := ⟨_, rfl⟩
          rw [hj] at hcl HC ⊢
          clear hc hj
          by_cases h40 : s[i].toNat = 40
          · have h4 : ((s[i].toNat : Int) == 40) = true := by rw [h40]; rfl
            have HC2 : Hid (cnt (bs s) (i + 1) = j + 1) := by show _ = _; rw [HC.out, if_pos h40]
            clear h40 HC
            go_wp2
            exact ⟨⟨i + 1, rfl, by omega, by rw [HC2.out]; rfl, by first | trivial | rfl⟩, by simp [intOf]; omega⟩
          · have h4 : ((s[i].toNat : Int) == 40) = false := by simp; omega
            have HC2 : Hid (cnt (bs s) (i + 1) = j) := by show _ = _; rw [HC.out, if_neg h40]; rfl
            clear h40 HC
            go_wp2
            exact ⟨⟨i + 1, rfl, by omega, by rw [HC2.out], by first | trivial | rfl⟩, by simp [intOf]; omega⟩
        · have hie : i = s.size := by omega
          have hfull : cnt (bs s) i = (treeT ms).count 40 := by unfold cnt; rw [hie, HSB.out, List.take_length, HBS.out]
          have hlen : s.size = (treeT ms).length := by rw [HSB.out, HBS.out]
          have HLE := hidd hlen
          obtain ⟨j, hj⟩ : ∃ j, cnt (bs s) i = j := ⟨_, rfl⟩
          have HJ : Hid (j = (treeT ms).count 40) := by show _ = _; rw [← hj, hfull]
          rw [hj] at hcl ⊢
          have hif : ¬ ((i : Int) < (s.size : Int)) := by omega
          clear hj hfull hie hlen HSB HBS
          by_cases hbig : 1024 < s.size
          · have hb1 : decide ((1024 : Int) < (s.size : Int)) = true := decide_eq_true (by omega)
            have hb2 : (1024 : Int) < (s.size : Int) := by omega
            go_wp2
            go_ret
            exact ⟨rfl, D2.out⟩
          by_cases hop : 64 < j
          · have hb1 : decide ((1024 : Int) < (s.size : Int)) = false := decide_eq_false (by omega)
            have hb2 : ¬ (1024 : Int) < (s.size : Int) := by omega
            have hb3 : (64 : Int) < (j : Int) := by omega
            go_wp2
            go_ret
            exact ⟨rfl, D2.out⟩
          · have hb1 : decide ((1024 : Int) < (s.size : Int)) = false := decide_eq_false (by omega)
            have hb2 : ¬ (1024 : Int) < (s.size : Int) := by omega
            have hb3 : ¬ (64 : Int) < (j : Int) := by omega
            have hpa := parse_again HM.out (by rw [← HJ.out]; omega) (by rw [← HLE.out]; omega) wr (HE.out wr D2.out)
            rw [HT2.out] at hpa
            clear HLE HJ
            go_wp2_with fail
            refine hpa.mono ?_
            rintro e w3 ⟨A3, c3, gs3, rfl, hN3, hG3, b3⟩
            have D3 := D2.out.trans (b3.mono D2.out.size)
            have hsm := same_gn HM.out hG3 A A3 c c3 w3 ((HX.out.below D3).more D3.size) hN3
            rw [HLX.out] at hsm
            have HD3 := hidd D3
            clear hpa hN3 hG3 b3 D3
            go_wp2_with fail
            refine hsm.mono ?_
            rintro e w4 ⟨rfl, b4⟩
            have HD4 := hidd (HD3.out.trans (b4.mono HD3.out.size))
            clear hsm b4 HD3
            go_wp2
            go_ret
            exact ⟨rfl, HD4.out⟩
    · have D2 := HB1.out.trans (b2.mono HB1.out.size)
      have hrr := HR.out w2 D2
      have HD := hidd D2
      have HN := hidd hn
      clear hn htr b2 HR HB1 D2
      go_wp2_with fail
      refine hrr.mono ?_
      rintro e w3 ⟨y1, rfl, h1, b3⟩
      have HD3 := hidd (HD.out.trans (b3.mono HD.out.size))
      have hy : y1 = false := by cases y1; rfl; exact absurd (h1.1 rfl) HN.out
      subst hy
      clear hrr h1 b3 HD
      go_wp2
      go_ret
      exact ⟨rfl, HD3.out⟩
  · have hkn : k = 300 := by omega
    subst hkn
    have hmi : min (n : Int) 300 = 300 := by omega
    have hmd : decide ((300 : Int) < (n : Int)) = true := decide_eq_true (by omega)
    have hnc : (300 : Int) ≤ (c : Int) := by omega
    clear h hk
    go_enter Tryz.func3, Tryz.ntmps3
    go_wp2_with fail
    refine (shown5_any w hT).mono ?_
    rintro e w1 ⟨rfl, b1⟩
    have htr := HTR.out w1 b1
    have HB1 := hidd b1
    clear b1 HTR
    go_wp2_with fail
    refine htr.mono ?_
    rintro e w2 ⟨⟨ms, hm, rfl⟩ | ⟨hn, rfl⟩, b2⟩
    · have D2 := hidd (HB1.out.trans (b2.mono HB1.out.size))
      have HM := hidd hm
      obtain ⟨s, hs⟩ : ∃ s, txt (treeT ms) = s := ⟨_, rfl⟩
      have HBS : Hid (bs s = treeT ms) := by show _ = _; rw [← hs]; exact bs_txt (RN.lt hm)
      have hsz : s.size ≤ 4000000 := by rw [← hs, txt_size]; exact hm.size
      have HSB : Hid (s.size = (bs s).length) := (bs_len s).symm
      have HT2 := hidd hs
      rw [hs]
      clear hs hm htr b2 HR HB1
      go_wp2
      go_loopw [7, 37] (fun s7 s37 wr => ∃ i : Nat, s37 = .int .i64 (i : Int) ∧ i ≤ s.size ∧ s7 = .int .i64 ((cnt (bs s) i : Nat) : Int) ∧ wr = w2) (fun _ s37 _ => s.size - (intOf s37).toNat)
      case atStart => exact ⟨0, rfl, Nat.zero_le _, rfl, rfl⟩
      case round =>
        obtain ⟨i, rfl, hi, rfl, rfl⟩ := hrel
        have hcl := cnt_le (bs s) i
        by_cases hlt : i < s.size
        · have hii : (i : Int) < (s.size : Int) := by omega
          have hc := cnt_succ (l := bs s) (i := i) (by rw [← HSB.out]; exact hlt)
          rw [at_bs s i hlt] at hc
          have HC := hidd hc
          obtain ⟨j, hj⟩ : ∃ j, cnt (bs s) i = j := ⟨_, rfl⟩
          rw [hj] at hcl HC ⊢
          clear hc hj
          by_cases h40 : s[i].toNat = 40
          · have h4 : ((s[i].toNat : Int) == 40) = true := by rw [h40]; rfl
            have HC2 : Hid (cnt (bs s) (i + 1) = j + 1) := by show _ = _; rw [HC.out, if_pos h40]
            clear h40 HC
            go_wp2
            exact ⟨⟨i + 1, rfl, by omega, by rw [HC2.out]; rfl, by first | trivial | rfl⟩, by simp [intOf]; omega⟩
          · have h4 : ((s[i].toNat : Int) == 40) = false := by simp; omega
            have HC2 : Hid (cnt (bs s) (i + 1) = j) := by show _ = _; rw [HC.out, if_neg h40]; rfl
            clear h40 HC
            go_wp2
            exact ⟨⟨i + 1, rfl, by omega, by rw [HC2.out], by first | trivial | rfl⟩, by simp [intOf]; omega⟩
        · have hie : i = s.size := by omega
          have hfull : cnt (bs s) i = (treeT ms).count 40 := by unfold cnt; rw [hie, HSB.out, List.take_length, HBS.out]
          have hlen : s.size = (treeT ms).length := by rw [HSB.out, HBS.out]
          have HLE := hidd hlen
          obtain ⟨j, hj⟩ : ∃ j, cnt (bs s) i = j := ⟨_, rfl⟩
          have HJ : Hid (j = (treeT ms).count 40) := by show _ = _; rw [← hj, hfull]
          rw [hj] at hcl ⊢
          have hif : ¬ ((i : Int) < (s.size : Int)) := by omega
          clear hj hfull hie hlen HSB HBS
          by_cases hbig : 1024 < s.size
          · have hb1 : decide ((1024 : Int) < (s.size : Int)) = true := decide_eq_true (by omega)
            have hb2 : (1024 : Int) < (s.size : Int) := by omega
            go_wp2
            go_ret
            exact ⟨rfl, D2.out⟩
          by_cases hop : 64 < j
          · have hb1 : decide ((1024 : Int) < (s.size : Int)) = false := decide_eq_false (by omega)
            have hb2 : ¬ (1024 : Int) < (s.size : Int) := by omega
            have hb3 : (64 : Int) < (j : Int) := by omega
            go_wp2
            go_ret
            exact ⟨rfl, D2.out⟩
          · have hb1 : decide ((1024 : Int) < (s.size : Int)) = false := decide_eq_false (by omega)
            have hb2 : ¬ (1024 : Int) < (s.size : Int) := by omega
            have hb3 : ¬ (64 : Int) < (j : Int) := by omega
            have hpa := parse_again HM.out (by rw [← HJ.out]; omega) (by rw [← HLE.out]; omega) wr (HE.out wr D2.out)
            rw [HT2.out] at hpa
            clear HLE HJ
            go_wp2_with fail
            refine hpa.mono ?_
            rintro e w3 ⟨A3, c3, gs3, rfl, hN3, hG3, b3⟩
            have D3 := D2.out.trans (b3.mono D2.out.size)
            have hsm := same_gn HM.out hG3 A A3 c c3 w3 ((HX.out.below D3).more D3.size) hN3
            rw [HLX.out] at hsm
            have HD3 := hidd D3
            clear hpa hN3 hG3 b3 D3
            go_wp2_with fail
            refine hsm.mono ?_
            rintro e w4 ⟨rfl, b4⟩
            have HD4 := hidd (HD3.out.trans (b4.mono HD3.out.size))
            clear hsm b4 HD3
            go_wp2
            go_ret
            exact ⟨rfl, HD4.out⟩
    · have D2 := HB1.out.trans (b2.mono HB1.out.size)
      have hrr := HR.out w2 D2
      have HD := hidd D2
      have HN := hidd hn
      clear hn htr b2 HR HB1 D2
      go_wp2_with fail
      refine hrr.mono ?_
      rintro e w3 ⟨y1, rfl, h1, b3⟩
      have HD3 := hidd (HD.out.trans (b3.mono HD.out.size))
      have hy : y1 = false := by cases y1; rfl; exact absurd (h1.1 rfl) HN.out
      subst hy
      clear hrr h1 b3 HD
      go_wp2
      go_ret
      exact ⟨rfl, HD3.out⟩
theorem back_any (A : Option Addr) (c : Nat) (gs : List Gd) (w : World) (hE : EV w) (hT : TV w) (hx : Nds w w.heap.size A gs) (hl : gs.length ≤ c) (hc : c ≤ maxLen) (hnm : ∀ g ∈ gs, g.nm.size ≤ maxLen ∧ g.l.length ≤ maxLen) :
    Calls Tryz.prog 3 #[.slice A gs.length c] w fun e w' => e = .returned (.bool true) ∧ Below w.heap.size w w' :=
  back_core A c (min gs.length 300) gs (gs.take 300) w hE hT (nds_take2 hx 300) (by rw [List.length_take]; omega) rfl hl hc (fun g hg => hnm g (List.mem_of_mem_take hg))
end Go.Proofs.YtghjkbjpdjlddaaGreatDoor.Sy.Pn

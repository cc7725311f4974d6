/- The reference's Right of Defs; its find. -/
import Derived.Test.YtgppanbikfobbaaAd
import Derived.Test.YtgppanbikfobbaaSf
namespace Go.Proofs.Ytgppanbikfobbaa.Sy
open Go.RowKit
set_option maxRecDepth 100000
set_option linter.unusedVariables false

theorem toList_inj' {a b : ByteArray} (h : a.toList = b.toList) : a = b := by
  rw [ByteArray.toList_eq, ByteArray.toList_eq] at h
  cases a; cases b
  congr
  exact Array.toList_inj.1 h
theorem str_same {a b : ByteArray} (h : a = b) : (a.toList == b.toList) = true := by subst h; simp
theorem str_not {a b : ByteArray} (h : a ≠ b) : (a.toList == b.toList) = false := beq_eq_false_iff_ne.2 fun e => h (toList_inj' e)

set_option maxHeartbeats 2000000 in
theorem refDRight_any (A : Option Addr) (c : Nat) (ds : List DG) (w : World) (hx : Dfs w w.heap.size A ds) (hok : DOk ds) :
    Calls Try.prog 17 #[.slice A ds.length c] w fun e w' => DRgt ds w e w' := by
  have hlen := hok.len
  have HOK := hidd hok
  clear hok
  generalize hn : ds.length = n at *
  have HN0 := hidd hn
  clear hn
  have HR0 : Hid (RightDs (ds.take 0)) := ⟨fun d hd => absurd hd List.not_mem_nil, List.Pairwise.nil⟩
  go_enter Try.func17, Try.ntmps17
  go_wp2
  go_loopw [3] (fun i wr => ∃ k, k ≤ n ∧ i = .int .i64 (k : Nat) ∧ RightDs (ds.take k) ∧ Below w.heap.size w wr) (fun i _ => n - (intOf i).toNat)
  case atStart => exact ⟨0, Nat.zero_le _, rfl, HR0.out, Below.refl _ _⟩
  case round =>
    clear HR0
    obtain ⟨k, hk0, rfl, hrt, D⟩ := hrel
    have HRT := hidd hrt
    clear hrt
    by_cases hlt : k < n
    · have hlt2 : k < ds.length := by rw [HN0.out]; exact hlt
      obtain ⟨b1, o1, rfl, hb1, A3, c3, N1, r1, -⟩ := (hx.below D).at_ hlt2
      have hd := getD_mem hlt2
      have hnm1 := HOK.out.nm _ hd
      have hN1 := HOK.out.few _ hd
      have HNN := hidd (HOK.out.nds _ hd)
      have HNA : Hid (nameB (bs (ds.getD k dg0).1) = false → ¬ RightDs ds) := not_right_name hlt2
      have HNT : Hid (¬ RightG (ds.getD k dg0).2 → ¬ RightDs ds) := not_right_tree hlt2
      have HNW : Hid (∀ x ∈ ds.take k, x.1 = (ds.getD k dg0).1 → ¬ RightDs ds) := fun x h1 h2 => not_right_twice hlt2 h1 h2
      have HTK := hidd (take_snoc hlt2)
      have HX := hidd hx
      clear hd hlt2 hx
      generalize hgd : ds.getD k dg0 = d at *
      have HGD := hidd hgd
      clear hgd
      have hki : (k : Int) < (n : Int) := by omega
      have hbs := D.size
      have a0 : wr.cell? ⟨b1, o1 + k * 2, none⟩ = some (.string d.1) := r1 0 _ rfl
      have a1 : wr.cell? ⟨b1, o1 + k * 2 + 1, none⟩ = some (.slice A3 d.2.length c3) := r1 1 _ rfl
      cases hnb : nameB (bs d.1) with
      | false =>
        have HN : Hid (¬ RightDs ds) := HNA.out hnb
        have hcall : ∀ u : World, Calls Try.prog 29 #[.string d.1] u fun e w' => e = .returned (.bool false) ∧ w' = u := fun u => by
          have := rname_any d.1 u hnm1
          rw [hnb] at this
          exact this
        clear hnb N1 r1
        go_wp2_with fail
        refine (hcall _).mono ?_
        rintro e w2 ⟨rfl, rfl⟩
        go_wp2
        go_ret
        exact ⟨false, rfl, ⟨fun q => (by cases q), fun q => absurd q HN.out⟩, D⟩
      | true =>
        have hcall : ∀ u : World, Calls Try.prog 29 #[.string d.1] u fun e w' => e = .returned (.bool true) ∧ w' = u := fun u => by
          have := rname_any d.1 u hnm1
          rw [hnb] at this
          exact this
        have HNB := hidd hnb
        have hcall2 := refRight_any A3 c3 d.2 wr (N1.more D.size) hN1 HNN.out
        clear hnb N1 r1
        go_wp2_with fail
        refine (hcall _).mono ?_
        rintro e w2 ⟨rfl, rfl⟩
        go_wp2_with fail
        refine hcall2.mono ?_
        rintro e w3 ⟨b, rfl, hbi, hb3⟩
        have D3 := D.trans (hb3.mono D.size)
        clear hcall hcall2 a0 a1
        cases b with
        | false =>
          have HN : Hid (¬ RightDs ds) := HNT.out (fun h => by have := hbi.2 h; cases this)
          clear hbi hb3
          go_wp2
          go_ret
          exact ⟨false, rfl, ⟨fun q => (by cases q), fun q => absurd q HN.out⟩, D3⟩
        | true =>
          have HRG := hidd (hbi.1 rfl)
          clear hbi hb3 D
          have r3 := HX.out.below D3
          obtain ⟨b2, o2, e2, hb2, hat⟩ := r3 (fun e => by have := HN0.out; rw [e] at this; simp at this; omega)
          cases e2
          have HAT := hidd hat
          clear hat r3
          go_wp2
          go_loopw [4] (fun i wi => (∃ mm, wi = w3.drewN mm) ∧ ∃ j : Nat, j ≤ k ∧ i = .int .i64 (j : Int) ∧ ∀ x ∈ ds.take j, x.1 ≠ d.1) (fun i _ => k - (intOf i).toNat)
          case atStart => exact ⟨⟨0, rfl⟩, 0, Nat.zero_le _, rfl, fun x hx => absurd hx List.not_mem_nil⟩
          case round =>
            obtain ⟨⟨mm, rfl⟩, j, hj0, rfl, hne⟩ := hrel
            have HNE := hidd hne
            clear hne
            by_cases hj : j < k
            · have hj2 : j < ds.length := by rw [HN0.out]; omega
              obtain ⟨A5, c5, -, r5, -⟩ := HAT.out j hj2
              obtain ⟨A6, c6, -, r6, -⟩ := HAT.out k (by rw [HN0.out]; exact hlt)
              rw [HGD.out] at r6
              have HTJ := hidd (take_snoc hj2)
              have HMJ : Hid (ds.getD j dg0 ∈ ds.take k) := by
                show _ ∈ _
                rw [List.getD_eq_getElem?_getD, List.getElem?_eq_getElem hj2]
                exact List.mem_take_iff_getElem.2 ⟨j, by rw [HN0.out]; omega, rfl⟩
              have a0 : w3.cell? ⟨b1, o1 + j * 2, none⟩ = some (.string (ds.getD j dg0).1) := r5 0 _ rfl
              have a1 : w3.cell? ⟨b1, o1 + k * 2, none⟩ = some (.string d.1) := r6 0 _ rfl
              clear r5 r6 hj2
              generalize ds.getD j dg0 = x at *
              have hji : (j : Int) < (k : Int) := by omega
              have hjn : (j : Int) < (n : Int) := by omega
              by_cases he : x.1 = d.1
              · have hs := str_same he
                have HN : Hid (¬ RightDs ds) := HNW.out x HMJ.out he
                clear he
                go_wp2
                go_quiet (fail)
                go_wp2
                go_ret
                exact ⟨false, rfl, ⟨fun q => (by cases q), fun q => absurd q HN.out⟩, bel_drewN (bel_drewN D3 mm) _⟩
              · have hs := str_not he
                have HE := hidd he
                clear he
                go_wp2
                go_quiet (fail)
                go_wp2
                refine ⟨⟨⟨_, rfl⟩, j + 1, by omega, rfl, fun y hy => ?_⟩, by simp [intOf]; omega⟩
                rw [HTJ.out] at hy
                rcases List.mem_append.1 hy with r | r
                · exact HNE.out y r
                · obtain rfl := List.mem_singleton.1 r
                  exact HE.out
            · have hje : j = k := by omega
              subst hje
              go_wp2
              refine ⟨⟨j + 1, by omega, rfl, ?_, bel_drewN D3 mm⟩, by simp [intOf]; omega⟩
              rw [HTK.out]
              exact HRT.out.snoc HNB.out HRG.out HNE.out
    · have hke : k = n := by omega
      subst hke
      have HD : Hid (RightDs ds) := by
        have h1 := HRT.out
        rw [← HN0.out, List.take_length] at h1
        exact h1
      clear hx
      go_wp2
      go_ret
      exact ⟨true, rfl, ⟨fun _ => HD.out, fun _ => rfl⟩, D⟩
end Go.Proofs.Ytgppanbikfobbaa.Sy

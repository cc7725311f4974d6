/- The reference's Right. -/
import Derived.Test.YtaagkfiaccmepaaPSe
namespace Go.Proofs.Ytaagkfiaccmepaa.Sy
open Go.RowKit
set_option maxRecDepth 100000
set_option linter.unusedVariables false

theorem kidsOf_to {gs : List Gd} : ∀ i m, (gs.map toN)[i]? = some m → m.l = (kidsOf gs i).map Int.toNat := fun i m h => by
  rcases Nat.lt_or_ge i gs.length with hi | hi
  · rw [toN_at hi] at h
    cases h
    rfl
  · rw [List.getElem?_eq_none (by simpa using hi)] at h
    cases h
theorem ref_iff (gs : List Gd) (h1 : 1 ≤ gs.length) (h2 : gs.length ≤ 1024) : ((∀ j, j < gs.length → shapeG (gs.getD j gd0) = true) ∧ walkF (kidsOf gs) gs.length gs.length (gs.length - 1) [] = some (List.range gs.length)) ↔ RightG gs := by
  constructor
  · rintro ⟨hs, hw⟩
    obtain ⟨hk, f⟩ := (walk_iff (ns := gs.map toN) kidsOf_to (by simp) h1).1 hw
    have hgn : GN gs (gs.map toN) := by
      refine ⟨by simp, fun i hi => ?_⟩
      have : (gs.map toN).getD i nd0 = toN (gs.getD i gd0) := by rw [List.getD_eq_getElem?_getD, toN_at hi]; rfl
      rw [this]
      exact gn1_to (shape_op (hs i hi)) (hk i hi)
    refine ⟨gs.map toN, hgn, fun n hn => ?_, by simpa using h1, by simpa using h2, by simpa using f⟩
    obtain ⟨i, hi, rfl⟩ := List.getElem_of_mem hn
    rw [List.length_map] at hi
    have g1 := hgn.2 i hi
    have e : (gs.map toN).getD i nd0 = (gs.map toN)[i] := by rw [List.getD_eq_getElem?_getD, List.getElem?_eq_getElem (by simpa using hi)]; rfl
    rw [e] at g1
    rw [← shape_same g1]
    exact hs i hi
  · rintro ⟨ns, hgn, hsh, h3, h4, f⟩
    have hlen : gs.length = ns.length := hgn.1
    have hat : ∀ i m, ns[i]? = some m → GN1 (gs.getD i gd0) m := fun i m h => by
      have hi : i < ns.length := by
        rcases Nat.lt_or_ge i ns.length with q | q
        · exact q
        · rw [List.getElem?_eq_none q] at h; cases h
      have g1 := hgn.2 i (by omega)
      rw [List.getD_eq_getElem?_getD (l := ns), h] at g1
      exact g1
    refine ⟨fun j hj => ?_, (walk_iff (ns := ns) (fun i m h => ?_) hlen.symm h1).2 ⟨fun i hi k hk => ?_, by rw [hlen]; exact f⟩⟩
    · have hj' : j < ns.length := by omega
      have := hat j _ (List.getElem?_eq_getElem hj')
      rw [shape_same this]
      exact hsh _ (List.getElem_mem hj')
    · unfold kidsOf
      rw [(hat i m h).l, map_id_back]
    · have hi' : i < ns.length := by omega
      unfold kidsOf at hk
      rw [(hat i _ (List.getElem?_eq_getElem hi')).l] at hk
      obtain ⟨x, _, rfl⟩ := List.mem_map.1 hk
      exact Int.natCast_nonneg _
theorem range_iff {out : List Nat} {n : Nat} (hl : out.length = n) (h : ∀ j, j < n → out.getD j 0 = j) : out = List.range n := by
  apply List.ext_getElem (by simp [hl])
  intro i h1 h2
  have := h i (by omega)
  rw [List.getD_eq_getElem?_getD, List.getElem?_eq_getElem h1] at this
  simpa using this
theorem range_no {out : List Nat} {n j : Nat} (hj : j < n) (h : out.getD j 0 ≠ j) : out ≠ List.range n := fun e => h (by
  rw [e, List.getD_eq_getElem?_getD, List.getElem?_eq_getElem (by simpa using hj)]
  simp)

set_option maxHeartbeats 1000000 in
theorem refRight_any (A : Option Addr) (c : Nat) (gs : List Gd) (w : World) (hx : Nds w w.heap.size A gs) (hlg : gs.length ≤ 2000) (hnm : ∀ g ∈ gs, g.nm.size ≤ maxLen ∧ g.l.length ≤ maxLen) :
    Calls Try.prog 18 #[.slice A gs.length c] w fun e w' => RgtR gs w e w' := by
  by_cases hlo : gs.length < 1
  · have HN : Hid (¬ RightG gs) := fun h => by have := (right_len h).1; omega
    have hloi : (gs.length : Int) < 1 := by omega
    generalize gs.length = n at *
    go_enter Try.func18, Try.ntmps18
    go_wp2
    go_ret
    exact RgtR.no rfl HN.out (Below.refl _ _)
  · have hloi : ¬ (gs.length : Int) < 1 := by omega
    by_cases hhi : 1024 < gs.length
    · have HN : Hid (¬ RightG gs) := fun h => by have := (right_len h).2; omega
      have hhii : decide ((1024 : Int) < (gs.length : Int)) = true := decide_eq_true (by omega)
      generalize gs.length = n at *
      go_enter Try.func18, Try.ntmps18
      go_wp2
      go_ret
      exact RgtR.no rfl HN.out (Below.refl _ _)
    · have hhii : decide ((1024 : Int) < (gs.length : Int)) = false := decide_eq_false (by omega)
      have HRI := hidd (ref_iff gs (by omega) (by omega))
      have HWK := hidd (fun (w1 : World) (b : Below w.heap.size w w1) => walk_any (c := c) (n := gs.length) (base := w.heap.size) rfl (by omega) (fun g hg => (hnm g hg).2) gs.length (gs.length - 1) (by omega) (by omega) [] (.slice none 0 0) w1 (hx.below b) (Nat.zero_le _) b.size ⟨rfl, .inl ⟨rfl, rfl⟩⟩)
      obtain ⟨n, hn⟩ : ∃ n, gs.length = n := ⟨_, rfl⟩
      rw [hn] at hloi hhii hlg HRI HWK
      rw [hn]
      have HLN := hidd hn
      have HNM := hidd hnm
      have HX := hidd hx
      have hn1 : 1 ≤ n := by omega
      have hn2 : n ≤ 1024 := by omega
      clear hn hlo hhi hlg hnm hx
      go_enter Try.func18, Try.ntmps18
      go_wp2
      go_loopw [3] (fun s3 wr => ∃ (k : Nat), s3 = .int .i64 (k : Int) ∧ k ≤ n ∧ (∀ j, j < k → shapeG (gs.getD j gd0) = true) ∧ Below w.heap.size w wr) (fun s3 _ => n - (intOf s3).toNat)
      case atStart => exact ⟨0, rfl, Nat.zero_le _, fun _ h => absurd h (Nat.not_lt_zero _), Below.refl _ _⟩
      case round =>
        obtain ⟨k, rfl, hk0, hall, D⟩ := hrel
        have HALL := hidd hall
        clear hall
        by_cases hlt : k < n
        · have hki : (k : Int) < (n : Int) := by omega
          obtain ⟨b1, o1, rfl, hb1, A3, c3, i1, r1⟩ := (HX.out.below D).at_ (k := k) (by rw [HLN.out]; exact hlt)
          obtain ⟨hnm1, hnm2⟩ := HNM.out (gs.getD k gd0) (by rw [List.getD_eq_getElem?_getD, List.getElem?_eq_getElem (by rw [HLN.out]; exact hlt)]; exact List.getElem_mem _)
          obtain ⟨g, hgk⟩ : ∃ g, gs.getD k gd0 = g := ⟨_, rfl⟩
          rw [hgk] at i1 r1 hnm1 hnm2
          have HGK := hidd hgk
          have hsh := shape_any g A3 c3 wr hnm1 hnm2
          clear hgk i1 hnm1 hnm2
          go_wp2_with (refine wpList_load_mid rfl 39 (.tmp 23) rfl b1 (o1 + k * 9) rfl (gdL g A3 c3) _ r1 Try.underlying39 rfl (gdL_info g A3 c3) ?_)
          go_wp2_with fail
          refine hsh.mono ?_
          rintro e w2 ⟨rfl, b2⟩
          have D2 := D.trans (b2.mono D.size)
          clear hsh b2 r1 D
          cases hsg : shapeG g with
          | false =>
            have HN : Hid (¬ RightG gs) := fun h => by
              have := (HRI.out.2 h).1 k hlt
              rw [HGK.out, hsg] at this
              cases this
            clear HRI HWK HX
            go_wp2
            go_ret
            exact RgtR.no rfl HN.out D2
          | true =>
            have HAL2 : Hid (∀ j, j < k + 1 → shapeG (gs.getD j gd0) = true) := fun j hj => by
              rcases Nat.lt_or_ge j k with q | q
              · exact HALL.out j q
              · rw [show j = k from by omega, HGK.out]; exact hsg
            have HD2 := hidd D2
            clear HRI HWK HX D2 hsg
            go_wp2
            exact ⟨⟨k + 1, rfl, hlt, HAL2.out, HD2.out⟩, by simp [intOf]; omega⟩
        · have hke : k = n := by omega
          subst hke
          have hW := HWK.out wr D
          have e1 : ((k - 1 : Nat) : Int) = (k : Int) - 1 := by omega
          rw [e1] at hW
          clear e1 HWK HX
          go_wp2_with fail
          refine hW.mono ?_
          rintro e w2 hw
          clear hW
          rcases hw with ⟨v2, out, rfl, hf2, hl2, ho2, hb2⟩ | ⟨v2, rfl, hf2, hb2⟩
          · have D2 := D.trans hb2
            have HF2 := hidd hf2
            obtain ⟨A9, c9, rfl⟩ := own_form ho2
            obtain ⟨m, hm⟩ : ∃ m, out.length = m := ⟨_, rfl⟩
            rw [hm] at ho2
            rw [hm]
            have HM := hidd hm
            have HD2 := hidd D2
            clear hf2 hl2 hb2 D D2 hm
            by_cases hmn : m = k
            · subst hmn
              obtain ⟨g9, c9', e9, _, _⟩ := own_pos ho2 (by omega)
              cases e9
              have HC := hidd (i64s_kid out g9 (own_base ho2 (Nat.zero_le _)) HM.out.symm)
              clear ho2
              go_wp2
              go_loopw [6] (fun s6 wr => ∃ i : Nat, s6 = .int .i64 (i : Int) ∧ i ≤ m ∧ (∀ j, j < i → out.getD j 0 = j) ∧ ∃ q, wr = w2.drewN q) (fun s6 _ => m - (intOf s6).toNat)
              case atStart => exact ⟨0, rfl, Nat.zero_le _, fun _ h => absurd h (Nat.not_lt_zero _), 0, rfl⟩
              case round =>
                obtain ⟨i, rfl, hi0, hall2, q, rfl⟩ := hrel
                have HALL2 := hidd hall2
                clear hall2
                by_cases hit : i < m
                · have hii : (i : Int) < (m : Int) := by omega
                  have hc : (w2.drewN q).cell? ⟨g9, i, none⟩ = some (.int .i64 ((out.getD i 0 : Nat) : Int)) := by
                    have := HC.out i (by have := HM.out; simp; omega)
                    rw [Nat.zero_add] at this
                    refine this.trans ?_
                    congr 2
                    simp only [List.getD_eq_getElem?_getD, List.getElem?_map]
                    cases out[i]? <;> rfl
                  obtain ⟨x, hx⟩ : ∃ x, out.getD i 0 = x := ⟨_, rfl⟩
                  rw [hx] at hc
                  have HXX := hidd hx
                  clear hx
                  by_cases hxi : x = i
                  · subst hxi
                    have HAL3 : Hid (∀ j, j < x + 1 → out.getD j 0 = j) := fun j hj => by
                      rcases Nat.lt_or_ge j x with q | q
                      · exact HALL2.out j q
                      · rw [show j = x from by omega]; exact HXX.out
                    go_wp2
                    exact ⟨⟨x + 1, rfl, hit, HAL3.out, q, rfl⟩, by simp [intOf]; omega⟩
                  · have hne : ¬ (x : Int) = (i : Int) := by omega
                    have HN : Hid (¬ RightG gs) := fun h => by
                      have := (HRI.out.2 h).2
                      rw [HF2.out] at this
                      exact range_no hit (by rw [HXX.out]; exact hxi) (Option.some.inj this)
                    clear HRI
                    go_wp2
                    go_ret
                    exact RgtR.no rfl HN.out (bel_drewN HD2.out _)
                · have hie : i = m := by omega
                  subst hie
                  have HY : Hid (RightG gs) := HRI.out.1 ⟨HALL.out, by rw [HF2.out, range_iff HM.out HALL2.out]⟩
                  clear HRI
                  go_wp2
                  go_ret
                  exact ⟨true, rfl, ⟨fun _ => HY.out, fun _ => rfl⟩, bel_drewN HD2.out _⟩
            · have hmi : ¬ (m : Int) = (k : Int) := by omega
              have HN : Hid (¬ RightG gs) := fun h => by
                have := (HRI.out.2 h).2
                rw [HF2.out] at this
                have h2 := congrArg List.length (Option.some.inj this)
                rw [HM.out, List.length_range] at h2
                exact hmn h2
              clear HRI ho2
              go_wp2
              go_ret
              exact RgtR.no rfl HN.out HD2.out
          · have HN : Hid (¬ RightG gs) := fun h => by
              have := (HRI.out.2 h).2
              rw [hf2] at this
              cases this
            have D2 := D.trans hb2
            clear HRI hf2 hb2
            go_wp2
            go_ret
            exact RgtR.no rfl HN.out D2
end Go.Proofs.Ytaagkfiaccmepaa.Sy

/- The law SyntaxName, by what Parse and Name owe. -/
import Derived.Test.YtoflibajalbdfaaDoorNf
namespace Go.Proofs.YtoflibajalbdfaaDoor.Sy
open Go.RowKit

/-- What Name owes. -/
def NameC : Prop := ∀ (s : ByteArray) (w : World), s.size ≤ 100000 → Calls Tryd.prog 17 #[.string s] w fun e w' => e = .returned (.bool (nameB (bs s))) ∧ Below w.heap.size w w'

/-- The law's name: bytes without braces, that begin with no digit. -/
def keepN (b : List Nat) (c : Nat) : Bool := !(c == 125) && (!b.isEmpty || decide (c < 48) || decide (57 < c))
def accN (s : List Nat) : Nat → List Nat
  | 0 => []
  | k + 1 => if keepN (accN s k) (at_ s k) then accN s k ++ [at_ s k] else accN s k
theorem accN_len (s : List Nat) : ∀ k, (accN s k).length ≤ k
  | 0 => Nat.le_refl _
  | k + 1 => by
    unfold accN
    have := accN_len s k
    split
    · simp; omega
    · omega
theorem accN_fit (s : List Nat) : ∀ k, (∀ c ∈ accN s k, c ≠ 125) ∧ (∀ c r, accN s k = c :: r → digitB c = false)
  | 0 => ⟨fun _ hc => (by cases hc), fun _ _ h => (by cases h)⟩
  | k + 1 => by
    obtain ⟨h1, h2⟩ := accN_fit s k
    unfold accN
    by_cases hk : keepN (accN s k) (at_ s k) = true
    · rw [if_pos hk]
      unfold keepN at hk
      simp only [Bool.and_eq_true, Bool.not_eq_true', beq_eq_false_iff_ne, Bool.or_eq_true, decide_eq_true_eq] at hk
      refine ⟨fun c hc => ?_, fun c r h => ?_⟩
      · rcases List.mem_append.1 hc with hc | hc
        · exact h1 c hc
        · rw [List.mem_singleton] at hc
          subst hc
          exact hk.1
      · cases hb : accN s k with
        | nil =>
          rw [hb] at h hk
          simp at h
          rw [← h.1]
          unfold digitB
          simp at hk ⊢
          omega
        | cons d r' =>
          rw [hb] at h
          simp at h
          rw [← h.1]
          exact h2 d r' hb
    · rw [if_neg hk]
      exact ⟨h1, h2⟩
def toI (l : List Nat) : List Int := l.map fun c : Nat => (c : Int)
theorem toI_len (l : List Nat) : (toI l).length = l.length := by simp [toI]
theorem toI_nat (l : List Nat) : (toI l).map Int.toNat = l := by simp [toI, List.map_map, Function.comp_def]
theorem accN_byte (b : ByteArray) (k : Nat) : ∀ x ∈ toI (accN (bs b) k), 0 ≤ x ∧ x ≤ 255 := by
  have h : ∀ k, ∀ c ∈ accN (bs b) k, c < 256 := by
    intro k
    induction k with
    | zero => intro c hc; cases hc
    | succ k ih =>
      intro c hc
      unfold accN at hc
      split at hc
      · rcases List.mem_append.1 hc with hc | hc
        · exact ih c hc
        · rw [List.mem_singleton] at hc
          subst hc
          exact at_lt (bs_lt b) k
      · exact ih c hc
  intro x hx
  obtain ⟨c, hc, rfl⟩ := List.mem_map.1 hx
  have := h k c hc
  omega
def refG (b : ByteArray) : Gd := ⟨6, noB, [], 0, 0, b⟩
theorem gn_ref (b : ByteArray) : GN1 (refG b) (ndRef (bs b)) := ⟨rfl, fun _ _ => rfl, rfl, rfl, rfl, rfl⟩
theorem ref_row (b : ByteArray) : (nodesC [(refG b, none, 0)]).toArray = #[.int .u8 6, .int .u64 0, .int .u64 0, .int .u64 0, .int .u64 0, .slice none 0 0, .int .i64 0, .int .i64 0, .string b] := by
  simp only [nodesC, gdL, refG, List.flatMap_cons, List.flatMap_nil, List.append_nil, W_zero, List.length_nil]

theorem own_snoc {w : World} {b : Nat} {v : Value} {l : List Nat} {c n : Nat} (h : w.ownsRow b 5 1 v (n + 1) (u8s (toI l) ++ [.int .u8 ((c : Nat) : Int)])) (hn : n = l.length := by rfl) : w.ownsRow b 5 1 v (toI (l ++ [c])).length (u8s (toI (l ++ [c]))) := by
  subst hn
  have e1 : (toI (l ++ [c])).length = l.length + 1 := by simp [toI]
  have e2 : u8s (toI (l ++ [c])) = u8s (toI l) ++ [.int .u8 ((c : Nat) : Int)] := by simp [toI, u8s]
  rw [e1, e2]
  exact h

set_option maxRecDepth 100000 in
set_option maxHeartbeats 2000000 in
theorem sname_any (hP : ParseC) (hN : NameC) (s : ByteArray) (w : World) (hE : EV w) (hs : s.size ≤ maxLen) :
    Calls Tryd.prog 8 #[.string s] w fun e w' => e = .returned (.bool true) ∧ Below w.heap.size w w' := by
  obtain ⟨i0, hi0, hz0, hz1, hz2⟩ := info_parts byte_info
  unfold maxLen at hs
  have hn50 : min s.size 50 ≤ 50 := by omega
  have hns : min s.size 50 ≤ s.size := by omega
  have HM1 : Hid (50 < s.size → min s.size 50 = 50) := fun h => by omega
  have HM2 : Hid (¬ 50 < s.size → min s.size 50 = s.size) := fun h => by omega
  generalize min s.size 50 = N at *
  go_enter Tryd.func8, Tryd.ntmps8
  go_wp2_with fail
  refine (shown_any hP _ hE).mono ?_
  rintro e w1 ⟨rfl, b1⟩
  go_upto_region 3 with fail
  go_cut [12, 13] (fun s12 s13 wx => s12 = .int .i64 (N : Int) ∧ s13 = .int .i64 0 ∧ w1 = wx)
  case first =>
    by_cases h : 50 < s.size
    · go_wp2
      go_meet
      exact ⟨by rw [HM1.out h]; rfl, rfl, rfl⟩
    · go_wp2
      go_meet
      exact ⟨by rw [HM2.out h], rfl, rfl⟩
  case rest =>
    obtain ⟨rfl, rfl, rfl⟩ := hcut
    clear HM1 HM2
    go_wp2
    go_loopw [4, 13] (fun l i wr => ∃ k : Nat, k ≤ N ∧ i = .int .i64 k ∧ wr.ownsRow w1.heap.size 5 1 l (toI (accN (bs s) k)).length (u8s (toI (accN (bs s) k))) ∧ Below w1.heap.size w1 wr) (fun _ i _ => N - (intOf i).toNat)
    case atStart => exact ⟨0, Nat.zero_le _, rfl, World.ownsRow_nil _ _ _ _, Below.refl _ _⟩
    case round =>
      obtain ⟨k, hk0, rfl, hown, D⟩ := hrel
      have hal := accN_len (bs s) k
      have hil := toI_len (accN (bs s) k)
      have hbs := D.size
      by_cases hlt : k < N
      · have hks : k < s.size := by omega
        have hki : (k : Int) < (s.size : Int) := by omega
        have hak := at_bs s k hks
        have hacc : accN (bs s) (k + 1) = if keepN (accN (bs s) k) (at_ (bs s) k) then accN (bs s) k ++ [at_ (bs s) k] else accN (bs s) k := rfl
        rw [hak] at hacc
        have hc255 : s[k].toNat < 256 := s[k].toNat_lt
        obtain ⟨A4, c4, hu⟩ := own_form hown
        subst hu
        by_cases hc : s[k].toNat = 125
        · have HY : Hid (accN (bs s) (k + 1) = accN (bs s) k) := by show _ = _; rw [hacc, if_neg (by simp [keepN, hc])]
          have hci : (((s[k].toNat : Nat) : Int) != 125) = false := by simp; omega
          clear hacc hak hil
          go_wp2
          refine ⟨⟨k + 1, by omega, rfl, ?_, D⟩, by simp [intOf]; omega⟩
          rw [HY.out]; exact hown
        · have hci : (((s[k].toNat : Nat) : Int) != 125) = true := by simp; omega
          by_cases hb : accN (bs s) k = []
          · have hz : (toI (accN (bs s) k)).length = 0 := by rw [hb]; rfl
            have hown0 : wr.ownsRow w1.heap.size 5 1 (.slice A4 0 c4) 0 (u8s (toI [])) := by rw [hz, hb] at hown; exact hown
            rw [hz]
            rw [hb] at hacc
            by_cases h48 : s[k].toNat < 48
            · have HY : Hid (accN (bs s) (k + 1) = [] ++ [s[k].toNat]) := by show _ = _; rw [hacc, if_pos (by simp [keepN, hc, h48])]
              have h48i : ((s[k].toNat : Nat) : Int) < 48 := by omega
              clear hacc hak hil hz hb hal hown
              go_wp2_with (at_builtin; refine wpList_append_own _ rfl (.tmp 37) (.tmp 41) 40 rfl w1.heap.size 5 i0 (.int .u8 0) 1 1 Tryd.underlying40 hi0 hz0 hz1 hz2 rfl (by omega) _ _ _ rfl (hown0.alloc _) ⟨wr.heap.size, 0, none⟩ 1 1 [.int .u8 ((s[k].toNat : Nat) : Int)] rfl rfl (cell_one_new _ _ _) (by simp [Value.oneCell']) (by simp only [maxLen]; omega) (by omega) (by simp; omega) ?_; intro v2 w2 hown2 hg2 _)
              have hlt2 := (hown0).lt
              refine ⟨⟨k + 1, by omega, rfl, ?_, (D.alloc (by omega) _).grown hg2 (by simp; omega) (fun j e => ?_)⟩, by simp [intOf]; omega⟩
              · rw [HY.out]
                exact own_snoc hown2
              · have := (hlt2 _ e).1; omega
            · by_cases h57 : 57 < s[k].toNat
              · have HY : Hid (accN (bs s) (k + 1) = [] ++ [s[k].toNat]) := by show _ = _; rw [hacc, if_pos (by simp [keepN, hc, h57])]
                have h48i : ¬ ((s[k].toNat : Nat) : Int) < 48 := by omega
                have h57i : (57 : Int) < ((s[k].toNat : Nat) : Int) := by omega
                clear hacc hak hil hz hb hal hown
                go_wp2_with (at_builtin; refine wpList_append_own _ rfl (.tmp 37) (.tmp 41) 40 rfl w1.heap.size 5 i0 (.int .u8 0) 1 1 Tryd.underlying40 hi0 hz0 hz1 hz2 rfl (by omega) _ _ _ rfl (hown0.alloc _) ⟨wr.heap.size, 0, none⟩ 1 1 [.int .u8 ((s[k].toNat : Nat) : Int)] rfl rfl (cell_one_new _ _ _) (by simp [Value.oneCell']) (by simp only [maxLen]; omega) (by omega) (by simp; omega) ?_; intro v2 w2 hown2 hg2 _)
                have hlt2 := (hown0).lt
                refine ⟨⟨k + 1, by omega, rfl, ?_, (D.alloc (by omega) _).grown hg2 (by simp; omega) (fun j e => ?_)⟩, by simp [intOf]; omega⟩
                · rw [HY.out]
                  exact own_snoc hown2
                · have := (hlt2 _ e).1; omega
              · have HY : Hid (accN (bs s) (k + 1) = []) := by show _ = _; rw [hacc, if_neg (by simp [keepN, h48, h57])]
                have h48i : ¬ ((s[k].toNat : Nat) : Int) < 48 := by omega
                have h57i : ¬ (57 : Int) < ((s[k].toNat : Nat) : Int) := by omega
                clear hacc hak hil hz hb hal hown
                go_wp2
                refine ⟨⟨k + 1, by omega, rfl, ?_, D⟩, by simp [intOf]; omega⟩
                rw [HY.out]; exact hown0
          · have HY : Hid (accN (bs s) (k + 1) = accN (bs s) k ++ [s[k].toNat]) := by
              show _ = _
              rw [hacc, if_pos]
              have : (accN (bs s) k).isEmpty = false := by simpa using hb
              simp [keepN, hc, this]
            have hp : 0 < (accN (bs s) k).length := by cases h : accN (bs s) k; exact absurd h hb; simp
            rw [hil]
            rw [hil] at hown
            generalize accN (bs s) k = l at *
            obtain ⟨L, hL⟩ : ∃ L, l.length = L := ⟨_, rfl⟩
            have HL := hidd hL
            rw [hL] at hown hp hal ⊢
            have hpi : (0 : Int) < (L : Int) := by omega
            clear hacc hak hb hL hil
            go_wp2_with (at_builtin; refine wpList_append_own _ rfl (.tmp 37) (.tmp 41) 40 rfl w1.heap.size 5 i0 (.int .u8 0) 1 1 Tryd.underlying40 hi0 hz0 hz1 hz2 rfl (by omega) _ _ _ rfl (hown.alloc _) ⟨wr.heap.size, 0, none⟩ 1 1 [.int .u8 ((s[k].toNat : Nat) : Int)] rfl rfl (cell_one_new _ _ _) (by simp [Value.oneCell']) (by simp only [maxLen]; omega) (by omega) (by simp; omega) ?_; intro v2 w2 hown2 hg2 _)
            have hlt2 := hown.lt
            refine ⟨⟨k + 1, by omega, rfl, ?_, (D.alloc (by omega) _).grown hg2 (by simp; omega) (fun j e => ?_)⟩, by simp [intOf]; omega⟩
            · rw [HY.out]
              exact own_snoc hown2 HL.out.symm
            · have := (hlt2 _ e).1; omega
      · have hk : k = N := by omega
        subst hk
        obtain ⟨hf1, hf2⟩ := accN_fit (bs s) k
        obtain ⟨A4, c4, hu, hB⟩ := Bts.of_own hown (accN_byte s k)
        subst hu
        have hbn := bs_nums _ (accN_byte s k)
        rw [toI_nat] at hbn
        have hpn := parse_name (accN (bs s) k) (by omega) hf1 hf2
        have hcv : ∀ v, Bts v v.heap.size A4 (toI (accN (bs s) k)) → (convert 40 9 (.slice A4 (toI (accN (bs s) k)).length c4)).run Tryd.prog v = .ok (.string (strOfNums (toI (accN (bs s) k)))) v := fun v hv => str_bytes A4 c4 _ v hv
        have hsz : (strOfNums (toI (accN (bs s) k))).size ≤ 50 := by rw [strOfNums_size, hil]; omega
        have D1 := b1.trans (D.mono b1.size)
        clear hf1 hf2 hown D hal b1 hbs hk0 hlt hil
        rw [← hbn] at hpn
        generalize (toI (accN (bs s) k)).length = L at *
        generalize strOfNums (toI (accN (bs s) k)) = q at *
        generalize toI (accN (bs s) k) = xs at *
        clear hbn
        have hbe : bs ({ data := #[123] } ++ q ++ { data := #[125] }) = 123 :: (bs q ++ [125]) := by
          rw [bs_append, bs_append]
          rfl
        have hs2 : ({ data := #[123] } ++ q ++ { data := #[125] } : ByteArray).size ≤ 100000 := by
          rw [ByteArray.size_append, ByteArray.size_append]
          show 1 + q.size + 1 ≤ _
          omega
        rw [← hbe] at hpn
        have hN1 := hN q
        have HCV := hidd hcv
        have h1 := hcv wr hB
        clear hcv hN hbe
        by_cases hnm : nameB (bs q) = true
        · rw [if_pos hnm] at hpn
          have hPg := hP.ok hs2 hpn
          rw [hnm] at hN1
          clear hP hpn hnm
          go_wp2_with fail
          refine (hPg _ (hE.below D1)).mono ?_
          rintro e w2 ⟨A5, c5, gs5, rfl, hn5, hg5, b5⟩
          have hB2 := (hB.below b5).more b5.size
          have D2 := D1.trans (b5.mono D1.size)
          have h2 := HCV.out w2 hB2
          clear hPg h1 hB b5 D1
          go_wp2_with fail
          refine (hN1 _ (by omega)).mono ?_
          rintro e w3 ⟨rfl, b6⟩
          have hB3 := (hB2.below b6).more b6.size
          have D3 := D2.trans (b6.mono D2.size)
          have h3 := HCV.out w3 hB3
          have hn6 := (hn5.below b6).more b6.size
          have hy := nds_new w3 [(refG q, none, 0)] (by intro x hx; rw [List.mem_singleton] at hx; subst hx; exact its_nil _ _ _)
          rw [ref_row] at hy
          have b7 : Below w3.heap.size w3 (w3.alloc (.cells #[.int .u8 6, .int .u64 0, .int .u64 0, .int .u64 0, .int .u64 0, .slice none 0 0, .int .i64 0, .int .i64 0, .string q] 38)) := (Below.refl _ _).alloc (Nat.le_refl _) _
          have l5 : gs5.length = 1 := hg5.1
          have hsm := same_core A5 (some ⟨w3.heap.size, 0, none⟩) 1 c5 1 gs5 [refG q] _ ((hn6.below b7).more b7.size) hy (hg5.leq (gs' := [refG q]) ⟨rfl, fun i hi => by
            have : i = 0 := by simp at hi; omega
            subst this
            exact gn_ref q⟩).2 l5 rfl (by decide) (by
              intro g hgm
              obtain ⟨i, hi, rfl⟩ := List.getElem_of_mem hgm
              have hi0 : i = 0 := by omega
              subst hi0
              have := (hg5.2 0 hi).l
              rw [List.getD_eq_getElem?_getD, List.getElem?_eq_getElem hi] at this
              simp only [Option.getD_some] at this
              rw [this]
              exact Nat.zero_le _)
          have D4 := D3.trans (b7.mono D3.size)
          rw [l5]
          clear hN1 h2 hB2 hB3 HCV hn5 hn6 hg5 hy b6 b7 D2 D3 l5
          go_wp2_with fail
          refine hsm.mono ?_
          rintro e w4 ⟨rfl, b8⟩
          have D5 := D4.trans (b8.mono D4.size)
          clear hsm h3
          go_wp2
          go_ret
          exact ⟨rfl, D5⟩
        · have hnf : nameB (bs q) = false := by simpa using hnm
          rw [if_neg hnm] at hpn
          have hPb := hP.bad hs2 hpn
          rw [hnf] at hN1
          clear hP hpn hnm hnf
          go_wp2_with fail
          refine (hPb _ (hE.below D1)).mono ?_
          rintro e w2 ⟨A5, c5, rfl, b5⟩
          have hB2 := (hB.below b5).more b5.size
          have D2 := D1.trans (b5.mono D1.size)
          have h2 := HCV.out w2 hB2
          clear hPb h1 hB b5 D1
          go_wp2_with fail
          refine (hN1 _ (by omega)).mono ?_
          rintro e w3 ⟨rfl, b6⟩
          have D3 := D2.trans (b6.mono D2.size)
          clear h2
          go_wp2
          go_ret
          exact ⟨rfl, D3⟩

end Go.Proofs.YtoflibajalbdfaaDoor.Sy

/- The law SyntaxGroup, by what Parse owes. -/
import Derived.Test.YtoflibajalbdfaaDoorNd
namespace Go.Proofs.YtoflibajalbdfaaDoor.Sy
open Go.RowKit

theorem cutS_yes {n : Nat} {s : ByteArray} (h : n < s.size) : cutS n s = s.extract 0 n := if_pos h
theorem cutS_no {n : Nat} {s : ByteArray} (h : ¬ n < s.size) : cutS n s = s := if_neg h
theorem bs_append (a b : ByteArray) : bs (a ++ b) = bs a ++ bs b := by
  unfold bs
  rw [ByteArray.data_append, Array.toList_append, List.map_append]

theorem at_bs (x : ByteArray) (k : Nat) (h : k < x.size) : at_ (bs x) k = x[k].toNat := by
  unfold at_ bs
  rw [List.getD_eq_getElem?_getD, List.getElem?_map, Array.getElem?_toList]
  rw [Array.getElem?_eq_getElem (show k < x.data.size from h)]
  rfl
theorem opens_same {s : List Nat} {i : Nat} (h : i < s.length) (hc : at_ s i ≠ 40) : opens s (i + 1) = opens s i := by
  unfold opens
  rw [List.take_succ_eq_append_getElem h, List.count_append]
  have : s[i] ≠ 40 := by
    unfold at_ at hc
    rw [List.getD_eq_getElem?_getD, List.getElem?_eq_getElem h] at hc
    exact hc
  rw [List.count_singleton]
  simp [this]
theorem Forest.len {ns : List Nd} {a b : Nat} {ks : List Nat} (h : Forest ns a b ks) : ks.length ≤ b - a := by
  induction h with
  | nil => exact Nat.zero_le _
  | snoc h1 _ h2 i1 _ =>
    have := h1.le
    have := h2.le
    rw [List.length_append, List.length_singleton]
    omega
theorem Forest.all {ns : List Nd} {a b : Nat} {ks : List Nat} (h : Forest ns a b ks) : ∀ i, a ≤ i → i < b → ∃ n b', ns[i]? = some n ∧ Forest ns b' i n.l := by
  induction h with
  | nil => intro i h1 h2; omega
  | @snoc a b c ks n h1 hn h2 i1 i2 =>
    intro i g1 g2
    rcases Nat.lt_or_ge i b with h | h
    · exact i1 i g1 h
    · rcases Nat.lt_or_ge i c with h3 | h3
      · exact i2 i h h3
      · have : i = c := by omega
        subst this
        exact ⟨n, b, hn, h2⟩
theorem kids_few {ns : List Nd} {ks : List Nat} (h : Forest ns 0 ns.length ks) : ∀ n ∈ ns, n.l.length ≤ ns.length := by
  intro n hn
  obtain ⟨i, hi, rfl⟩ := List.getElem_of_mem hn
  obtain ⟨m, b, h1, h2⟩ := h.all i (Nat.zero_le _) hi
  rw [List.getElem?_eq_getElem hi] at h1
  cases h1
  have := h2.len
  omega
theorem gn_few {gs : List Gd} {ns : List Nd} {ks : List Nat} (hg : GN gs ns) (h : Forest ns 0 ns.length ks) (hn : ns.length ≤ 1024) : ∀ g ∈ gs, g.l.length ≤ 1000000 := by
  intro g hgm
  obtain ⟨i, hi, rfl⟩ := List.getElem_of_mem hgm
  have h1 := (hg.2 i hi).l
  have hi2 : i < ns.length := by rw [← hg.1]; exact hi
  rw [List.getD_eq_getElem?_getD, List.getElem?_eq_getElem hi, List.getD_eq_getElem?_getD, List.getElem?_eq_getElem hi2] at h1
  simp only [Option.getD_some] at h1
  rw [h1, List.length_map]
  have := kids_few h _ (List.getElem_mem hi2)
  omega

set_option maxRecDepth 100000 in
set_option maxHeartbeats 1000000 in
theorem group_any (hP : ParseC) (s : ByteArray) (w : World) (hE : EV w) (hs : s.size ≤ maxLen) :
    Calls Tryd.prog 5 #[.string s] w fun e w' => e = .returned (.bool true) ∧ Below w.heap.size w w' := by
  have HY := fun h => hidd (cutS_yes (n := 500) (s := s) h)
  have HN := fun h => hidd (cutS_no (n := 500) (s := s) h)
  have hxs := cutS_size 500 s
  have hbl := bs_len (cutS 500 s)
  unfold maxLen at hs
  go_enter Tryd.func5, Tryd.ntmps5
  go_wp2_with fail
  refine (shown_any hP _ hE).mono ?_
  rintro e w1 ⟨rfl, b1⟩
  go_upto_region 2 with fail
  go_cut [4] (fun s4 wx => s4 = .string (cutS 500 s) ∧ w1 = wx)
  case first =>
    by_cases h : 500 < s.size
    · go_wp2
      go_meet
      exact ⟨by rw [(HY h).out], rfl⟩
    · go_wp2
      go_meet
      exact ⟨by rw [(HN h).out], rfl⟩
  case rest =>
    obtain ⟨rfl, rfl⟩ := hcut
    clear HY HN
    generalize cutS 500 s = x at *
    have hx5 : x.size ≤ 500 := by omega
    clear hxs
    have hab := at_bs x
    have hon := fun k h => opens_next (s := bs x) (i := k) h
    have hos := fun k h => opens_same (s := bs x) (i := k) h
    have hoa := opens_all (bs x)
    have hcl : (bs x).count 40 ≤ (bs x).length := List.count_le_length
    have hoe : opens (bs x) x.size = (bs x).count 40 := by
      unfold opens
      rw [← hbl, List.take_length]
    have HAB := hidd hab
    have HON := hidd hon
    have HOS := hidd hos
    have HOA := hidd hoa
    have HOE := hidd hoe
    clear hab hon hos hoa hoe
    go_wp2
    go_loopw [5, 21] (fun d i wr => wr = w1 ∧ ∃ k : Nat, k ≤ x.size ∧ i = .int .i64 k ∧ d = .int .i64 (opens (bs x) k : Int)) (fun _ i _ => x.size - (intOf i).toNat)
    case atStart => exact ⟨rfl, 0, Nat.zero_le _, rfl, rfl⟩
    case round =>
      obtain ⟨rfl, k, hk0, rfl, rfl⟩ := hrel
      by_cases hlt : k < x.size
      · have hki : (k : Int) < (x.size : Int) := by omega
        have hak := HAB.out k hlt
        have hob := HOA.out k
        by_cases hc : at_ (bs x) k = 40
        · have hn := HON.out k (by rw [hbl]; exact hlt) hc
          rw [hak] at hc
          have hc2 : ((x[k].toNat : Nat) : Int) = 40 := by omega
          have HN1 := hidd hn
          clear hak hn hc
          go_wp2
          exact ⟨⟨trivial, k + 1, by omega, rfl, by rw [HN1.out]; rfl⟩, by simp [intOf]; omega⟩
        · have hn := HOS.out k (by rw [hbl]; exact hlt) hc
          rw [hak] at hc
          have hc2 : (((x[k].toNat : Nat) : Int) == 40) = false := by simp; omega
          have HN1 := hidd hn
          clear hak hn
          go_wp2
          exact ⟨⟨trivial, k + 1, by omega, rfl, by rw [HN1.out]⟩, by simp [intOf]; omega⟩
      · have hk : k = x.size := by omega
        subst hk
        rw [HOE.out]
        by_cases hdp : 64 ≤ (bs x).count 40
        · go_wp2
          go_ret
          exact ⟨rfl, b1⟩
        · have hbp : bs ({ data := #[40] } ++ x ++ { data := #[41] }) = par (bs x) := by
            rw [bs_append, bs_append]
            rfl
          have hps : ({ data := #[40] } ++ x ++ { data := #[41] } : ByteArray).size ≤ 100000 := by
            rw [ByteArray.size_append, ByteArray.size_append]
            show 1 + x.size + 1 ≤ _
            omega
          have hG := parse_par (x := bs x) (by omega) (by rw [hbl]; exact hx5)
          have hP1 := hP x
          have hP2 := hP ({ data := #[40] } ++ x ++ { data := #[41] })
          rw [hbp] at hP2
          clear HAB HON HOS HOA HOE hcl
          go_wp2_with fail
          refine (hP1 _ (hE.below b1) (by omega)).mono ?_
          rintro e w2 ⟨hr1, b2⟩
          unfold ParseR at hr1
          have D2 := b1.trans (b2.mono b1.size)
          cases hp : parse (bs x) with
          | ok ns =>
            rw [hp] at hr1 hG
            obtain ⟨A, c, gs, rfl, hn, hg⟩ := hr1
            have hG2 : parse (par (bs x)) = .ok ns := hG
            obtain ⟨t1, t2, t3, t4, t5⟩ := parse_tree (bs_lt x) hp
            have hfew := gn_few hg t4 t3
            have hgl : gs.length ≤ 1000000 := by rw [hg.1]; omega
            have hP3 := hP.ok (s := { data := #[40] } ++ x ++ { data := #[41] }) hps (by rw [hbp]; exact hG2)
            clear hP1 hP2 hG hp hG2 t1 t4 t5 hP
            go_wp2_with fail
            refine (hP3 _ (hE.below D2)).mono ?_
            rintro e w3 ⟨A', c', gs', rfl, hn', hg', b3⟩
            have D3 := D2.trans (b3.mono D2.size)
            have hsm := same_any A A' c c' gs gs' w3 ((hn.below b3).more b3.size) hn' (hg.leq hg') hgl hfew
            clear hP3 hn hn' hg hg' hfew b2 b3 D2 b1
            go_wp2_with fail
            refine hsm.mono ?_
            rintro e w4 ⟨rfl, b4⟩
            have D4 := D3.trans (b4.mono D3.size)
            clear hsm
            go_wp2
            go_ret
            exact ⟨rfl, D4⟩
          | error e1 =>
            obtain ⟨er, p⟩ := e1
            rw [hp] at hr1 hG
            obtain ⟨A, c, rfl⟩ := hr1
            have hfn := parse_bad hp
            rw [parse_short (by rw [hbl]; omega)] at hp
            have hfn2 := run_fine (Nat.zero_le _) hp
            have h40 : 40 ≤ er ∧ er ≤ 46 := ⟨hfn2.2.2.1, hfn2.2.2.2⟩
            have hpl : p ≤ x.size := by have := hfn2.1; rw [hbl] at this; exact this
            clear hfn hfn2 hp hP1
            have hG2 : (er = 40 ∧ ∃ e', parse (par (bs x)) = .error e') ∨ (er ≠ 40 ∧ (parse (par (bs x)) = .error (er, p + 1) ∨ (er = 41 ∧ p < (bs x).length ∧ at_ (bs x) p = 41))) := by
              unfold Grp at hG
              simp only at hG
              split at hG
              · rename_i h; exact .inl ⟨h, hG⟩
              · rename_i h; exact .inr ⟨h, hG⟩
            clear hG
            have hne0 : ((er : Int) == 0) = false := by simp; omega
            rcases hG2 with ⟨h4, ⟨er2, p2⟩, h5⟩ | ⟨h4, h5 | ⟨h5, h6, h7⟩⟩
            · have hq := h5
              rw [parse_short (by rw [par_len, hbl]; omega)] at hq
              have hf2 := (run_fine (Nat.zero_le _) hq).2.2.1
              simp only at hf2
              have hne2 : ((er2 : Int) != 0) = true := by simp; omega
              have hP3 := hP.bad (s := { data := #[40] } ++ x ++ { data := #[41] }) hps (by rw [hbp]; exact h5)
              subst h4
              clear hP hP2 hq h5
              go_wp2_with fail
              refine (hP3 _ (hE.below D2)).mono ?_
              rintro e w3 ⟨A', c', rfl, b3⟩
              have D3 := D2.trans (b3.mono D2.size)
              clear hP3
              go_wp2
              go_ret
              exact ⟨rfl, D3⟩
            · have hP3 := hP.bad (s := { data := #[40] } ++ x ++ { data := #[41] }) hps (by rw [hbp]; exact h5)
              have hcast : ((p + 1 : Nat) : Int) = (p : Int) + 1 := by omega
              rw [hcast] at hP3
              have h42 : ((er : Int) == 40) = false := by simp; omega
              clear hP hP2 h5 hcast
              by_cases h41 : er = 41
              · subst h41
                go_wp2_with fail
                refine (hP3 _ (hE.below D2)).mono ?_
                rintro e w3 ⟨A', c', rfl, b3⟩
                have D3 := D2.trans (b3.mono D2.size)
                clear hP3
                go_wp2
                go_ret
                exact ⟨rfl, D3⟩
              · have h43 : ((er : Int) == 41) = false := by simp; omega
                go_wp2_with fail
                refine (hP3 _ (hE.below D2)).mono ?_
                rintro e w3 ⟨A', c', rfl, b3⟩
                have D3 := D2.trans (b3.mono D2.size)
                clear hP3
                go_wp2
                go_ret
                exact ⟨rfl, D3⟩
            · subst h5
              rw [hbl] at h6
              rw [at_bs x p h6] at h7
              have h8 : ((x[p].toNat : Nat) : Int) = 41 := by omega
              have hpi : (p : Int) < (x.size : Int) := by omega
              have hp0 : (0 : Int) ≤ (p : Int) := by omega
              clear hP h7
              go_wp2_with fail
              refine (hP2 _ (hE.below D2) hps).mono ?_
              rintro e w3 ⟨hr3, b3⟩
              have D3 := D2.trans (b3.mono D2.size)
              clear hP2
              unfold ParseR at hr3
              cases hp3 : parse (par (bs x)) with
              | ok ns3 =>
                rw [hp3] at hr3
                obtain ⟨A', c', gs', rfl, -, -⟩ := hr3
                go_wp2
                go_ret
                exact ⟨rfl, D3⟩
              | error e3 =>
                obtain ⟨er3, p3⟩ := e3
                rw [hp3] at hr3
                obtain ⟨A', c', rfl⟩ := hr3
                rw [parse_short (by rw [par_len, hbl]; omega)] at hp3
                have hf3 := (run_fine (Nat.zero_le _) hp3).2.2.1
                simp only at hf3
                have hne3 : ((er3 : Int) == 0) = false := by simp; omega
                clear hp3
                by_cases h9 : p3 = p + 1
                · subst h9
                  have hcast : ((p + 1 : Nat) : Int) = (p : Int) + 1 := by omega
                  rw [hcast]
                  go_wp2
                  go_ret
                  exact ⟨rfl, D3⟩
                · have hn9 : ((p3 : Int) == (p : Int) + 1) = false := by simp; omega
                  go_wp2
                  go_ret
                  exact ⟨rfl, D3⟩

end Go.Proofs.YtoflibajalbdfaaDoor.Sy

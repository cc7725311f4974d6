/- What names stand for: the landed meanings, and Right. -/
import Derived.Test.YtgppanbikfobbaaAc
namespace Go.Proofs.Ytgppanbikfobbaa.Sy
open Go.RowKit
set_option maxRecDepth 100000
set_option linter.unusedVariables false

/-- What meanings tells. -/
def MeanR (ds : List DG) (w : World) (e : Ending) (w' : World) : Prop :=
  ((RightDs ds ∧ ∃ b n f, e = .returned (.tuple #[.map (some b), .bool true]) ∧ MapT w' b n w.heap.size ds f ∧ n ≤ ds.length ∧ w.heap.size ≤ b) ∨ (¬ RightDs ds ∧ e = .returned (.tuple #[.map none, .bool false]))) ∧ Below w.heap.size w w'
/-- The loop of meanings. -/
structure MeanL (ds : List DG) (w : World) (k : Nat) (f : ByteArray → Option Value) (wr : World) : Prop where
  map : MapT wr w.heap.size k w.heap.size (ds.take k) f
  rgt : RightDs (ds.take k)
  bel : Below w.heap.size w wr
theorem def_cells {w : World} {b : Nat} {d : DG} {A : Option Addr} {c : Nat} (r : RowA w b 35 (dfL d A c).toArray) : w.cell? ⟨b, 0, none⟩ = some (.string d.1) ∧ w.cell? ⟨b, 1, none⟩ = some (.slice A d.2.length c) := ⟨r.at_ rfl, r.at_ rfl⟩
theorem zero_nodes (w : World) : (zeroValue 22).run Try.prog w = .ok (.slice none 0 0) w := by kernel_rfl
theorem not_right_name {ds : List DG} {k : Nat} (hk : k < ds.length) (h : nameB (bs (ds.getD k dg0).1) = false) : ¬ RightDs ds := fun q => by
  have := (q.1 _ (getD_mem hk)).1
  rw [h] at this
  cases this
theorem not_right_tree {ds : List DG} {k : Nat} (hk : k < ds.length) (h : ¬ RightG (ds.getD k dg0).2) : ¬ RightDs ds := fun q => h (q.1 _ (getD_mem hk)).2
theorem not_right_twice {ds : List DG} {k : Nat} (hk : k < ds.length) {d : DG} (hd : d ∈ ds.take k) (h : d.1 = (ds.getD k dg0).1) : ¬ RightDs ds := fun q => by
  have q2 := (q.take (k + 1)).2
  rw [take_snoc hk] at q2
  exact (List.pairwise_append.1 q2).2.2 d hd _ (List.mem_singleton.2 rfl) h

set_option maxHeartbeats 2000000 in
theorem mean_any (A : Option Addr) (c : Nat) (ds : List DG) (w : World) (hx : Dfs w w.heap.size A ds) (hok : DOk ds) :
    Calls Try.prog 19 #[.slice A ds.length c] w fun e w' => MeanR ds w e w' := by
  have hlen := hok.len
  have hmm := @run_makeMap Try.prog
  have HOK := hidd hok
  clear hok
  have M0 := mapT_new w w.heap.size
  have B0 : Below w.heap.size w (w.alloc (.map #[] 0)) := (Below.refl _ _).alloc (Nat.le_refl _) _
  generalize hn : ds.length = n at *
  have HN0 := hidd hn
  clear hn
  have HM0 : Hid (MeanL ds w 0 (fun _ => none) (w.alloc (.map #[] 0))) := ⟨M0, ⟨fun d hd => absurd hd List.not_mem_nil, List.Pairwise.nil⟩, B0⟩
  clear M0 B0
  go_enter Try.func19, Try.ntmps19
  go_wp2
  go_loopw [12] (fun i wr => ∃ k f, k ≤ n ∧ i = .int .i64 (k : Nat) ∧ MeanL ds w k f wr) (fun i _ => n - (intOf i).toNat)
  case atStart => exact ⟨0, _, Nat.zero_le _, rfl, HM0.out⟩
  case round =>
    clear HM0
    obtain ⟨k, f, hk0, rfl, L⟩ := hrel
    have D := L.bel
    by_cases hlt : k < n
    · have hlt2 : k < ds.length := by rw [HN0.out]; exact hlt
      obtain ⟨b1, o1, rfl, hb1, A3, c3, N1, r1, hc3⟩ := (hx.below D).at_ hlt2
      have HC3 := hidd hc3
      clear hc3
      have hd := getD_mem hlt2
      have hnm1 := HOK.out.nm _ hd
      have hN1 := HOK.out.few _ hd
      have HNN := hidd (HOK.out.nds _ hd)
      have HNA : Hid (nameB (bs (ds.getD k dg0).1) = false → ¬ RightDs ds) := not_right_name hlt2
      have HNT : Hid (¬ RightG (ds.getD k dg0).2 → ¬ RightDs ds) := not_right_tree hlt2
      have HNW : Hid (∀ v, f (ds.getD k dg0).1 = some v → ¬ RightDs ds) := fun v hv => by
        obtain ⟨x, h1, h2, -⟩ := L.map.some _ v hv
        exact not_right_twice hlt2 h1 h2
      have HNX : Hid (f (ds.getD k dg0).1 = none → nameB (bs (ds.getD k dg0).1) = true → RightG (ds.getD k dg0).2 → RightDs (ds.take k ++ [ds.getD k dg0])) := fun h1 h2 h3 => L.rgt.snoc h2 h3 ((L.map.none _).1 h1)
      have HTK := hidd (take_snoc hlt2)
      clear hd hlt2
      generalize ds.getD k dg0 = d at *
      have hki : (k : Int) < (n : Int) := by omega
      have hbs := D.size
      have Z1 := RowA.new wr 35 zeroDC
      have hW1 : Below wr.heap.size wr ((wr.alloc (.cells zeroDC 35)).setRow wr.heap.size (dfL d A3 c3).toArray) := bel_setRow ((Below.refl _ _).alloc (Nat.le_refl _) _) _ _ (Nat.le_refl _)
      have R1 := Z1.row (dfL d A3 c3).toArray
      go_upto_region 5 with (first
        | refine wpList_load_mid rfl 35 (.tmp 14) rfl b1 (o1 + k * 2) rfl (dfL d A3 c3) _ r1 Try.underlying35 rfl (dfL_info d A3 c3) ?_
        | refine wpList_store_row rfl 35 (.tmp 6) (.tmp 15) rfl wr.heap.size (dfL d A3 c3).toArray rfl rfl 35 zeroDC Z1 (dfL_infoA d A3 c3) rfl (dfL_one d A3 c3) ?_)
      have D1 := D.trans (hW1.mono D.size)
      have M1 := L.map.keep (hW1.block _ L.map.map.lt) (fun p hp => hW1.cell (p := p) (by omega))
      have N2 : Nds _ w.heap.size A3 d.2 := N1.keep (fun p hp => hW1.cell (p := p) (by omega))
      change RowA _ _ _ _ at R1
      generalize (wr.alloc (.cells zeroDC 35)).setRow wr.heap.size (dfL d A3 c3).toArray = w1 at *
      generalize wr.heap.size = q at *
      clear Z1 hW1 r1 N1 L D
      obtain ⟨a0, a1⟩ := def_cells R1
      have hz := zero_nodes w1
      have MV := M1.map
      go_upto_region 6 with (at_lookup; refine wp_look 42 22 rfl rfl Try.underlying42 hz w.heap.size k f rfl MV d.1 rfl hnm1 ?_)
      have HR1 := hidd R1
      have HM1 := hidd M1
      have HN2 := hidd N2
      clear hz R1 M1
      cases hf : f d.1 with
      | some v =>
        have HN : Hid (¬ RightDs ds) := HNW.out v hf
        have D3 := D1
        clear MV N2 hf
        clear hx hnm1 hN1
        go_wp2
        go_ret2
        exact ⟨.inr ⟨HN.out, rfl⟩, D3⟩
      | none =>
        have HF := hidd hf
        clear hf
        cases hnb : nameB (bs d.1) with
        | false =>
          have HN : Hid (¬ RightDs ds) := HNA.out hnb
          have hcall : ∀ u : World, Calls Try.prog 32 #[.string d.1] u fun e w' => e = .returned (.bool false) ∧ w' = u := fun u => by
            have := pname_same d.1 u hnm1
            rw [hnb] at this
            exact this
          have D3 := D1
          clear MV N2 hnb
          go_wp2_with fail
          refine (hcall _).mono ?_
          rintro e w2 ⟨rfl, rfl⟩
          clear hx hnm1 hN1
          go_wp2
          go_ret2
          exact ⟨.inr ⟨HN.out, rfl⟩, D3⟩
        | true =>
          have hcall : ∀ u : World, Calls Try.prog 32 #[.string d.1] u fun e w' => e = .returned (.bool true) ∧ w' = u := fun u => by
            have := pname_same d.1 u hnm1
            rw [hnb] at this
            exact this
          have HNB := hidd hnb
          clear MV hnb
          go_wp2_with fail
          refine (hcall _).mono ?_
          rintro e w2 ⟨rfl, rfl⟩
          go_wp2_with fail
          refine (right_any A3 c3 d.2 _ (N2.more D1.size) hN1 HNN.out).mono ?_
          rintro e w3 ⟨b, rfl, hbi, hb3⟩
          have D3 := D1.trans (hb3.mono D1.size)
          have R3 := HR1.out.below hb3 HR1.out.lt
          have N3 : Nds w3 w.heap.size A3 d.2 := N2.below (hb3.mono D1.size)
          have M3 := HM1.out.keep (hb3.block _ HM1.out.map.lt) (fun p hp => hb3.cell (p := p) (by have := D1.size; omega))
          clear N2 a0 a1 HR1 HM1 HN2 hb3 hcall
          cases b with
          | false =>
            have HN : Hid (¬ RightDs ds) := HNT.out (fun h => by have := hbi.2 h; cases this)
            clear hbi
            clear hx hnm1 hN1
            go_wp2
            go_ret2
            exact ⟨.inr ⟨HN.out, rfl⟩, D3⟩
          | true =>
            have HRG := hidd (hbi.1 rfl)
            obtain ⟨a0, a1⟩ := def_cells R3
            have MV3 := M3.map
            have hkm : k < maxLen := by unfold maxLen; omega
            clear hbi
            go_wp2_with (at_mapUpdate; refine wp_mput 42 22 rfl rfl Try.underlying42 w.heap.size k f rfl MV3 hkm d.1 (.slice A3 d.2.length c3) rfl rfl hnm1 ?_; intro w4 M4 T4; refine Hid.out ?_)
            have b4 := turned_below T4 (Nat.le_refl _)
            have L4 : MeanL ds w (k + 1) (fun k => if k = d.1 then some (.slice A3 d.2.length c3) else f k) w4 := ⟨by rw [HTK.out]; exact M3.put M4 (fun p hp => b4.cell hp) N3 HC3.out, by rw [HTK.out]; exact HNX.out HF.out HNB.out HRG.out, D3.trans b4⟩
            have HL4 := hidd L4
            clear L4 M4 T4 b4 MV3 M3 N3 R3 a0 a1
            refine Lib.hid ?_
            go_wp2
            exact ⟨⟨k + 1, _, by omega, rfl, HL4.out⟩, by simp [intOf]; omega⟩
    · have hke : k = n := by omega
      subst hke
      have HD : Hid (RightDs ds ∧ MapT wr w.heap.size k w.heap.size ds f) := by
        have h1 := L.rgt
        have h2 := L.map
        rw [← HN0.out, List.take_length] at h1 h2
        exact ⟨h1, by rw [← HN0.out]; exact h2⟩
      clear L hx
      go_wp2
      go_ret2
      exact ⟨.inl ⟨HD.out.1, _, _, f, rfl, HD.out.2, by rw [HN0.out]; exact Nat.le_refl _, Nat.le_refl _⟩, D⟩
/-- The landed Right. -/
def DRgt (ds : List DG) (w : World) (e : Ending) (w' : World) : Prop := ∃ b, e = .returned (.bool b) ∧ (b = true ↔ RightDs ds) ∧ Below w.heap.size w w'
set_option maxHeartbeats 400000 in
theorem dright_any (A : Option Addr) (c : Nat) (ds : List DG) (w : World) (hx : Dfs w w.heap.size A ds) (hok : DOk ds) :
    Calls Try.prog 16 #[.slice A ds.length c] w fun e w' => DRgt ds w e w' := by
  have hm := mean_any A c ds w hx hok
  clear hx hok
  generalize ds.length = n at *
  go_enter Try.func16, Try.ntmps16
  go_wp2_with fail
  refine hm.mono ?_
  rintro e w1 ⟨h | ⟨h, rfl⟩, hb⟩
  · obtain ⟨h1, b, m, f, rfl, -⟩ := h
    have H1 := hidd h1
    clear h1 hm
    go_wp2
    go_ret
    exact ⟨true, rfl, ⟨fun _ => H1.out, fun _ => rfl⟩, hb⟩
  · have H1 := hidd h
    clear h hm
    go_wp2
    go_ret
    exact ⟨false, rfl, ⟨fun q => (by cases q), fun q => absurd q H1.out⟩, hb⟩
end Go.Proofs.Ytgppanbikfobbaa.Sy

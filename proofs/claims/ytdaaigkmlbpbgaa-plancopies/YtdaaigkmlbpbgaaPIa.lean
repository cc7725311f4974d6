/- What is counted with most as great as may be, and with most 1: the statement's walk; and how many nodes a repetition written out has. -/
import Derived.Test.YtdaaigkmlbpbgaaPJz
import Derived.Test.YtdaaigkmlbpbgaaPJn
namespace Go.Proofs.Ytdaaigkmlbpbgaa.Sy.Pl
open Go.RowKit Go.Proofs.Ytdaaigkmlbpbgaa.Sy.Ap Go.Proofs.Ytdaaigkmlbpbgaa.Sy.Lg
set_option maxRecDepth 100000
set_option linter.unusedVariables false

/-- What asking a plan tells. -/
structure AskR (w : World) (A : Option Addr) (c n k : Nat) : Prop where
  cnt : ∀ u, Below w.heap.size w u → Calls Try.prog 17 #[.slice A n c] u fun e w' => e = .returned (.int .i64 (k : Int)) ∧ Below u.heap.size u w'
  rgt : ∀ u, Below w.heap.size w u → Calls Try.prog 15 #[.slice A n c] u fun e w' => e = .returned (.bool true) ∧ Below u.heap.size u w'
theorem ask_of {w : World} {A : Option Addr} {c : Nat} {go : List Gd} {o : List Nd} (hN : Nds w w.heap.size A go) (hg : GN go o) (ht : TreeN o) (hp : PlainN o) (hr : Rp o) : AskR w A c go.length (ctN o) := by
  have hl : go.length ≤ 2000 := by have := hg.1; have := ht.few; omega
  refine ⟨fun u hb => ?_, fun u hb => ?_⟩
  · refine (counted_any A c go u ((hN.below hb).more hb.size) hl (gn_sm hg ht)).mono ?_
    rintro e w' ⟨b, r, rfl, -, h⟩
    rw [h o hg ht hp hr]
    exact ⟨rfl, b⟩
  · refine (rightP_any A c go u ((hN.below hb).more hb.size) hl (gn_sm hg ht)).mono ?_
    rintro e w' ⟨⟨z, rfl, hz⟩, b⟩
    have : z = true := hz.2 ⟨o, hg, ht, hp, hr⟩
    subst this
    exact ⟨rfl, b⟩
theorem AskR.later {w u : World} {A : Option Addr} {c n k : Nat} (h : AskR w A c n k) (hb : Below w.heap.size w u) : AskR u A c n k :=
  ⟨fun v hv => h.cnt v (hb.trans (hv.mono hb.size)), fun v hv => h.rgt v (hb.trans (hv.mono hb.size))⟩
theorem no_gn (a b : Nat) : GN [gB 1, gK 5 [0] a b] (noN a b) := by
  refine ⟨rfl, fun i hi => ?_⟩
  have hi : i < 2 := hi
  have : i = 0 ∨ i = 1 := by omega
  rcases this with rfl | rfl
  · exact ⟨rfl, fun _ _ => rfl, rfl, rfl, rfl, rfl⟩
  · exact ⟨rfl, fun _ _ => rfl, rfl, rfl, rfl, rfl⟩
/-- The two nodes as they were made. -/
theorem no_nds (w : World) (a b : Nat) : Nds ((w.alloc (.cells #[.int .i64 0] 3)).alloc (.cells #[.int .u8 2, .int .u64 2, .int .u64 0, .int .u64 0, .int .u64 0, .slice none 0 0, .int .i64 0, .int .i64 0, .string { data := #[] }, .int .u8 5, .int .u64 0, .int .u64 0, .int .u64 0, .int .u64 0, .slice (some ⟨w.heap.size, 0, none⟩) 1 1, .int .i64 (a : Int), .int .i64 (b : Int), .string { data := #[] }] 38)) ((w.alloc (.cells #[.int .i64 0] 3)).alloc (.cells #[.int .u8 2, .int .u64 2, .int .u64 0, .int .u64 0, .int .u64 0, .slice none 0 0, .int .i64 0, .int .i64 0, .string { data := #[] }, .int .u8 5, .int .u64 0, .int .u64 0, .int .u64 0, .int .u64 0, .slice (some ⟨w.heap.size, 0, none⟩) 1 1, .int .i64 (a : Int), .int .i64 (b : Int), .string { data := #[] }] 38)).heap.size (some ⟨w.heap.size + 1, 0, none⟩) [gB 1, gK 5 [0] a b] := by
  have hs : (w.alloc (.cells #[.int .i64 0] 3)).heap.size = w.heap.size + 1 := World.size_alloc ..
  have o1 := World.ownsRow_lit (e := 38) (size := 9) (w.alloc (.cells #[.int .i64 0] 3)) #[.int .u8 2, .int .u64 2, .int .u64 0, .int .u64 0, .int .u64 0, .slice none 0 0, .int .i64 0, .int .i64 0, .string { data := #[] }, .int .u8 5, .int .u64 0, .int .u64 0, .int .u64 0, .int .u64 0, .slice (some ⟨w.heap.size, 0, none⟩) 1 1, .int .i64 (a : Int), .int .i64 (b : Int), .string { data := #[] }] 2 (Nat.le_refl _) (by unfold maxLen; omega) rfl
  rw [hs] at o1
  have R0 := RowA.new w 3 #[.int .i64 0]
  generalize hc : (.cells #[.int .u8 2, .int .u64 2, .int .u64 0, .int .u64 0, .int .u64 0, .slice none 0 0, .int .i64 0, .int .i64 0, .string { data := #[] }, .int .u8 5, .int .u64 0, .int .u64 0, .int .u64 0, .int .u64 0, .slice (some ⟨w.heap.size, 0, none⟩) 1 1, .int .i64 (a : Int), .int .i64 (b : Int), .string { data := #[] }] 38 : Obj) = cc at *
  have hb : Below (w.alloc (.cells #[.int .i64 0] 3)).heap.size (w.alloc (.cells #[.int .i64 0] 3)) ((w.alloc (.cells #[.int .i64 0] 3)).alloc cc) := (Below.refl _ _).alloc (Nat.le_refl _) _
  have R1 := R0.below hb R0.lt
  obtain ⟨h1, h2, h3, h4⟩ := w1_two
  obtain ⟨A', c', e1, e2, -⟩ := own_nds (l := [(gB 1, none, 0), (gK 5 [0] a b, some ⟨w.heap.size, 0, none⟩, 1)]) (B := w.heap.size + 1) (v := .slice (some ⟨w.heap.size + 1, 0, none⟩) 2 2) (by
    have : nodesC [(gB 1, none, 0), (gK 5 [0] a b, some ⟨w.heap.size, 0, none⟩, 1)] = [.int .u8 2, .int .u64 2, .int .u64 0, .int .u64 0, .int .u64 0, .slice none 0 0, .int .i64 0, .int .i64 0, .string { data := #[] }, .int .u8 5, .int .u64 0, .int .u64 0, .int .u64 0, .int .u64 0, .slice (some ⟨w.heap.size, 0, none⟩) 1 1, .int .i64 (a : Int), .int .i64 (b : Int), .string { data := #[] }] := by
      unfold nodesC
      simp only [List.flatMap_cons, List.flatMap_nil, List.append_nil, gB_row 1 2 h1 h2 h3 h4, gK_row]
      rfl
    rw [this]
    exact o1) (fun x hx => by
    simp only [List.mem_cons, List.not_mem_nil, or_false] at hx
    rcases hx with rfl | rfl
    · intro q; exact absurd rfl q
    · intro _
      refine ⟨w.heap.size, 0, rfl, R1.lt, fun i hi => ?_⟩
      have hi : i < 1 := hi
      have : i = 0 := by omega
      subst this
      exact R1.at_ rfl)
  cases e1
  exact e2
set_option maxHeartbeats 1000000 in
theorem lawNone_any (x y : Int) (w : World) (hx : 0 ≤ x) (hy : 0 ≤ y) :
    Calls Try.prog 7 #[.int .u8 x, .int .u8 y] w fun e w' => e = .returned (.bool true) ∧ Below w.heap.size w w' := by
  have hsh := shown8_any w
  obtain ⟨k, hk, hk4⟩ := mod_most hy 30 (by omega)
  obtain ⟨k2, hk2, hk24⟩ := mod_most hx 31 (by omega)
  obtain ⟨b, hb1⟩ : ∃ b : Nat, (k : Int) + 1 = (b : Int) := ⟨k + 1, by omega⟩
  obtain ⟨a, ha⟩ : ∃ a : Nat, min (k2 : Int) (b : Int) = (a : Int) := ⟨min k2 b, by omega⟩
  have p1 : a ≤ b := by omega
  have p2 : 1 ≤ b := by omega
  have p3 : b ≤ 30 := by omega
  obtain ⟨o1, q1, z1, r1⟩ := no_most p1 p2 p3
  obtain ⟨o2, q2, z2, r2, l2⟩ := no_least p1 p2 p3
  obtain ⟨t1, t2⟩ := noN_tree p1 p2 (by omega)
  obtain ⟨a1, a2, -⟩ := plan_means t1 t2 q1
  obtain ⟨c1, c2, -⟩ := plan_means t1 t2 q2
  have HT1 : Hid (∀ (u : World) (A : Option Addr), Nds u u.heap.size A [gB 1, gK 5 [0] a b] → Calls Try.prog 10 #[.slice A 2 2, .int .i64 4096] u fun e w' => TrR (some o1) u e w') := fun u A h => by
    have := tree_ok A 2 _ _ 4096 (by omega) (by omega) u h (no_gn a b) t1 t2
    rw [q1] at this
    exact this
  have HT2 : Hid (∀ (u : World) (A : Option Addr), Nds u u.heap.size A [gB 1, gK 5 [0] a b] → Calls Try.prog 10 #[.slice A 2 2, .int .i64 1] u fun e w' => TrR (some o2) u e w') := fun u A h => by
    have := tree_ok A 2 _ _ 1 (by omega) (by omega) u h (no_gn a b) t1 t2
    rw [q2] at this
    exact this
  have HA1 : Hid (∀ (u : World) (A : Option Addr) (c : Nat) (go : List Gd), Nds u u.heap.size A go → GN go o1 → AskR u A c go.length 0) := fun u A c go h1 h2 => by
    have := ask_of (c := c) h1 h2 a1 a2 r1
    rw [z1] at this
    exact this
  have HA2 : Hid (∀ (u : World) (A : Option Addr) (c : Nat) (go : List Gd), Nds u u.heap.size A go → GN go o2 → AskR u A c go.length (if 1 < b then 1 else 0) ∧ go.length ≤ 4) := fun u A c go h1 h2 => by
    have := ask_of (c := c) h1 h2 c1 c2 r2
    rw [z2] at this
    exact ⟨this, by rw [h2.1]; exact l2⟩
  clear q1 z1 r1 q2 z2 r2 l2 t1 t2 a1 a2 c1 c2
  go_enter Try.func7, Try.ntmps7
  go_wp2_with fail
  refine hsh.mono ?_
  rintro e w1 ⟨rfl, b1⟩
  have HN1 := hidd (no_nds w1 a b)
  have hbb : Below w1.heap.size w1 ((w1.alloc (.cells #[.int .i64 0] 3)).alloc (.cells #[.int .u8 2, .int .u64 2, .int .u64 0, .int .u64 0, .int .u64 0, .slice none 0 0, .int .i64 0, .int .i64 0, .string { data := #[] }, .int .u8 5, .int .u64 0, .int .u64 0, .int .u64 0, .int .u64 0, .slice (some ⟨w1.heap.size, 0, none⟩) 1 1, .int .i64 (a : Int), .int .i64 (b : Int), .string { data := #[] }] 38)) := ((Below.refl _ _).alloc (Nat.le_refl _) _).alloc (by simp) _
  have HB1 := hidd (b1.trans (hbb.mono b1.size))
  clear hsh b1 hbb
  go_upto_region 5 with fail
  generalize ((w1.alloc (.cells #[.int .i64 0] 3)).alloc (.cells #[.int .u8 2, .int .u64 2, .int .u64 0, .int .u64 0, .int .u64 0, .slice none 0 0, .int .i64 0, .int .i64 0, .string { data := #[] }, .int .u8 5, .int .u64 0, .int .u64 0, .int .u64 0, .int .u64 0, .slice (some ⟨w1.heap.size, 0, none⟩) 1 1, .int .i64 (a : Int), .int .i64 (b : Int), .string { data := #[] }] 38)) = w2 at *
  have hc := HT1.out w2 _ HN1.out
  clear HT1
  go_wp2_with fail
  refine hc.mono ?_
  rintro e w3 ⟨b3, A3, c3, g3, rfl, N3, G3, -⟩
  have HQ1 := hidd (HA1.out w3 A3 c3 g3 N3 G3)
  have hc2 := HT2.out w3 _ ((HN1.out.below b3).more b3.size)
  have HB3 := hidd (HB1.out.trans (b3.mono HB1.out.size))
  clear hc HT2 HA1 N3 G3 b3 HB1 HN1
  generalize g3.length = n3 at *
  go_wp2_with fail
  refine hc2.mono ?_
  rintro e w4 ⟨b4, A4, c4, g4, rfl, N4, G4, -⟩
  obtain ⟨ak, hl4⟩ := HA2.out w4 A4 c4 g4 N4 G4
  have HQ2 := hidd ak
  have HQ3 := hidd (HQ1.out.later b4)
  have HB4 := hidd (HB3.out.trans (b4.mono HB3.out.size))
  clear hc2 HA2 N4 G4 b4 HB3 HQ1 ak
  generalize g4.length = n4 at *
  have hl4i : (n4 : Int) ≤ 4 := by omega
  have hcz := HQ3.out.cnt w4 (Below.refl _ _)
  by_cases h1 : 1 < b
  · rw [if_pos h1] at HQ2
    have h1i : (1 : Int) < (b : Int) := by omega
    go_wp2_with fail
    refine hcz.mono ?_
    rintro e w5 ⟨rfl, b5⟩
    have hc5 := HQ2.out.cnt w5 b5
    clear hcz
    go_wp2_with fail
    refine hc5.mono ?_
    rintro e w6 ⟨rfl, b6⟩
    have b46 := b5.trans (b6.mono b5.size)
    have hc6 := HQ3.out.rgt w6 b46
    clear hc5 b5 b6
    go_wp2_with fail
    refine hc6.mono ?_
    rintro e w7 ⟨rfl, b7⟩
    have b47 := b46.trans (b7.mono b46.size)
    have hc7 := HQ2.out.rgt w7 b47
    clear hc6 b46 b7
    go_wp2_with fail
    refine hc7.mono ?_
    rintro e w8 ⟨rfl, b8⟩
    have HB8 := hidd (HB4.out.trans ((b47.trans (b8.mono b47.size)).mono HB4.out.size))
    clear hc7 b47 b8
    go_wp2
    go_ret
    exact ⟨rfl, HB8.out⟩
  · rw [if_neg h1] at HQ2
    have h1i : ¬ (1 : Int) < (b : Int) := by omega
    go_wp2_with fail
    refine hcz.mono ?_
    rintro e w5 ⟨rfl, b5⟩
    have hc5 := HQ2.out.cnt w5 b5
    clear hcz
    go_wp2_with fail
    refine hc5.mono ?_
    rintro e w6 ⟨rfl, b6⟩
    have b46 := b5.trans (b6.mono b5.size)
    have hc6 := HQ3.out.rgt w6 b46
    clear hc5 b5 b6
    go_wp2_with fail
    refine hc6.mono ?_
    rintro e w7 ⟨rfl, b7⟩
    have b47 := b46.trans (b7.mono b46.size)
    have hc7 := HQ2.out.rgt w7 b47
    clear hc6 b46 b7
    go_wp2_with fail
    refine hc7.mono ?_
    rintro e w8 ⟨rfl, b8⟩
    have HB8 := hidd (HB4.out.trans ((b47.trans (b8.mono b47.size)).mono HB4.out.size))
    clear hc7 b47 b8
    go_wp2
    go_ret
    exact ⟨rfl, HB8.out⟩
end Go.Proofs.Ytdaaigkmlbpbgaa.Sy.Pl

/- The document's examples by what Parse owes. -/
import Derived.Test.YtghjkbjpdjlddaaDoorNb
namespace Go.Proofs.YtghjkbjpdjlddaaDoor.Sy
open Go.RowKit

def shG (a b c : Nat) : List (Gd × Option Addr × Nat) := [(oneG 97, none, 0), (oneG 98, none, 0), (catG 3 [0, 1], some ⟨a, 0, none⟩, 2), (oneG 99, none, 0), (repG 3 0 (-1), some ⟨b, 0, none⟩, 1), (catG 4 [2, 4], some ⟨c, 0, none⟩, 2)]
theorem shown_row (a b c : Nat) : (nodesC (shG a b c)).toArray = #[.int .u8 2, .int .u64 (W (oneS 97) 0), .int .u64 (W (oneS 97) 1), .int .u64 (W (oneS 97) 2), .int .u64 (W (oneS 97) 3), .slice none 0 0, .int .i64 0, .int .i64 0, .string { data := #[] }, .int .u8 2, .int .u64 (W (oneS 98) 0), .int .u64 (W (oneS 98) 1), .int .u64 (W (oneS 98) 2), .int .u64 (W (oneS 98) 3), .slice none 0 0, .int .i64 0, .int .i64 0, .string { data := #[] }, .int .u8 3, .int .u64 0, .int .u64 0, .int .u64 0, .int .u64 0, .slice (some ⟨a, 0, none⟩) 2 2, .int .i64 0, .int .i64 0, .string { data := #[] }, .int .u8 2, .int .u64 (W (oneS 99) 0), .int .u64 (W (oneS 99) 1), .int .u64 (W (oneS 99) 2), .int .u64 (W (oneS 99) 3), .slice none 0 0, .int .i64 0, .int .i64 0, .string { data := #[] }, .int .u8 5, .int .u64 0, .int .u64 0, .int .u64 0, .int .u64 0, .slice (some ⟨b, 0, none⟩) 1 1, .int .i64 0, .int .i64 (-1), .string { data := #[] }, .int .u8 4, .int .u64 0, .int .u64 0, .int .u64 0, .int .u64 0, .slice (some ⟨c, 0, none⟩) 2 2, .int .i64 0, .int .i64 0, .string { data := #[] }] := by
  simp only [nodesC, shG, gdL, oneG, catG, repG, List.flatMap_cons, List.flatMap_nil, List.cons_append, List.nil_append, W_zero, List.length_cons, List.length_nil, Nat.zero_add, Nat.reduceAdd]
theorem shown_gn (a b c : Nat) : GN ((shG a b c).map (·.1)) [ndBytes (oneS 97), ndBytes (oneS 98), ndCat [0, 1], ndBytes (oneS 99), ndRep 3 0 (-1), ndAlt [2, 4]] := by
  refine ⟨rfl, fun i hi => ?_⟩
  have hi' : i < 6 := hi
  match i, hi' with
  | 0, _ => exact gn_one 97
  | 1, _ => exact gn_one 98
  | 2, _ => exact gn_cat [0, 1]
  | 3, _ => exact gn_one 99
  | 4, _ => exact gn_rep 3 0 (-1)
  | 5, _ => exact gn_alt [2, 4]

set_option maxRecDepth 100000 in
set_option maxHeartbeats 400000 in
theorem shown_any (hP : ParseC) (w : World) (hE : EV w) : Calls Tryd.prog 6 #[] w fun e w' => e = .returned (.bool true) ∧ Below w.heap.size w w' := by
  go_enter Tryd.func6, Tryd.ntmps6
  go_wp2_with fail
  refine (hP.ok (s := ⟨#[97, 98, 124, 99, 42]⟩) (ns := [ndBytes (oneS 97), ndBytes (oneS 98), ndCat [0, 1], ndBytes (oneS 99), ndRep 3 0 (-1), ndAlt [2, 4]]) (by decide) str_ex1 _ hE).mono ?_
  rintro e w1 ⟨A1, c1, gs, rfl, hn1, hg, b1⟩
  go_wp2_with fail
  refine (hP.bad (s := ⟨#[97, 123, 50, 44, 49, 125]⟩) (er := 45) (p := 1) (by decide) str_ex2 _ (hE.below b1)).mono ?_
  rintro e w2 ⟨A2, c2, rfl, b2⟩
  go_wp2_with fail
  refine (hP.bad (s := ⟨#[97, 47, 98]⟩) (er := 42) (p := 1) (by decide) str_ex3 _ ((hE.below b1).below b2)).mono ?_
  rintro e w3 ⟨A3, c3, rfl, b3⟩
  have D3 := b1.trans ((b2.trans (b3.mono b2.size)).mono b1.size)
  have hn3 := hn1.below (b2.trans (b3.mono b2.size))
  have hsz3 : w1.heap.size ≤ w3.heap.size := Nat.le_trans b2.size b3.size
  clear b1 b2 b3 hn1
  go_wp2_with fail
  refine (one_lit 97 _ (by decide)).mono ?_
  rintro e w4 ⟨rfl, b4⟩
  go_wp2_with fail
  refine (one_lit 98 _ (by decide)).mono ?_
  rintro e w5 ⟨rfl, b5⟩
  have D5 := D3.trans ((b4.trans (b5.mono b4.size)).mono D3.size)
  have hn5 := (hn3.more hsz3).below (b4.trans (b5.mono b4.size))
  have hsz5 : w3.heap.size ≤ w5.heap.size := Nat.le_trans b4.size b5.size
  clear b4 b5 hn3 D3
  go_wp2_with fail
  have I1 := its_new w5 [0, 1] 3
  have b5 : Below w5.heap.size w5 (w5.alloc (.cells #[.int .i64 0, .int .i64 1] 3)) := (Below.refl _ _).alloc (Nat.le_refl _) _
  refine (one_lit 99 _ (by decide)).mono ?_
  rintro e w6 ⟨rfl, b6⟩
  have hs6 : w5.heap.size + 1 ≤ w6.heap.size := by have := b6.size; simpa using this
  have I1' : Its w6 w6.heap.size (some ⟨w5.heap.size, 0, none⟩) [0, 1] := (I1.below b6).more (by simpa using hs6)
  have D6 := (D5.trans (b5.mono D5.size)).trans (b6.mono (Nat.le_trans D5.size b5.size))
  have hn6 := ((hn5.more hsz5).below b5).below (b6.mono b5.size)
  have I2 := its_new w6 [3] 3
  have hs7 : (w6.alloc (.cells #[.int .i64 3] 3)).heap.size = w6.heap.size + 1 := World.size_alloc ..
  have I3 := its_new (w6.alloc (.cells #[.int .i64 3] 3)) [2, 4] 3
  rw [hs7] at I3
  have b7 : Below w6.heap.size w6 (w6.alloc (.cells #[.int .i64 3] 3)) := (Below.refl _ _).alloc (Nat.le_refl _) _
  have b8 : Below (w6.alloc (.cells #[.int .i64 3] 3)).heap.size (w6.alloc (.cells #[.int .i64 3] 3)) ((w6.alloc (.cells #[.int .i64 3] 3)).alloc (.cells #[.int .i64 2, .int .i64 4] 3)) := (Below.refl _ _).alloc (Nat.le_refl _) _
  have J1 := ((I1'.below b7).more b7.size).below b8
  have J2 : Its _ _ _ [3] := I2.below b8
  have D8 := (D6.trans (b7.mono D6.size)).trans (b8.mono (Nat.le_trans D6.size b7.size))
  have hn8 := ((hn6.more (by omega)).below b7).below (b8.mono b7.size)
  have hs8 : ((w6.alloc (.cells #[.int .i64 3] 3)).alloc (.cells #[.int .i64 2, .int .i64 4] 3)).heap.size = w6.heap.size + 2 := by rw [World.size_alloc, hs7]
  have hy := nds_new ((w6.alloc (.cells #[.int .i64 3] 3)).alloc (.cells #[.int .i64 2, .int .i64 4] 3)) (shG w5.heap.size w6.heap.size (w6.heap.size + 1)) (by
    intro x hx
    rw [hs8]
    simp only [shG, List.mem_cons, List.not_mem_nil, or_false] at hx
    rcases hx with rfl | rfl | rfl | rfl | rfl | rfl
    · exact its_nil _ _ _
    · exact its_nil _ _ _
    · exact J1.more (by simp)
    · exact its_nil _ _ _
    · exact J2.more (by simp)
    · exact I3.more (by simp))
  rw [hs8, shown_row] at hy
  clear I1 I1' I2 I3 J1 J2 b5 b6 b7 hn5 hn6 D5 D6 hsz3 hsz5
  have hgs : gs.length = 6 := hg.1
  rw [hgs]
  have HY := hidd hy
  have HN := hidd hn8
  have HG := hidd hg
  have HB := hidd b8
  have HD := hidd D8
  have H7 := hidd hs7
  have H8 := hidd hs8
  have Hgs := hidd hgs
  clear hy hn8 hg b8 D8 hs7 hs8 hP hs6 hgs
  go_wp2_with fail
  have hle : ∀ g ∈ gs, g.l.length ≤ 1000000 := by
    intro g hgm
    obtain ⟨i, hi, rfl⟩ := List.getElem_of_mem hgm
    have h1 := (HG.out.2 i hi).l
    have h2 := HG.out.1
    rw [List.getD_eq_getElem?_getD, List.getElem?_eq_getElem hi] at h1
    simp only [Option.getD_some] at h1
    rw [h1, List.length_map]
    rw [h2] at hi
    have hi' : i < 6 := hi
    match i, hi' with
    | 0, _ => decide
    | 1, _ => decide
    | 2, _ => decide
    | 3, _ => decide
    | 4, _ => decide
    | 5, _ => decide
  have b9 := HB.out
  have hs9 := H8.out
  have hz := (HN.out.more (B' := w6.heap.size + 2) (by omega))
  have hy := HY.out
  have D8 := HD.out
  have hD8 := D8.size
  rw [hs9] at hD8
  clear HY HN HB HD H7 H8 b9
  generalize hv : (w6.alloc (.cells #[.int .i64 3] 3)).alloc (.cells #[.int .i64 2, .int .i64 4] 3) = v at *
  have b10 : Below v.heap.size v (v.alloc (.cells (nodesC (shG w5.heap.size w6.heap.size (w6.heap.size + 1))).toArray 30)) := (Below.refl _ _).alloc (Nat.le_refl _) _
  rw [shown_row] at b10
  have hzz := (hz.below (b10.mono (by rw [hs9]; exact Nat.le_refl _)))
  have D9 := D8.trans (b10.mono D8.size)
  refine (same_core A1 (some ⟨w6.heap.size + 2, 0, none⟩) 6 c1 6 gs ((shG w5.heap.size w6.heap.size (w6.heap.size + 1)).map (·.1)) _ (hzz.more (by rw [World.size_alloc, hs9]; omega)) (hy.more (Nat.le_refl _)) (HG.out.leq (shown_gn _ _ _)).2 Hgs rfl (by decide) hle).mono ?_
  rintro e w10 ⟨rfl, b11⟩
  have D10 := D9.trans (b11.mono D9.size)
  clear hzz hz hy b10 b11 D9 D8
  go_wp2
  go_ret
  exact ⟨rfl, D10⟩

end Go.Proofs.YtghjkbjpdjlddaaDoor.Sy

/- PrintTells: its walk. -/
import Derived.Test.YtghjkbjpdjlddaaDoorEf
namespace Go.Proofs.YtghjkbjpdjlddaaDoor.Sy.Pn.Rp
open Go.RowKit
set_option maxRecDepth 100000
set_option linter.unusedVariables false

theorem rt_right {gs : List Gd} {ns : List Nd} (hrn : RN gs ns) {w w' : World} {e : Ending} (h : TreeR gs w e w') : e = .returned (.tuple #[.string (txt (treeT ns)), .bool true]) ∧ Below w.heap.size w w' := by
  obtain ⟨⟨ms, hm, rfl⟩ | ⟨hn, _⟩, hb⟩ := h
  · exact ⟨by rw [treeT_congr (nes_of hm.gn hrn.gn)], hb⟩
  · exact absurd hrn.right hn
theorem rt_not {gs : List Gd} (hn : ¬ RightG gs) {w w' : World} {e : Ending} (h : TreeR gs w e w') : e = .returned (.tuple #[.string { data := #[] }, .bool false]) ∧ Below w.heap.size w w' := by
  obtain ⟨⟨ms, hm, rfl⟩ | ⟨_, rfl⟩, hb⟩ := h
  · exact absurd hm.right hn
  · exact ⟨rfl, hb⟩
theorem txt_r {l : List Nat} {w w' : World} {e : Ending} (h : TxtR l w e w') : e = .returned (.string (txt l)) ∧ Below w.heap.size w w' := by
  obtain ⟨b, rfl, hb, h2⟩ := h
  exact ⟨by rw [txt_of hb], h2⟩
theorem pbyte_t (c : Nat) (hc : c ≤ 255) (w : World) : Calls Tryd.prog 13 #[.int .u8 (c : Int)] w fun e w' => e = .returned (.string (txt (byteT c))) ∧ Below w.heap.size w w' := (pbyte_any c hc w).mono fun _ _ h => txt_r h
theorem rbyte_t (c : Nat) (hc : c ≤ 255) (w : World) : Calls Tryd.prog 14 #[.int .u8 (c : Int)] w fun e w' => e = .returned (.string (txt (byteT c))) ∧ Below w.heap.size w w' := (rbyte_any c hc w).mono fun _ _ h => txt_r h
theorem pset_t (p : Nat → Bool) (w : World) : Calls Tryd.prog 15 #[.agg #[.int .u64 (W (p) 0), .int .u64 (W (p) 1), .int .u64 (W (p) 2), .int .u64 (W (p) 3)]] w fun e w' => e = .returned (.string (txt (setT p))) ∧ Below w.heap.size w w' := (pset_any p w).mono fun _ _ h => txt_r h
theorem rset_t (p : Nat → Bool) (w : World) : Calls Tryd.prog 16 #[.agg #[.int .u64 (W (p) 0), .int .u64 (W (p) 1), .int .u64 (W (p) 2), .int .u64 (W (p) 3)]] w fun e w' => e = .returned (.string (txt (setT p))) ∧ Below w.heap.size w w' := (rset_any p w).mono fun _ _ h => txt_r h
set_option linter.unusedVariables false in
def TeGV (q x : Nat) (p : Nat → Bool) (s : ByteArray) (y : Bool) (t : Nat) : Option Value :=
  match t with
  | 1 => some (.int .u8 (x : Int))
  | 5 => some (.pointer (some ⟨q, 0, none⟩))
  | 6 => some (.bool true)
  | 8 => some (.string s)
  | 9 => some (.bool y)
  | 10 => some (.string s)
  | 11 => some (.bool y)
  | 27 => some (.bool true)
  | 28 => some (.bool true)
  | 29 => some (.string s)
  | 30 => some (.string s)
  | 31 => some (.bool true)
  | 32 => some (.bool true)
  | 33 => some (.bool true)
  | 34 => some (.bool y)
  | 35 => some (.bool y)
  | 36 => some (.bool true)
  | 37 => some (.bool true)
  | 38 => some (.bool true)
  | 39 => some (.int .u8 (x : Int))
  | 40 => some (.string (txt (byteT x)))
  | 41 => some (.int .u8 (x : Int))
  | 42 => some (.string (txt (byteT x)))
  | 43 => some (.bool true)
  | 44 => some (.bool true)
  | 45 => some (.bool true)
  | 46 => some (.agg #[.int .u64 (W (p) 0), .int .u64 (W (p) 1), .int .u64 (W (p) 2), .int .u64 (W (p) 3)])
  | 47 => some (.string (txt (setT p)))
  | 48 => some (.agg #[.int .u64 (W (p) 0), .int .u64 (W (p) 1), .int .u64 (W (p) 2), .int .u64 (W (p) 3)])
  | 49 => some (.string (txt (setT p)))
  | 50 => some (.bool true)
  | 51 => some (.bool true)
  | _ => none
set_option linter.unusedVariables false in
def TeGP (q x : Nat) (p : Nat → Bool) (s : ByteArray) (y : Bool) (t : Nat) : Option (Value → World → Prop) :=
  match t with
  | _ => none
def TeG (q x : Nat) (p : Nat → Bool) (s : ByteArray) (y : Bool) (t : Nat) (v : Value) (u : World) : Prop := (∀ z9, TeGV q x p s y t = some z9 → v = z9) ∧ ∀ R, TeGP q x p s y t = some R → R v u
set_option maxHeartbeats 4000000 in
theorem tells_core (A : Option Addr) (c k x : Nat) (p : Nat → Bool) (gs xs : List Gd) (w : World) (hT : TV w) (hx255 : x ≤ 255) (hx : Nds w w.heap.size A xs) (hlx : xs.length = k) (hk : k = min gs.length 1100) (hl : gs.length ≤ c) (hc : c ≤ maxLen) (hnm : ∀ g ∈ xs, g.nm.size ≤ maxLen ∧ g.l.length ≤ maxLen) :
    Calls Tryd.prog 4 #[.slice A gs.length c, .int .u8 (x : Int), .agg #[.int .u64 (W (p) 0), .int .u64 (W (p) 1), .int .u64 (W (p) 2), .int .u64 (W (p) 3)]] w fun e w' => e = .returned (.bool true) ∧ Below w.heap.size w w' := by
  have HR1 := hidd (fun (w1 : World) (b : Below w.heap.size w w1) => tree_any A c xs w1 ((hx.below b).more b.size) (by omega) hnm (hT.below b))
  have HR2 := hidd (fun (w1 : World) (b : Below w.heap.size w w1) => rtree_any A c xs w1 ((hx.below b).more b.size) (by omega) hnm (hT.below b))
  have HTV := hidd (fun (w1 : World) (b : Below w.heap.size w w1) => hT.below b)
  rw [hlx] at HR1 HR2
  generalize gs.length = n at *
  unfold maxLen at hc
  clear hx hnm hlx hT
  by_cases h : n ≤ 1100
  · have hkn : k = n := by omega
    subst hkn
    have hmi : min (k : Int) 1100 = (k : Int) := by omega
    have hmd : decide ((1100 : Int) < (k : Int)) = false := decide_eq_false (by omega)
    clear h hk
    have b0 := (Below.refl w.heap.size w).alloc (Nat.le_refl _) (.cells (#[.int .u64 (W (p) 0), .int .u64 (W (p) 1), .int .u64 (W (p) 2), .int .u64 (W (p) 3)]) 28)
    have R0 := Row4.new w p
    go_enter Tryd.func4, Tryd.ntmps4
    go_wp2_with fail
    generalize w.alloc (.cells (#[.int .u64 (W (p) 0), .int .u64 (W (p) 1), .int .u64 (W (p) 2), .int .u64 (W (p) 3)]) 28) = w0 at *
    refine (HR1.out w0 b0).mono ?_
    rintro e w2 ⟨h1, b2⟩
    have D2 := b0.trans (b2.mono b0.size)
    have R2 := R0.below b2 R0.lt
    have hr2 := HR2.out w2 D2
    have HD2 := hidd D2
    have HR2b := hidd R2
    rcases h1 with ⟨ns, hrn, rfl⟩ | ⟨hnr, rfl⟩
    · have hr3 := hr2.mono fun _ _ h => rt_right hrn h
      generalize txt (treeT ns) = s at *
      clear hr2 hrn b2 D2 R2 R0 b0 HR1 HR2
      go_wp2_with fail
      refine hr3.mono ?_
      rintro e w3 ⟨rfl, b3⟩
      have R3 := hidd (HR2b.out.below b3 HR2b.out.lt)
      have D3 := hidd (HD2.out.trans (b3.mono HD2.out.size))
      have htv : ∀ u, Below w3.heap.size w3 u → TV u := fun u hu => HTV.out u (D3.out.trans (hu.mono D3.out.size))
      clear hr3 b3 HR2b HD2
      go_wp2
      refine wp_region_slots (SdS w3 w.heap.size p) (TeG w.heap.size x p s true) (by kernel_rfl) (by kernel_rfl) (by kernel_rfl) ?_ ⟨R3.out, bel_drew (Below.refl _ _)⟩ [1, 5, 8, 9, 10, 11] (by kernel_rfl) ?_ ?_ ?_
      · intro t v u u' h hb
        refine ⟨h.1, fun R hR => ?_⟩
        unfold TeGP at hR
        cases hR
      · intro u _
        refine ⟨⟨_, rfl, ?_⟩, ⟨_, rfl, ?_⟩, ⟨_, rfl, ?_⟩, ⟨_, rfl, ?_⟩, ⟨_, rfl, ?_⟩, ⟨_, rfl, ?_⟩, trivial⟩ <;> exact ⟨fun _ h => Option.some.inj h, fun _ h => no_some h⟩
      · refine ⟨?_, ?_, ?_, ?_, ?_, ?_, ?_, ?_, ?_, ?_, ?_, ?_, ?_, ?_, ?_, ?_, ?_, ?_, ?_, ?_, ?_, ?_, ?_, ?_, ?_, ?_, trivial⟩
        · intro a u hS hr K hK
          rw [if_pos (want_none rfl)]
          unfold Oper.wp
          go_simp
          refine (shown5_any u (htv u hS.bel)).mono ?_
          rintro e u1 ⟨rfl, hb⟩
          exact hK _ _ ⟨fun _ h => Option.some.inj h, fun _ h => no_some h⟩ (hS.below hb) hb
        · intro a u hS hr K hK
          obtain ⟨⟨vl0, e0, g0⟩, -⟩ := hr
          obtain rfl := g0.1 _ rfl
          clear g0
          rw [if_pos (want_none rfl)]
          unfold Oper.wp
          go_simp
          exact hK _ _ ⟨fun _ h => Option.some.inj h, fun _ h => no_some h⟩ hS (Below.refl _ _)
        · intro a u hS hr K hK
          obtain ⟨⟨vl0, e0, g0⟩, ⟨vl1, e1, g1⟩, -⟩ := hr
          obtain rfl := g0.1 _ rfl
          clear g0
          obtain rfl := g1.1 _ rfl
          clear g1
          rw [if_pos (want_some rfl rfl rfl e1)]
          unfold Oper.wp
          go_simp
          exact hK _ _ ⟨fun _ h => Option.some.inj h, fun _ h => no_some h⟩ hS (Below.refl _ _)
        · intro a u hS hr K hK
          obtain ⟨⟨vl0, e0, g0⟩, ⟨vl1, e1, g1⟩, -⟩ := hr
          obtain rfl := g0.1 _ rfl
          clear g0
          obtain rfl := g1.1 _ rfl
          clear g1
          rw [if_pos (want_some rfl rfl rfl e1)]
          unfold Oper.wp
          go_simp
          exact hK _ _ ⟨fun _ h => Option.some.inj h, fun _ h => no_some h⟩ hS (Below.refl _ _)
        · intro a u hS hr K hK
          obtain ⟨⟨vl0, e0, g0⟩, ⟨vl1, e1, g1⟩, ⟨vl2, e2, g2⟩, -⟩ := hr
          obtain rfl := g0.1 _ rfl
          clear g0
          obtain rfl := g1.1 _ rfl
          clear g1
          obtain rfl := g2.1 _ rfl
          clear g2
          rw [if_pos (want_some rfl rfl rfl e2)]
          unfold Oper.wp
          go_simp
          exact hK _ _ ⟨fun _ h => Option.some.inj h, fun _ h => no_some h⟩ hS (Below.refl _ _)
        · intro a u hS hr K hK
          obtain ⟨⟨vl0, e0, g0⟩, ⟨vl1, e1, g1⟩, -⟩ := hr
          obtain rfl := g0.1 _ rfl
          clear g0
          obtain rfl := g1.1 _ rfl
          clear g1
          rw [if_pos (want_none rfl)]
          unfold Oper.wp
          go_simp
          exact hK _ _ ⟨fun _ h => Option.some.inj h, fun _ h => no_some h⟩ hS (Below.refl _ _)
        · intro a u hS hr K hK
          obtain ⟨⟨vl0, e0, g0⟩, -⟩ := hr
          obtain rfl := g0.1 _ rfl
          clear g0
          rw [if_pos (want_none rfl)]
          unfold Oper.wp
          go_simp
          exact hK _ _ ⟨fun _ h => Option.some.inj h, fun _ h => no_some h⟩ hS (Below.refl _ _)
        · intro a u hS hr K hK
          obtain ⟨⟨vl0, e0, g0⟩, ⟨vl1, e1, g1⟩, -⟩ := hr
          obtain rfl := g0.1 _ rfl
          clear g0
          obtain rfl := g1.1 _ rfl
          clear g1
          rw [if_pos (want_some rfl rfl rfl e1)]
          unfold Oper.wp
          go_simp
          exact hK _ _ ⟨fun _ h => Option.some.inj h, fun _ h => no_some h⟩ hS (Below.refl _ _)
        · intro a u hS hr K hK
          obtain ⟨⟨vl0, e0, g0⟩, ⟨vl1, e1, g1⟩, -⟩ := hr
          obtain rfl := g0.1 _ rfl
          clear g0
          obtain rfl := g1.1 _ rfl
          clear g1
          rw [if_pos (want_some rfl rfl rfl e1)]
          unfold Oper.wp
          go_simp
          exact hK _ _ ⟨fun _ h => Option.some.inj h, fun _ h => no_some h⟩ hS (Below.refl _ _)
        · intro a u hS hr K hK
          obtain ⟨⟨vl0, e0, g0⟩, ⟨vl1, e1, g1⟩, ⟨vl2, e2, g2⟩, -⟩ := hr
          obtain rfl := g0.1 _ rfl
          clear g0
          obtain rfl := g1.1 _ rfl
          clear g1
          obtain rfl := g2.1 _ rfl
          clear g2
          rw [if_pos (want_some rfl rfl rfl e2)]
          unfold Oper.wp
          go_simp
          exact hK _ _ ⟨fun _ h => Option.some.inj h, fun _ h => no_some h⟩ hS (Below.refl _ _)
        · intro a u hS hr K hK
          obtain ⟨⟨vl0, e0, g0⟩, ⟨vl1, e1, g1⟩, -⟩ := hr
          obtain rfl := g0.1 _ rfl
          clear g0
          obtain rfl := g1.1 _ rfl
          clear g1
          rw [if_pos (want_none rfl)]
          unfold Oper.wp
          go_simp
          exact hK _ _ ⟨fun _ h => Option.some.inj h, fun _ h => no_some h⟩ hS (Below.refl _ _)
        · intro a u hS hr K hK
          obtain ⟨⟨vl0, e0, g0⟩, -⟩ := hr
          obtain rfl := g0.1 _ rfl
          clear g0
          rw [if_pos (want_none rfl)]
          unfold Oper.wp
          go_simp
          exact hK _ _ ⟨fun _ h => Option.some.inj h, fun _ h => no_some h⟩ hS (Below.refl _ _)
        · intro a u hS hr K hK
          obtain ⟨⟨vl0, e0, g0⟩, ⟨vl1, e1, g1⟩, -⟩ := hr
          obtain rfl := g0.1 _ rfl
          clear g0
          obtain rfl := g1.1 _ rfl
          clear g1
          rw [if_pos (want_some rfl rfl rfl e1)]
          unfold Oper.wp
          go_simp
          exact hK _ _ ⟨fun _ h => Option.some.inj h, fun _ h => no_some h⟩ hS (Below.refl _ _)
        · intro a u hS hr K hK
          obtain ⟨⟨vl0, e0, g0⟩, ⟨vl1, e1, g1⟩, -⟩ := hr
          obtain rfl := g0.1 _ rfl
          clear g0
          obtain rfl := g1.1 _ rfl
          clear g1
          rw [if_pos (want_some rfl rfl rfl e1)]
          unfold Oper.wp
          go_simp
          refine (pbyte_t x hx255 u).mono ?_
          rintro e u1 ⟨rfl, hb⟩
          exact hK _ _ ⟨fun _ h => Option.some.inj h, fun _ h => no_some h⟩ (hS.below hb) hb
        · intro a u hS hr K hK
          obtain ⟨⟨vl0, e0, g0⟩, ⟨vl1, e1, g1⟩, -⟩ := hr
          obtain rfl := g0.1 _ rfl
          clear g0
          obtain rfl := g1.1 _ rfl
          clear g1
          rw [if_pos (want_some rfl rfl rfl e1)]
          unfold Oper.wp
          go_simp
          exact hK _ _ ⟨fun _ h => Option.some.inj h, fun _ h => no_some h⟩ hS (Below.refl _ _)
        · intro a u hS hr K hK
          obtain ⟨⟨vl0, e0, g0⟩, ⟨vl1, e1, g1⟩, -⟩ := hr
          obtain rfl := g0.1 _ rfl
          clear g0
          obtain rfl := g1.1 _ rfl
          clear g1
          rw [if_pos (want_some rfl rfl rfl e1)]
          unfold Oper.wp
          go_simp
          refine (rbyte_t x hx255 u).mono ?_
          rintro e u1 ⟨rfl, hb⟩
          exact hK _ _ ⟨fun _ h => Option.some.inj h, fun _ h => no_some h⟩ (hS.below hb) hb
        · intro a u hS hr K hK
          obtain ⟨⟨vl0, e0, g0⟩, ⟨vl1, e1, g1⟩, ⟨vl2, e2, g2⟩, -⟩ := hr
          obtain rfl := g0.1 _ rfl
          clear g0
          obtain rfl := g1.1 _ rfl
          clear g1
          obtain rfl := g2.1 _ rfl
          clear g2
          rw [if_pos (want_some rfl rfl rfl e2)]
          unfold Oper.wp
          go_simp
          exact hK _ _ ⟨fun _ h => Option.some.inj h, fun _ h => no_some h⟩ hS (Below.refl _ _)
        · intro a u hS hr K hK
          obtain ⟨⟨vl0, e0, g0⟩, ⟨vl1, e1, g1⟩, -⟩ := hr
          obtain rfl := g0.1 _ rfl
          clear g0
          obtain rfl := g1.1 _ rfl
          clear g1
          rw [if_pos (want_none rfl)]
          unfold Oper.wp
          go_simp
          exact hK _ _ ⟨fun _ h => Option.some.inj h, fun _ h => no_some h⟩ hS (Below.refl _ _)
        · intro a u hS hr K hK
          obtain ⟨⟨vl0, e0, g0⟩, -⟩ := hr
          obtain rfl := g0.1 _ rfl
          clear g0
          rw [if_pos (want_none rfl)]
          unfold Oper.wp
          go_simp
          exact hK _ _ ⟨fun _ h => Option.some.inj h, fun _ h => no_some h⟩ hS (Below.refl _ _)
        · intro a u hS hr K hK
          obtain ⟨⟨vl0, e0, g0⟩, ⟨vl1, e1, g1⟩, -⟩ := hr
          obtain rfl := g0.1 _ rfl
          clear g0
          obtain rfl := g1.1 _ rfl
          clear g1
          rw [if_pos (want_some rfl rfl rfl e1)]
          obtain ⟨r0, r1, r2, r3⟩ := hS.box.cells
          unfold Oper.wp
          go_simp
          exact hK _ _ ⟨fun _ h => Option.some.inj h, fun _ h => no_some h⟩ hS (Below.refl _ _)
        · intro a u hS hr K hK
          obtain ⟨⟨vl0, e0, g0⟩, ⟨vl1, e1, g1⟩, -⟩ := hr
          obtain rfl := g0.1 _ rfl
          clear g0
          obtain rfl := g1.1 _ rfl
          clear g1
          rw [if_pos (want_some rfl rfl rfl e1)]
          unfold Oper.wp
          go_simp
          refine (pset_t p u).mono ?_
          rintro e u1 ⟨rfl, hb⟩
          exact hK _ _ ⟨fun _ h => Option.some.inj h, fun _ h => no_some h⟩ (hS.below hb) hb
        · intro a u hS hr K hK
          obtain ⟨⟨vl0, e0, g0⟩, ⟨vl1, e1, g1⟩, -⟩ := hr
          obtain rfl := g0.1 _ rfl
          clear g0
          obtain rfl := g1.1 _ rfl
          clear g1
          rw [if_pos (want_some rfl rfl rfl e1)]
          obtain ⟨r0, r1, r2, r3⟩ := hS.box.cells
          unfold Oper.wp
          go_simp
          exact hK _ _ ⟨fun _ h => Option.some.inj h, fun _ h => no_some h⟩ hS (Below.refl _ _)
        · intro a u hS hr K hK
          obtain ⟨⟨vl0, e0, g0⟩, ⟨vl1, e1, g1⟩, -⟩ := hr
          obtain rfl := g0.1 _ rfl
          clear g0
          obtain rfl := g1.1 _ rfl
          clear g1
          rw [if_pos (want_some rfl rfl rfl e1)]
          unfold Oper.wp
          go_simp
          refine (rset_t p u).mono ?_
          rintro e u1 ⟨rfl, hb⟩
          exact hK _ _ ⟨fun _ h => Option.some.inj h, fun _ h => no_some h⟩ (hS.below hb) hb
        · intro a u hS hr K hK
          obtain ⟨⟨vl0, e0, g0⟩, ⟨vl1, e1, g1⟩, ⟨vl2, e2, g2⟩, -⟩ := hr
          obtain rfl := g0.1 _ rfl
          clear g0
          obtain rfl := g1.1 _ rfl
          clear g1
          obtain rfl := g2.1 _ rfl
          clear g2
          rw [if_pos (want_some rfl rfl rfl e2)]
          unfold Oper.wp
          go_simp
          exact hK _ _ ⟨fun _ h => Option.some.inj h, fun _ h => no_some h⟩ hS (Below.refl _ _)
        · intro a u hS hr K hK
          obtain ⟨⟨vl0, e0, g0⟩, ⟨vl1, e1, g1⟩, -⟩ := hr
          obtain rfl := g0.1 _ rfl
          clear g0
          obtain rfl := g1.1 _ rfl
          clear g1
          rw [if_pos (want_none rfl)]
          unfold Oper.wp
          go_simp
          exact hK _ _ ⟨fun _ h => Option.some.inj h, fun _ h => no_some h⟩ hS (Below.refl _ _)
        · intro a u hS hr K hK
          obtain ⟨⟨vl0, e0, g0⟩, -⟩ := hr
          obtain rfl := g0.1 _ rfl
          clear g0
          rw [if_pos (want_none rfl)]
          unfold Oper.wp
          go_simp
          exact hK _ _ ⟨fun _ h => Option.some.inj h, fun _ h => no_some h⟩ hS (Below.refl _ _)
      intro a u hS hts hd hkn hf
      obtain ⟨v6, e6, g6⟩ := hf 25 _ 6 rfl rfl
      obtain rfl := g6.1 _ rfl
      have HEND := hidd (D3.out.trans (hS.bel.mono D3.out.size))
      clear hf hkn
      simp only [Exit.then]
      apply_assumption
      refine wp_ret ?_
      exact ret_slot Tryd.results4 e6 hd ⟨rfl, HEND.out⟩
    · have hr3 := hr2.mono fun _ _ h => rt_not hnr h
      clear hr2 hnr b2 D2 R2 R0 b0 HR1 HR2
      go_wp2_with fail
      refine hr3.mono ?_
      rintro e w3 ⟨rfl, b3⟩
      have R3 := hidd (HR2b.out.below b3 HR2b.out.lt)
      have D3 := hidd (HD2.out.trans (b3.mono HD2.out.size))
      have htv : ∀ u, Below w3.heap.size w3 u → TV u := fun u hu => HTV.out u (D3.out.trans (hu.mono D3.out.size))
      clear hr3 b3 HR2b HD2
      go_wp2
      refine wp_region_slots (SdS w3 w.heap.size p) (TeG w.heap.size x p { data := #[] } false) (by kernel_rfl) (by kernel_rfl) (by kernel_rfl) ?_ ⟨R3.out, bel_drew (Below.refl _ _)⟩ [1, 5, 8, 9, 10, 11] (by kernel_rfl) ?_ ?_ ?_
      · intro t v u u' h hb
        refine ⟨h.1, fun R hR => ?_⟩
        unfold TeGP at hR
        cases hR
      · intro u _
        refine ⟨⟨_, rfl, ?_⟩, ⟨_, rfl, ?_⟩, ⟨_, rfl, ?_⟩, ⟨_, rfl, ?_⟩, ⟨_, rfl, ?_⟩, ⟨_, rfl, ?_⟩, trivial⟩ <;> exact ⟨fun _ h => Option.some.inj h, fun _ h => no_some h⟩
      · refine ⟨?_, ?_, ?_, ?_, ?_, ?_, ?_, ?_, ?_, ?_, ?_, ?_, ?_, ?_, ?_, ?_, ?_, ?_, ?_, ?_, ?_, ?_, ?_, ?_, ?_, ?_, trivial⟩
        · intro a u hS hr K hK
          rw [if_pos (want_none rfl)]
          unfold Oper.wp
          go_simp
          refine (shown5_any u (htv u hS.bel)).mono ?_
          rintro e u1 ⟨rfl, hb⟩
          exact hK _ _ ⟨fun _ h => Option.some.inj h, fun _ h => no_some h⟩ (hS.below hb) hb
        · intro a u hS hr K hK
          obtain ⟨⟨vl0, e0, g0⟩, -⟩ := hr
          obtain rfl := g0.1 _ rfl
          clear g0
          rw [if_pos (want_none rfl)]
          unfold Oper.wp
          go_simp
          exact hK _ _ ⟨fun _ h => Option.some.inj h, fun _ h => no_some h⟩ hS (Below.refl _ _)
        · intro a u hS hr K hK
          obtain ⟨⟨vl0, e0, g0⟩, ⟨vl1, e1, g1⟩, -⟩ := hr
          obtain rfl := g0.1 _ rfl
          clear g0
          obtain rfl := g1.1 _ rfl
          clear g1
          rw [if_pos (want_some rfl rfl rfl e1)]
          unfold Oper.wp
          go_simp
          exact hK _ _ ⟨fun _ h => Option.some.inj h, fun _ h => no_some h⟩ hS (Below.refl _ _)
        · intro a u hS hr K hK
          obtain ⟨⟨vl0, e0, g0⟩, ⟨vl1, e1, g1⟩, -⟩ := hr
          obtain rfl := g0.1 _ rfl
          clear g0
          obtain rfl := g1.1 _ rfl
          clear g1
          rw [if_pos (want_some rfl rfl rfl e1)]
          unfold Oper.wp
          go_simp
          exact hK _ _ ⟨fun _ h => Option.some.inj h, fun _ h => no_some h⟩ hS (Below.refl _ _)
        · intro a u hS hr K hK
          obtain ⟨⟨vl0, e0, g0⟩, ⟨vl1, e1, g1⟩, ⟨vl2, e2, g2⟩, -⟩ := hr
          obtain rfl := g0.1 _ rfl
          clear g0
          obtain rfl := g1.1 _ rfl
          clear g1
          obtain rfl := g2.1 _ rfl
          clear g2
          rw [if_pos (want_some rfl rfl rfl e2)]
          unfold Oper.wp
          go_simp
          exact hK _ _ ⟨fun _ h => Option.some.inj h, fun _ h => no_some h⟩ hS (Below.refl _ _)
        · intro a u hS hr K hK
          obtain ⟨⟨vl0, e0, g0⟩, ⟨vl1, e1, g1⟩, -⟩ := hr
          obtain rfl := g0.1 _ rfl
          clear g0
          obtain rfl := g1.1 _ rfl
          clear g1
          rw [if_pos (want_none rfl)]
          unfold Oper.wp
          go_simp
          exact hK _ _ ⟨fun _ h => Option.some.inj h, fun _ h => no_some h⟩ hS (Below.refl _ _)
        · intro a u hS hr K hK
          obtain ⟨⟨vl0, e0, g0⟩, -⟩ := hr
          obtain rfl := g0.1 _ rfl
          clear g0
          rw [if_pos (want_none rfl)]
          unfold Oper.wp
          go_simp
          exact hK _ _ ⟨fun _ h => Option.some.inj h, fun _ h => no_some h⟩ hS (Below.refl _ _)
        · intro a u hS hr K hK
          obtain ⟨⟨vl0, e0, g0⟩, ⟨vl1, e1, g1⟩, -⟩ := hr
          obtain rfl := g0.1 _ rfl
          clear g0
          obtain rfl := g1.1 _ rfl
          clear g1
          rw [if_pos (want_some rfl rfl rfl e1)]
          unfold Oper.wp
          go_simp
          exact hK _ _ ⟨fun _ h => Option.some.inj h, fun _ h => no_some h⟩ hS (Below.refl _ _)
        · intro a u hS hr K hK
          obtain ⟨⟨vl0, e0, g0⟩, ⟨vl1, e1, g1⟩, -⟩ := hr
          obtain rfl := g0.1 _ rfl
          clear g0
          obtain rfl := g1.1 _ rfl
          clear g1
          rw [if_pos (want_some rfl rfl rfl e1)]
          unfold Oper.wp
          go_simp
          exact hK _ _ ⟨fun _ h => Option.some.inj h, fun _ h => no_some h⟩ hS (Below.refl _ _)
        · intro a u hS hr K hK
          obtain ⟨⟨vl0, e0, g0⟩, ⟨vl1, e1, g1⟩, ⟨vl2, e2, g2⟩, -⟩ := hr
          obtain rfl := g0.1 _ rfl
          clear g0
          obtain rfl := g1.1 _ rfl
          clear g1
          obtain rfl := g2.1 _ rfl
          clear g2
          rw [if_pos (want_some rfl rfl rfl e2)]
          unfold Oper.wp
          go_simp
          exact hK _ _ ⟨fun _ h => Option.some.inj h, fun _ h => no_some h⟩ hS (Below.refl _ _)
        · intro a u hS hr K hK
          obtain ⟨⟨vl0, e0, g0⟩, ⟨vl1, e1, g1⟩, -⟩ := hr
          obtain rfl := g0.1 _ rfl
          clear g0
          obtain rfl := g1.1 _ rfl
          clear g1
          rw [if_pos (want_none rfl)]
          unfold Oper.wp
          go_simp
          exact hK _ _ ⟨fun _ h => Option.some.inj h, fun _ h => no_some h⟩ hS (Below.refl _ _)
        · intro a u hS hr K hK
          obtain ⟨⟨vl0, e0, g0⟩, -⟩ := hr
          obtain rfl := g0.1 _ rfl
          clear g0
          rw [if_pos (want_none rfl)]
          unfold Oper.wp
          go_simp
          exact hK _ _ ⟨fun _ h => Option.some.inj h, fun _ h => no_some h⟩ hS (Below.refl _ _)
        · intro a u hS hr K hK
          obtain ⟨⟨vl0, e0, g0⟩, ⟨vl1, e1, g1⟩, -⟩ := hr
          obtain rfl := g0.1 _ rfl
          clear g0
          obtain rfl := g1.1 _ rfl
          clear g1
          rw [if_pos (want_some rfl rfl rfl e1)]
          unfold Oper.wp
          go_simp
          exact hK _ _ ⟨fun _ h => Option.some.inj h, fun _ h => no_some h⟩ hS (Below.refl _ _)
        · intro a u hS hr K hK
          obtain ⟨⟨vl0, e0, g0⟩, ⟨vl1, e1, g1⟩, -⟩ := hr
          obtain rfl := g0.1 _ rfl
          clear g0
          obtain rfl := g1.1 _ rfl
          clear g1
          rw [if_pos (want_some rfl rfl rfl e1)]
          unfold Oper.wp
          go_simp
          refine (pbyte_t x hx255 u).mono ?_
          rintro e u1 ⟨rfl, hb⟩
          exact hK _ _ ⟨fun _ h => Option.some.inj h, fun _ h => no_some h⟩ (hS.below hb) hb
        · intro a u hS hr K hK
          obtain ⟨⟨vl0, e0, g0⟩, ⟨vl1, e1, g1⟩, -⟩ := hr
          obtain rfl := g0.1 _ rfl
          clear g0
          obtain rfl := g1.1 _ rfl
          clear g1
          rw [if_pos (want_some rfl rfl rfl e1)]
          unfold Oper.wp
          go_simp
          exact hK _ _ ⟨fun _ h => Option.some.inj h, fun _ h => no_some h⟩ hS (Below.refl _ _)
        · intro a u hS hr K hK
          obtain ⟨⟨vl0, e0, g0⟩, ⟨vl1, e1, g1⟩, -⟩ := hr
          obtain rfl := g0.1 _ rfl
          clear g0
          obtain rfl := g1.1 _ rfl
          clear g1
          rw [if_pos (want_some rfl rfl rfl e1)]
          unfold Oper.wp
          go_simp
          refine (rbyte_t x hx255 u).mono ?_
          rintro e u1 ⟨rfl, hb⟩
          exact hK _ _ ⟨fun _ h => Option.some.inj h, fun _ h => no_some h⟩ (hS.below hb) hb
        · intro a u hS hr K hK
          obtain ⟨⟨vl0, e0, g0⟩, ⟨vl1, e1, g1⟩, ⟨vl2, e2, g2⟩, -⟩ := hr
          obtain rfl := g0.1 _ rfl
          clear g0
          obtain rfl := g1.1 _ rfl
          clear g1
          obtain rfl := g2.1 _ rfl
          clear g2
          rw [if_pos (want_some rfl rfl rfl e2)]
          unfold Oper.wp
          go_simp
          exact hK _ _ ⟨fun _ h => Option.some.inj h, fun _ h => no_some h⟩ hS (Below.refl _ _)
        · intro a u hS hr K hK
          obtain ⟨⟨vl0, e0, g0⟩, ⟨vl1, e1, g1⟩, -⟩ := hr
          obtain rfl := g0.1 _ rfl
          clear g0
          obtain rfl := g1.1 _ rfl
          clear g1
          rw [if_pos (want_none rfl)]
          unfold Oper.wp
          go_simp
          exact hK _ _ ⟨fun _ h => Option.some.inj h, fun _ h => no_some h⟩ hS (Below.refl _ _)
        · intro a u hS hr K hK
          obtain ⟨⟨vl0, e0, g0⟩, -⟩ := hr
          obtain rfl := g0.1 _ rfl
          clear g0
          rw [if_pos (want_none rfl)]
          unfold Oper.wp
          go_simp
          exact hK _ _ ⟨fun _ h => Option.some.inj h, fun _ h => no_some h⟩ hS (Below.refl _ _)
        · intro a u hS hr K hK
          obtain ⟨⟨vl0, e0, g0⟩, ⟨vl1, e1, g1⟩, -⟩ := hr
          obtain rfl := g0.1 _ rfl
          clear g0
          obtain rfl := g1.1 _ rfl
          clear g1
          rw [if_pos (want_some rfl rfl rfl e1)]
          obtain ⟨r0, r1, r2, r3⟩ := hS.box.cells
          unfold Oper.wp
          go_simp
          exact hK _ _ ⟨fun _ h => Option.some.inj h, fun _ h => no_some h⟩ hS (Below.refl _ _)
        · intro a u hS hr K hK
          obtain ⟨⟨vl0, e0, g0⟩, ⟨vl1, e1, g1⟩, -⟩ := hr
          obtain rfl := g0.1 _ rfl
          clear g0
          obtain rfl := g1.1 _ rfl
          clear g1
          rw [if_pos (want_some rfl rfl rfl e1)]
          unfold Oper.wp
          go_simp
          refine (pset_t p u).mono ?_
          rintro e u1 ⟨rfl, hb⟩
          exact hK _ _ ⟨fun _ h => Option.some.inj h, fun _ h => no_some h⟩ (hS.below hb) hb
        · intro a u hS hr K hK
          obtain ⟨⟨vl0, e0, g0⟩, ⟨vl1, e1, g1⟩, -⟩ := hr
          obtain rfl := g0.1 _ rfl
          clear g0
          obtain rfl := g1.1 _ rfl
          clear g1
          rw [if_pos (want_some rfl rfl rfl e1)]
          obtain ⟨r0, r1, r2, r3⟩ := hS.box.cells
          unfold Oper.wp
          go_simp
          exact hK _ _ ⟨fun _ h => Option.some.inj h, fun _ h => no_some h⟩ hS (Below.refl _ _)
        · intro a u hS hr K hK
          obtain ⟨⟨vl0, e0, g0⟩, ⟨vl1, e1, g1⟩, -⟩ := hr
          obtain rfl := g0.1 _ rfl
          clear g0
          obtain rfl := g1.1 _ rfl
          clear g1
          rw [if_pos (want_some rfl rfl rfl e1)]
          unfold Oper.wp
          go_simp
          refine (rset_t p u).mono ?_
          rintro e u1 ⟨rfl, hb⟩
          exact hK _ _ ⟨fun _ h => Option.some.inj h, fun _ h => no_some h⟩ (hS.below hb) hb
        · intro a u hS hr K hK
          obtain ⟨⟨vl0, e0, g0⟩, ⟨vl1, e1, g1⟩, ⟨vl2, e2, g2⟩, -⟩ := hr
          obtain rfl := g0.1 _ rfl
          clear g0
          obtain rfl := g1.1 _ rfl
          clear g1
          obtain rfl := g2.1 _ rfl
          clear g2
          rw [if_pos (want_some rfl rfl rfl e2)]
          unfold Oper.wp
          go_simp
          exact hK _ _ ⟨fun _ h => Option.some.inj h, fun _ h => no_some h⟩ hS (Below.refl _ _)
        · intro a u hS hr K hK
          obtain ⟨⟨vl0, e0, g0⟩, ⟨vl1, e1, g1⟩, -⟩ := hr
          obtain rfl := g0.1 _ rfl
          clear g0
          obtain rfl := g1.1 _ rfl
          clear g1
          rw [if_pos (want_none rfl)]
          unfold Oper.wp
          go_simp
          exact hK _ _ ⟨fun _ h => Option.some.inj h, fun _ h => no_some h⟩ hS (Below.refl _ _)
        · intro a u hS hr K hK
          obtain ⟨⟨vl0, e0, g0⟩, -⟩ := hr
          obtain rfl := g0.1 _ rfl
          clear g0
          rw [if_pos (want_none rfl)]
          unfold Oper.wp
          go_simp
          exact hK _ _ ⟨fun _ h => Option.some.inj h, fun _ h => no_some h⟩ hS (Below.refl _ _)
      intro a u hS hts hd hkn hf
      obtain ⟨v6, e6, g6⟩ := hf 25 _ 6 rfl rfl
      obtain rfl := g6.1 _ rfl
      have HEND := hidd (D3.out.trans (hS.bel.mono D3.out.size))
      clear hf hkn
      simp only [Exit.then]
      apply_assumption
      refine wp_ret ?_
      exact ret_slot Tryd.results4 e6 hd ⟨rfl, HEND.out⟩
  · have hkn : k = 1100 := by omega
    subst hkn
    have hmi : min (n : Int) 1100 = 1100 := by omega
    have hmd : decide ((1100 : Int) < (n : Int)) = true := decide_eq_true (by omega)
    have hnc : (1100 : Int) ≤ (c : Int) := by omega
    clear h hk
    have b0 := (Below.refl w.heap.size w).alloc (Nat.le_refl _) (.cells (#[.int .u64 (W (p) 0), .int .u64 (W (p) 1), .int .u64 (W (p) 2), .int .u64 (W (p) 3)]) 28)
    have R0 := Row4.new w p
    go_enter Tryd.func4, Tryd.ntmps4
    go_wp2_with fail
    generalize w.alloc (.cells (#[.int .u64 (W (p) 0), .int .u64 (W (p) 1), .int .u64 (W (p) 2), .int .u64 (W (p) 3)]) 28) = w0 at *
    refine (HR1.out w0 b0).mono ?_
    rintro e w2 ⟨h1, b2⟩
    have D2 := b0.trans (b2.mono b0.size)
    have R2 := R0.below b2 R0.lt
    have hr2 := HR2.out w2 D2
    have HD2 := hidd D2
    have HR2b := hidd R2
    rcases h1 with ⟨ns, hrn, rfl⟩ | ⟨hnr, rfl⟩
    · have hr3 := hr2.mono fun _ _ h => rt_right hrn h
      generalize txt (treeT ns) = s at *
      clear hr2 hrn b2 D2 R2 R0 b0 HR1 HR2
      go_wp2_with fail
      refine hr3.mono ?_
      rintro e w3 ⟨rfl, b3⟩
      have R3 := hidd (HR2b.out.below b3 HR2b.out.lt)
      have D3 := hidd (HD2.out.trans (b3.mono HD2.out.size))
      have htv : ∀ u, Below w3.heap.size w3 u → TV u := fun u hu => HTV.out u (D3.out.trans (hu.mono D3.out.size))
      clear hr3 b3 HR2b HD2
      go_wp2
      refine wp_region_slots (SdS w3 w.heap.size p) (TeG w.heap.size x p s true) (by kernel_rfl) (by kernel_rfl) (by kernel_rfl) ?_ ⟨R3.out, bel_drew (Below.refl _ _)⟩ [1, 5, 8, 9, 10, 11] (by kernel_rfl) ?_ ?_ ?_
      · intro t v u u' h hb
        refine ⟨h.1, fun R hR => ?_⟩
        unfold TeGP at hR
        cases hR
      · intro u _
        refine ⟨⟨_, rfl, ?_⟩, ⟨_, rfl, ?_⟩, ⟨_, rfl, ?_⟩, ⟨_, rfl, ?_⟩, ⟨_, rfl, ?_⟩, ⟨_, rfl, ?_⟩, trivial⟩ <;> exact ⟨fun _ h => Option.some.inj h, fun _ h => no_some h⟩
      · refine ⟨?_, ?_, ?_, ?_, ?_, ?_, ?_, ?_, ?_, ?_, ?_, ?_, ?_, ?_, ?_, ?_, ?_, ?_, ?_, ?_, ?_, ?_, ?_, ?_, ?_, ?_, trivial⟩
        · intro a u hS hr K hK
          rw [if_pos (want_none rfl)]
          unfold Oper.wp
          go_simp
          refine (shown5_any u (htv u hS.bel)).mono ?_
          rintro e u1 ⟨rfl, hb⟩
          exact hK _ _ ⟨fun _ h => Option.some.inj h, fun _ h => no_some h⟩ (hS.below hb) hb
        · intro a u hS hr K hK
          obtain ⟨⟨vl0, e0, g0⟩, -⟩ := hr
          obtain rfl := g0.1 _ rfl
          clear g0
          rw [if_pos (want_none rfl)]
          unfold Oper.wp
          go_simp
          exact hK _ _ ⟨fun _ h => Option.some.inj h, fun _ h => no_some h⟩ hS (Below.refl _ _)
        · intro a u hS hr K hK
          obtain ⟨⟨vl0, e0, g0⟩, ⟨vl1, e1, g1⟩, -⟩ := hr
          obtain rfl := g0.1 _ rfl
          clear g0
          obtain rfl := g1.1 _ rfl
          clear g1
          rw [if_pos (want_some rfl rfl rfl e1)]
          unfold Oper.wp
          go_simp
          exact hK _ _ ⟨fun _ h => Option.some.inj h, fun _ h => no_some h⟩ hS (Below.refl _ _)
        · intro a u hS hr K hK
          obtain ⟨⟨vl0, e0, g0⟩, ⟨vl1, e1, g1⟩, -⟩ := hr
          obtain rfl := g0.1 _ rfl
          clear g0
          obtain rfl := g1.1 _ rfl
          clear g1
          rw [if_pos (want_some rfl rfl rfl e1)]
          unfold Oper.wp
          go_simp
          exact hK _ _ ⟨fun _ h => Option.some.inj h, fun _ h => no_some h⟩ hS (Below.refl _ _)
        · intro a u hS hr K hK
          obtain ⟨⟨vl0, e0, g0⟩, ⟨vl1, e1, g1⟩, ⟨vl2, e2, g2⟩, -⟩ := hr
          obtain rfl := g0.1 _ rfl
          clear g0
          obtain rfl := g1.1 _ rfl
          clear g1
          obtain rfl := g2.1 _ rfl
          clear g2
          rw [if_pos (want_some rfl rfl rfl e2)]
          unfold Oper.wp
          go_simp
          exact hK _ _ ⟨fun _ h => Option.some.inj h, fun _ h => no_some h⟩ hS (Below.refl _ _)
        · intro a u hS hr K hK
          obtain ⟨⟨vl0, e0, g0⟩, ⟨vl1, e1, g1⟩, -⟩ := hr
          obtain rfl := g0.1 _ rfl
          clear g0
          obtain rfl := g1.1 _ rfl
          clear g1
          rw [if_pos (want_none rfl)]
          unfold Oper.wp
          go_simp
          exact hK _ _ ⟨fun _ h => Option.some.inj h, fun _ h => no_some h⟩ hS (Below.refl _ _)
        · intro a u hS hr K hK
          obtain ⟨⟨vl0, e0, g0⟩, -⟩ := hr
          obtain rfl := g0.1 _ rfl
          clear g0
          rw [if_pos (want_none rfl)]
          unfold Oper.wp
          go_simp
          exact hK _ _ ⟨fun _ h => Option.some.inj h, fun _ h => no_some h⟩ hS (Below.refl _ _)
        · intro a u hS hr K hK
          obtain ⟨⟨vl0, e0, g0⟩, ⟨vl1, e1, g1⟩, -⟩ := hr
          obtain rfl := g0.1 _ rfl
          clear g0
          obtain rfl := g1.1 _ rfl
          clear g1
          rw [if_pos (want_some rfl rfl rfl e1)]
          unfold Oper.wp
          go_simp
          exact hK _ _ ⟨fun _ h => Option.some.inj h, fun _ h => no_some h⟩ hS (Below.refl _ _)
        · intro a u hS hr K hK
          obtain ⟨⟨vl0, e0, g0⟩, ⟨vl1, e1, g1⟩, -⟩ := hr
          obtain rfl := g0.1 _ rfl
          clear g0
          obtain rfl := g1.1 _ rfl
          clear g1
          rw [if_pos (want_some rfl rfl rfl e1)]
          unfold Oper.wp
          go_simp
          exact hK _ _ ⟨fun _ h => Option.some.inj h, fun _ h => no_some h⟩ hS (Below.refl _ _)
        · intro a u hS hr K hK
          obtain ⟨⟨vl0, e0, g0⟩, ⟨vl1, e1, g1⟩, ⟨vl2, e2, g2⟩, -⟩ := hr
          obtain rfl := g0.1 _ rfl
          clear g0
          obtain rfl := g1.1 _ rfl
          clear g1
          obtain rfl := g2.1 _ rfl
          clear g2
          rw [if_pos (want_some rfl rfl rfl e2)]
          unfold Oper.wp
          go_simp
          exact hK _ _ ⟨fun _ h => Option.some.inj h, fun _ h => no_some h⟩ hS (Below.refl _ _)
        · intro a u hS hr K hK
          obtain ⟨⟨vl0, e0, g0⟩, ⟨vl1, e1, g1⟩, -⟩ := hr
          obtain rfl := g0.1 _ rfl
          clear g0
          obtain rfl := g1.1 _ rfl
          clear g1
          rw [if_pos (want_none rfl)]
          unfold Oper.wp
          go_simp
          exact hK _ _ ⟨fun _ h => Option.some.inj h, fun _ h => no_some h⟩ hS (Below.refl _ _)
        · intro a u hS hr K hK
          obtain ⟨⟨vl0, e0, g0⟩, -⟩ := hr
          obtain rfl := g0.1 _ rfl
          clear g0
          rw [if_pos (want_none rfl)]
          unfold Oper.wp
          go_simp
          exact hK _ _ ⟨fun _ h => Option.some.inj h, fun _ h => no_some h⟩ hS (Below.refl _ _)
        · intro a u hS hr K hK
          obtain ⟨⟨vl0, e0, g0⟩, ⟨vl1, e1, g1⟩, -⟩ := hr
          obtain rfl := g0.1 _ rfl
          clear g0
          obtain rfl := g1.1 _ rfl
          clear g1
          rw [if_pos (want_some rfl rfl rfl e1)]
          unfold Oper.wp
          go_simp
          exact hK _ _ ⟨fun _ h => Option.some.inj h, fun _ h => no_some h⟩ hS (Below.refl _ _)
        · intro a u hS hr K hK
          obtain ⟨⟨vl0, e0, g0⟩, ⟨vl1, e1, g1⟩, -⟩ := hr
          obtain rfl := g0.1 _ rfl
          clear g0
          obtain rfl := g1.1 _ rfl
          clear g1
          rw [if_pos (want_some rfl rfl rfl e1)]
          unfold Oper.wp
          go_simp
          refine (pbyte_t x hx255 u).mono ?_
          rintro e u1 ⟨rfl, hb⟩
          exact hK _ _ ⟨fun _ h => Option.some.inj h, fun _ h => no_some h⟩ (hS.below hb) hb
        · intro a u hS hr K hK
          obtain ⟨⟨vl0, e0, g0⟩, ⟨vl1, e1, g1⟩, -⟩ := hr
          obtain rfl := g0.1 _ rfl
          clear g0
          obtain rfl := g1.1 _ rfl
          clear g1
          rw [if_pos (want_some rfl rfl rfl e1)]
          unfold Oper.wp
          go_simp
          exact hK _ _ ⟨fun _ h => Option.some.inj h, fun _ h => no_some h⟩ hS (Below.refl _ _)
        · intro a u hS hr K hK
          obtain ⟨⟨vl0, e0, g0⟩, ⟨vl1, e1, g1⟩, -⟩ := hr
          obtain rfl := g0.1 _ rfl
          clear g0
          obtain rfl := g1.1 _ rfl
          clear g1
          rw [if_pos (want_some rfl rfl rfl e1)]
          unfold Oper.wp
          go_simp
          refine (rbyte_t x hx255 u).mono ?_
          rintro e u1 ⟨rfl, hb⟩
          exact hK _ _ ⟨fun _ h => Option.some.inj h, fun _ h => no_some h⟩ (hS.below hb) hb
        · intro a u hS hr K hK
          obtain ⟨⟨vl0, e0, g0⟩, ⟨vl1, e1, g1⟩, ⟨vl2, e2, g2⟩, -⟩ := hr
          obtain rfl := g0.1 _ rfl
          clear g0
          obtain rfl := g1.1 _ rfl
          clear g1
          obtain rfl := g2.1 _ rfl
          clear g2
          rw [if_pos (want_some rfl rfl rfl e2)]
          unfold Oper.wp
          go_simp
          exact hK _ _ ⟨fun _ h => Option.some.inj h, fun _ h => no_some h⟩ hS (Below.refl _ _)
        · intro a u hS hr K hK
          obtain ⟨⟨vl0, e0, g0⟩, ⟨vl1, e1, g1⟩, -⟩ := hr
          obtain rfl := g0.1 _ rfl
          clear g0
          obtain rfl := g1.1 _ rfl
          clear g1
          rw [if_pos (want_none rfl)]
          unfold Oper.wp
          go_simp
          exact hK _ _ ⟨fun _ h => Option.some.inj h, fun _ h => no_some h⟩ hS (Below.refl _ _)
        · intro a u hS hr K hK
          obtain ⟨⟨vl0, e0, g0⟩, -⟩ := hr
          obtain rfl := g0.1 _ rfl
          clear g0
          rw [if_pos (want_none rfl)]
          unfold Oper.wp
          go_simp
          exact hK _ _ ⟨fun _ h => Option.some.inj h, fun _ h => no_some h⟩ hS (Below.refl _ _)
        · intro a u hS hr K hK
          obtain ⟨⟨vl0, e0, g0⟩, ⟨vl1, e1, g1⟩, -⟩ := hr
          obtain rfl := g0.1 _ rfl
          clear g0
          obtain rfl := g1.1 _ rfl
          clear g1
          rw [if_pos (want_some rfl rfl rfl e1)]
          obtain ⟨r0, r1, r2, r3⟩ := hS.box.cells
          unfold Oper.wp
          go_simp
          exact hK _ _ ⟨fun _ h => Option.some.inj h, fun _ h => no_some h⟩ hS (Below.refl _ _)
        · intro a u hS hr K hK
          obtain ⟨⟨vl0, e0, g0⟩, ⟨vl1, e1, g1⟩, -⟩ := hr
          obtain rfl := g0.1 _ rfl
          clear g0
          obtain rfl := g1.1 _ rfl
          clear g1
          rw [if_pos (want_some rfl rfl rfl e1)]
          unfold Oper.wp
          go_simp
          refine (pset_t p u).mono ?_
          rintro e u1 ⟨rfl, hb⟩
          exact hK _ _ ⟨fun _ h => Option.some.inj h, fun _ h => no_some h⟩ (hS.below hb) hb
        · intro a u hS hr K hK
          obtain ⟨⟨vl0, e0, g0⟩, ⟨vl1, e1, g1⟩, -⟩ := hr
          obtain rfl := g0.1 _ rfl
          clear g0
          obtain rfl := g1.1 _ rfl
          clear g1
          rw [if_pos (want_some rfl rfl rfl e1)]
          obtain ⟨r0, r1, r2, r3⟩ := hS.box.cells
          unfold Oper.wp
          go_simp
          exact hK _ _ ⟨fun _ h => Option.some.inj h, fun _ h => no_some h⟩ hS (Below.refl _ _)
        · intro a u hS hr K hK
          obtain ⟨⟨vl0, e0, g0⟩, ⟨vl1, e1, g1⟩, -⟩ := hr
          obtain rfl := g0.1 _ rfl
          clear g0
          obtain rfl := g1.1 _ rfl
          clear g1
          rw [if_pos (want_some rfl rfl rfl e1)]
          unfold Oper.wp
          go_simp
          refine (rset_t p u).mono ?_
          rintro e u1 ⟨rfl, hb⟩
          exact hK _ _ ⟨fun _ h => Option.some.inj h, fun _ h => no_some h⟩ (hS.below hb) hb
        · intro a u hS hr K hK
          obtain ⟨⟨vl0, e0, g0⟩, ⟨vl1, e1, g1⟩, ⟨vl2, e2, g2⟩, -⟩ := hr
          obtain rfl := g0.1 _ rfl
          clear g0
          obtain rfl := g1.1 _ rfl
          clear g1
          obtain rfl := g2.1 _ rfl
          clear g2
          rw [if_pos (want_some rfl rfl rfl e2)]
          unfold Oper.wp
          go_simp
          exact hK _ _ ⟨fun _ h => Option.some.inj h, fun _ h => no_some h⟩ hS (Below.refl _ _)
        · intro a u hS hr K hK
          obtain ⟨⟨vl0, e0, g0⟩, ⟨vl1, e1, g1⟩, -⟩ := hr
          obtain rfl := g0.1 _ rfl
          clear g0
          obtain rfl := g1.1 _ rfl
          clear g1
          rw [if_pos (want_none rfl)]
          unfold Oper.wp
          go_simp
          exact hK _ _ ⟨fun _ h => Option.some.inj h, fun _ h => no_some h⟩ hS (Below.refl _ _)
        · intro a u hS hr K hK
          obtain ⟨⟨vl0, e0, g0⟩, -⟩ := hr
          obtain rfl := g0.1 _ rfl
          clear g0
          rw [if_pos (want_none rfl)]
          unfold Oper.wp
          go_simp
          exact hK _ _ ⟨fun _ h => Option.some.inj h, fun _ h => no_some h⟩ hS (Below.refl _ _)
      intro a u hS hts hd hkn hf
      obtain ⟨v6, e6, g6⟩ := hf 25 _ 6 rfl rfl
      obtain rfl := g6.1 _ rfl
      have HEND := hidd (D3.out.trans (hS.bel.mono D3.out.size))
      clear hf hkn
      simp only [Exit.then]
      apply_assumption
      refine wp_ret ?_
      exact ret_slot Tryd.results4 e6 hd ⟨rfl, HEND.out⟩
    · have hr3 := hr2.mono fun _ _ h => rt_not hnr h
      clear hr2 hnr b2 D2 R2 R0 b0 HR1 HR2
      go_wp2_with fail
      refine hr3.mono ?_
      rintro e w3 ⟨rfl, b3⟩
      have R3 := hidd (HR2b.out.below b3 HR2b.out.lt)
      have D3 := hidd (HD2.out.trans (b3.mono HD2.out.size))
      have htv : ∀ u, Below w3.heap.size w3 u → TV u := fun u hu => HTV.out u (D3.out.trans (hu.mono D3.out.size))
      clear hr3 b3 HR2b HD2
      go_wp2
      refine wp_region_slots (SdS w3 w.heap.size p) (TeG w.heap.size x p { data := #[] } false) (by kernel_rfl) (by kernel_rfl) (by kernel_rfl) ?_ ⟨R3.out, bel_drew (Below.refl _ _)⟩ [1, 5, 8, 9, 10, 11] (by kernel_rfl) ?_ ?_ ?_
      · intro t v u u' h hb
        refine ⟨h.1, fun R hR => ?_⟩
        unfold TeGP at hR
        cases hR
      · intro u _
        refine ⟨⟨_, rfl, ?_⟩, ⟨_, rfl, ?_⟩, ⟨_, rfl, ?_⟩, ⟨_, rfl, ?_⟩, ⟨_, rfl, ?_⟩, ⟨_, rfl, ?_⟩, trivial⟩ <;> exact ⟨fun _ h => Option.some.inj h, fun _ h => no_some h⟩
      · refine ⟨?_, ?_, ?_, ?_, ?_, ?_, ?_, ?_, ?_, ?_, ?_, ?_, ?_, ?_, ?_, ?_, ?_, ?_, ?_, ?_, ?_, ?_, ?_, ?_, ?_, ?_, trivial⟩
        · intro a u hS hr K hK
          rw [if_pos (want_none rfl)]
          unfold Oper.wp
          go_simp
          refine (shown5_any u (htv u hS.bel)).mono ?_
          rintro e u1 ⟨rfl, hb⟩
          exact hK _ _ ⟨fun _ h => Option.some.inj h, fun _ h => no_some h⟩ (hS.below hb) hb
        · intro a u hS hr K hK
          obtain ⟨⟨vl0, e0, g0⟩, -⟩ := hr
          obtain rfl := g0.1 _ rfl
          clear g0
          rw [if_pos (want_none rfl)]
          unfold Oper.wp
          go_simp
          exact hK _ _ ⟨fun _ h => Option.some.inj h, fun _ h => no_some h⟩ hS (Below.refl _ _)
        · intro a u hS hr K hK
          obtain ⟨⟨vl0, e0, g0⟩, ⟨vl1, e1, g1⟩, -⟩ := hr
          obtain rfl := g0.1 _ rfl
          clear g0
          obtain rfl := g1.1 _ rfl
          clear g1
          rw [if_pos (want_some rfl rfl rfl e1)]
          unfold Oper.wp
          go_simp
          exact hK _ _ ⟨fun _ h => Option.some.inj h, fun _ h => no_some h⟩ hS (Below.refl _ _)
        · intro a u hS hr K hK
          obtain ⟨⟨vl0, e0, g0⟩, ⟨vl1, e1, g1⟩, -⟩ := hr
          obtain rfl := g0.1 _ rfl
          clear g0
          obtain rfl := g1.1 _ rfl
          clear g1
          rw [if_pos (want_some rfl rfl rfl e1)]
          unfold Oper.wp
          go_simp
          exact hK _ _ ⟨fun _ h => Option.some.inj h, fun _ h => no_some h⟩ hS (Below.refl _ _)
        · intro a u hS hr K hK
          obtain ⟨⟨vl0, e0, g0⟩, ⟨vl1, e1, g1⟩, ⟨vl2, e2, g2⟩, -⟩ := hr
          obtain rfl := g0.1 _ rfl
          clear g0
          obtain rfl := g1.1 _ rfl
          clear g1
          obtain rfl := g2.1 _ rfl
          clear g2
          rw [if_pos (want_some rfl rfl rfl e2)]
          unfold Oper.wp
          go_simp
          exact hK _ _ ⟨fun _ h => Option.some.inj h, fun _ h => no_some h⟩ hS (Below.refl _ _)
        · intro a u hS hr K hK
          obtain ⟨⟨vl0, e0, g0⟩, ⟨vl1, e1, g1⟩, -⟩ := hr
          obtain rfl := g0.1 _ rfl
          clear g0
          obtain rfl := g1.1 _ rfl
          clear g1
          rw [if_pos (want_none rfl)]
          unfold Oper.wp
          go_simp
          exact hK _ _ ⟨fun _ h => Option.some.inj h, fun _ h => no_some h⟩ hS (Below.refl _ _)
        · intro a u hS hr K hK
          obtain ⟨⟨vl0, e0, g0⟩, -⟩ := hr
          obtain rfl := g0.1 _ rfl
          clear g0
          rw [if_pos (want_none rfl)]
          unfold Oper.wp
          go_simp
          exact hK _ _ ⟨fun _ h => Option.some.inj h, fun _ h => no_some h⟩ hS (Below.refl _ _)
        · intro a u hS hr K hK
          obtain ⟨⟨vl0, e0, g0⟩, ⟨vl1, e1, g1⟩, -⟩ := hr
          obtain rfl := g0.1 _ rfl
          clear g0
          obtain rfl := g1.1 _ rfl
          clear g1
          rw [if_pos (want_some rfl rfl rfl e1)]
          unfold Oper.wp
          go_simp
          exact hK _ _ ⟨fun _ h => Option.some.inj h, fun _ h => no_some h⟩ hS (Below.refl _ _)
        · intro a u hS hr K hK
          obtain ⟨⟨vl0, e0, g0⟩, ⟨vl1, e1, g1⟩, -⟩ := hr
          obtain rfl := g0.1 _ rfl
          clear g0
          obtain rfl := g1.1 _ rfl
          clear g1
          rw [if_pos (want_some rfl rfl rfl e1)]
          unfold Oper.wp
          go_simp
          exact hK _ _ ⟨fun _ h => Option.some.inj h, fun _ h => no_some h⟩ hS (Below.refl _ _)
        · intro a u hS hr K hK
          obtain ⟨⟨vl0, e0, g0⟩, ⟨vl1, e1, g1⟩, ⟨vl2, e2, g2⟩, -⟩ := hr
          obtain rfl := g0.1 _ rfl
          clear g0
          obtain rfl := g1.1 _ rfl
          clear g1
          obtain rfl := g2.1 _ rfl
          clear g2
          rw [if_pos (want_some rfl rfl rfl e2)]
          unfold Oper.wp
          go_simp
          exact hK _ _ ⟨fun _ h => Option.some.inj h, fun _ h => no_some h⟩ hS (Below.refl _ _)
        · intro a u hS hr K hK
          obtain ⟨⟨vl0, e0, g0⟩, ⟨vl1, e1, g1⟩, -⟩ := hr
          obtain rfl := g0.1 _ rfl
          clear g0
          obtain rfl := g1.1 _ rfl
          clear g1
          rw [if_pos (want_none rfl)]
          unfold Oper.wp
          go_simp
          exact hK _ _ ⟨fun _ h => Option.some.inj h, fun _ h => no_some h⟩ hS (Below.refl _ _)
        · intro a u hS hr K hK
          obtain ⟨⟨vl0, e0, g0⟩, -⟩ := hr
          obtain rfl := g0.1 _ rfl
          clear g0
          rw [if_pos (want_none rfl)]
          unfold Oper.wp
          go_simp
          exact hK _ _ ⟨fun _ h => Option.some.inj h, fun _ h => no_some h⟩ hS (Below.refl _ _)
        · intro a u hS hr K hK
          obtain ⟨⟨vl0, e0, g0⟩, ⟨vl1, e1, g1⟩, -⟩ := hr
          obtain rfl := g0.1 _ rfl
          clear g0
          obtain rfl := g1.1 _ rfl
          clear g1
          rw [if_pos (want_some rfl rfl rfl e1)]
          unfold Oper.wp
          go_simp
          exact hK _ _ ⟨fun _ h => Option.some.inj h, fun _ h => no_some h⟩ hS (Below.refl _ _)
        · intro a u hS hr K hK
          obtain ⟨⟨vl0, e0, g0⟩, ⟨vl1, e1, g1⟩, -⟩ := hr
          obtain rfl := g0.1 _ rfl
          clear g0
          obtain rfl := g1.1 _ rfl
          clear g1
          rw [if_pos (want_some rfl rfl rfl e1)]
          unfold Oper.wp
          go_simp
          refine (pbyte_t x hx255 u).mono ?_
          rintro e u1 ⟨rfl, hb⟩
          exact hK _ _ ⟨fun _ h => Option.some.inj h, fun _ h => no_some h⟩ (hS.below hb) hb
        · intro a u hS hr K hK
          obtain ⟨⟨vl0, e0, g0⟩, ⟨vl1, e1, g1⟩, -⟩ := hr
          obtain rfl := g0.1 _ rfl
          clear g0
          obtain rfl := g1.1 _ rfl
          clear g1
          rw [if_pos (want_some rfl rfl rfl e1)]
          unfold Oper.wp
          go_simp
          exact hK _ _ ⟨fun _ h => Option.some.inj h, fun _ h => no_some h⟩ hS (Below.refl _ _)
        · intro a u hS hr K hK
          obtain ⟨⟨vl0, e0, g0⟩, ⟨vl1, e1, g1⟩, -⟩ := hr
          obtain rfl := g0.1 _ rfl
          clear g0
          obtain rfl := g1.1 _ rfl
          clear g1
          rw [if_pos (want_some rfl rfl rfl e1)]
          unfold Oper.wp
          go_simp
          refine (rbyte_t x hx255 u).mono ?_
          rintro e u1 ⟨rfl, hb⟩
          exact hK _ _ ⟨fun _ h => Option.some.inj h, fun _ h => no_some h⟩ (hS.below hb) hb
        · intro a u hS hr K hK
          obtain ⟨⟨vl0, e0, g0⟩, ⟨vl1, e1, g1⟩, ⟨vl2, e2, g2⟩, -⟩ := hr
          obtain rfl := g0.1 _ rfl
          clear g0
          obtain rfl := g1.1 _ rfl
          clear g1
          obtain rfl := g2.1 _ rfl
          clear g2
          rw [if_pos (want_some rfl rfl rfl e2)]
          unfold Oper.wp
          go_simp
          exact hK _ _ ⟨fun _ h => Option.some.inj h, fun _ h => no_some h⟩ hS (Below.refl _ _)
        · intro a u hS hr K hK
          obtain ⟨⟨vl0, e0, g0⟩, ⟨vl1, e1, g1⟩, -⟩ := hr
          obtain rfl := g0.1 _ rfl
          clear g0
          obtain rfl := g1.1 _ rfl
          clear g1
          rw [if_pos (want_none rfl)]
          unfold Oper.wp
          go_simp
          exact hK _ _ ⟨fun _ h => Option.some.inj h, fun _ h => no_some h⟩ hS (Below.refl _ _)
        · intro a u hS hr K hK
          obtain ⟨⟨vl0, e0, g0⟩, -⟩ := hr
          obtain rfl := g0.1 _ rfl
          clear g0
          rw [if_pos (want_none rfl)]
          unfold Oper.wp
          go_simp
          exact hK _ _ ⟨fun _ h => Option.some.inj h, fun _ h => no_some h⟩ hS (Below.refl _ _)
        · intro a u hS hr K hK
          obtain ⟨⟨vl0, e0, g0⟩, ⟨vl1, e1, g1⟩, -⟩ := hr
          obtain rfl := g0.1 _ rfl
          clear g0
          obtain rfl := g1.1 _ rfl
          clear g1
          rw [if_pos (want_some rfl rfl rfl e1)]
          obtain ⟨r0, r1, r2, r3⟩ := hS.box.cells
          unfold Oper.wp
          go_simp
          exact hK _ _ ⟨fun _ h => Option.some.inj h, fun _ h => no_some h⟩ hS (Below.refl _ _)
        · intro a u hS hr K hK
          obtain ⟨⟨vl0, e0, g0⟩, ⟨vl1, e1, g1⟩, -⟩ := hr
          obtain rfl := g0.1 _ rfl
          clear g0
          obtain rfl := g1.1 _ rfl
          clear g1
          rw [if_pos (want_some rfl rfl rfl e1)]
          unfold Oper.wp
          go_simp
          refine (pset_t p u).mono ?_
          rintro e u1 ⟨rfl, hb⟩
          exact hK _ _ ⟨fun _ h => Option.some.inj h, fun _ h => no_some h⟩ (hS.below hb) hb
        · intro a u hS hr K hK
          obtain ⟨⟨vl0, e0, g0⟩, ⟨vl1, e1, g1⟩, -⟩ := hr
          obtain rfl := g0.1 _ rfl
          clear g0
          obtain rfl := g1.1 _ rfl
          clear g1
          rw [if_pos (want_some rfl rfl rfl e1)]
          obtain ⟨r0, r1, r2, r3⟩ := hS.box.cells
          unfold Oper.wp
          go_simp
          exact hK _ _ ⟨fun _ h => Option.some.inj h, fun _ h => no_some h⟩ hS (Below.refl _ _)
        · intro a u hS hr K hK
          obtain ⟨⟨vl0, e0, g0⟩, ⟨vl1, e1, g1⟩, -⟩ := hr
          obtain rfl := g0.1 _ rfl
          clear g0
          obtain rfl := g1.1 _ rfl
          clear g1
          rw [if_pos (want_some rfl rfl rfl e1)]
          unfold Oper.wp
          go_simp
          refine (rset_t p u).mono ?_
          rintro e u1 ⟨rfl, hb⟩
          exact hK _ _ ⟨fun _ h => Option.some.inj h, fun _ h => no_some h⟩ (hS.below hb) hb
        · intro a u hS hr K hK
          obtain ⟨⟨vl0, e0, g0⟩, ⟨vl1, e1, g1⟩, ⟨vl2, e2, g2⟩, -⟩ := hr
          obtain rfl := g0.1 _ rfl
          clear g0
          obtain rfl := g1.1 _ rfl
          clear g1
          obtain rfl := g2.1 _ rfl
          clear g2
          rw [if_pos (want_some rfl rfl rfl e2)]
          unfold Oper.wp
          go_simp
          exact hK _ _ ⟨fun _ h => Option.some.inj h, fun _ h => no_some h⟩ hS (Below.refl _ _)
        · intro a u hS hr K hK
          obtain ⟨⟨vl0, e0, g0⟩, ⟨vl1, e1, g1⟩, -⟩ := hr
          obtain rfl := g0.1 _ rfl
          clear g0
          obtain rfl := g1.1 _ rfl
          clear g1
          rw [if_pos (want_none rfl)]
          unfold Oper.wp
          go_simp
          exact hK _ _ ⟨fun _ h => Option.some.inj h, fun _ h => no_some h⟩ hS (Below.refl _ _)
        · intro a u hS hr K hK
          obtain ⟨⟨vl0, e0, g0⟩, -⟩ := hr
          obtain rfl := g0.1 _ rfl
          clear g0
          rw [if_pos (want_none rfl)]
          unfold Oper.wp
          go_simp
          exact hK _ _ ⟨fun _ h => Option.some.inj h, fun _ h => no_some h⟩ hS (Below.refl _ _)
      intro a u hS hts hd hkn hf
      obtain ⟨v6, e6, g6⟩ := hf 25 _ 6 rfl rfl
      obtain rfl := g6.1 _ rfl
      have HEND := hidd (D3.out.trans (hS.bel.mono D3.out.size))
      clear hf hkn
      simp only [Exit.then]
      apply_assumption
      refine wp_ret ?_
      exact ret_slot Tryd.results4 e6 hd ⟨rfl, HEND.out⟩
theorem nds_take3 {w : World} {B : Nat} {A : Option Addr} {gs : List Gd} (h : Nds w B A gs) (r : Nat) : Nds w B A (gs.take r) := fun hne => by
  obtain ⟨b, off, e, hb, ha⟩ := h (fun e => hne (by rw [e]; simp))
  refine ⟨b, off, e, hb, fun i hi => ?_⟩
  rw [List.length_take] at hi
  have := ha i (by omega)
  rw [List.getD_eq_getElem?_getD, List.getElem?_take, if_pos (by omega), ← List.getD_eq_getElem?_getD]
  exact this
theorem tells_any (A : Option Addr) (c : Nat) (gs : List Gd) (x : Int) (p : Nat → Bool) (w : World) (hT : TV w) (hx : 0 ≤ x ∧ x ≤ 255) (hN : Nds w w.heap.size A gs) (hl : gs.length ≤ c) (hc : c ≤ maxLen) (hnm : ∀ g ∈ gs, g.nm.size ≤ maxLen ∧ g.l.length ≤ maxLen) :
    Calls Tryd.prog 4 #[.slice A gs.length c, .int .u8 x, .agg #[.int .u64 (W (p) 0), .int .u64 (W (p) 1), .int .u64 (W (p) 2), .int .u64 (W (p) 3)]] w fun e w' => e = .returned (.bool true) ∧ Below w.heap.size w w' := by
  obtain ⟨x', rfl⟩ := Int.eq_ofNat_of_zero_le hx.1
  exact tells_core A c (min gs.length 1100) x' p gs (gs.take 1100) w hT (by omega) (nds_take3 hN 1100) (by rw [List.length_take]; omega) rfl hl hc (fun g hg => hnm g (List.mem_of_mem_take hg))
end Go.Proofs.YtghjkbjpdjlddaaDoor.Sy.Pn.Rp

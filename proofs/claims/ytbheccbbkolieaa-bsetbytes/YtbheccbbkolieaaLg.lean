/- The walk of BsetBytes: a set of bytes has what the row has, in whatever order and however often. -/
import Derived.Test.YtbheccbbkolieaaMb
namespace Go.Proofs.Ytbheccbbkolieaa
open Go.RowKit

theorem Bts.cut {w : World} {B : Nat} {A : Option Addr} {xs : List Int} (h : Bts w B A xs) (n : Nat) : Bts w B A (xs.take n) := by
  refine ⟨fun x hx => h.1 x (List.mem_of_mem_take hx), fun hne => ?_⟩
  obtain ⟨g, off, e, hg, hc⟩ := h.2 (fun e => hne (by subst e; simp))
  refine ⟨g, off, e, hg, fun i hi => ?_⟩
  rw [List.length_take] at hi
  rw [hc i (by omega), List.getD_eq_getElem?_getD, List.getD_eq_getElem?_getD, List.getElem?_take, if_pos (by omega)]
theorem of_n {A : Option Addr} {c n : Nat} {xs : List Int} {w : World} (hx : Bts w w.heap.size A xs) (hl : xs.length ≤ 1000000) (e : Hid (xs.length = n)) :
    Calls Try.prog 13 #[.slice A n c] w fun e w' => e = .returned (.agg #[.int .u64 (W (inB xs) 0), .int .u64 (W (inB xs) 1), .int .u64 (W (inB xs) 2), .int .u64 (W (inB xs) 3)]) ∧ Below w.heap.size w w' := by have e := e.out; subst e; exact of_any A c xs w hx hl

theorem in_snoc (x : List Int) (k : Nat) (hk : k < x.length) (b : Int) (b0 : 0 ≤ b) (hx : 0 ≤ x.getD k 0) : inB (x.take (k + 1)) b.toNat = (inB (x.take k) b.toNat || decide (x.getD k 0 = b)) := by
  have e : x.take (k + 1) = x.take k ++ [x.getD k 0] := by
    rw [List.take_add_one, List.getD_eq_getElem?_getD, List.getElem?_eq_getElem hk]; rfl
  rw [e]
  unfold inB
  rw [List.any_append]
  congr 1
  rw [Bool.eq_iff_iff]
  simp only [List.any_cons, List.any_nil, Bool.or_false, beq_iff_eq, decide_eq_true_eq]
  omega
theorem back_snoc (x : List Int) (k : Nat) (hk : k < x.length) : x.reverse.take (k + 1) = x.reverse.take k ++ [x.getD (x.length - 1 - k) 0] := by
  rw [List.take_add_one, List.getElem?_reverse hk, List.getD_eq_getElem?_getD, List.getElem?_eq_getElem (by omega)]; rfl
theorem back_same (x : List Int) (c : Nat) : inB (x.reverse ++ x) c = inB x c := by
  unfold inB; rw [List.any_append, List.any_reverse, Bool.or_self]
theorem back_more (x : List Int) (b : Int) (c : Nat) : orB (inB x) (inB [b]) c = inB (x.reverse ++ [b]) c := by
  unfold orB inB; rw [List.any_append, List.any_reverse]

def ByGV (A : Option Addr) (n c : Nat) (x : List Int) (b : Int) (bk : Value) (gs : Nat) (t : Nat) : Option Value :=
  match t with
  | 1 => some (.int .u8 b)
  | 4 => some (.bool true)
  | 5 => some (.bool true)
  | 6 => some (.slice A n c)
  | 7 => some (.bool (inB x b.toNat))
  | 8 => some (bk)
  | 10 => some (.pointer (some ⟨gs, 0, none⟩))
  | 45 => some (.bool true)
  | 46 => some (.bool true)
  | 47 => some (.agg #[.int .u64 (W (inB x) 0), .int .u64 (W (inB x) 1), .int .u64 (W (inB x) 2), .int .u64 (W (inB x) 3)])
  | 48 => some (.int .u8 b)
  | 49 => some (.bool (inB x b.toNat))
  | 50 => some (.bool (inB x b.toNat))
  | 51 => some (.bool true)
  | 52 => some (.bool true)
  | 53 => some (.bool true)
  | 54 => some (bk)
  | 55 => some (.slice A n c)
  | 57 => some (.agg #[.int .u64 (W (inB (x.reverse ++ x)) 0), .int .u64 (W (inB (x.reverse ++ x)) 1), .int .u64 (W (inB (x.reverse ++ x)) 2), .int .u64 (W (inB (x.reverse ++ x)) 3)])
  | 58 => some (.agg #[.int .u64 (W (inB x) 0), .int .u64 (W (inB x) 1), .int .u64 (W (inB x) 2), .int .u64 (W (inB x) 3)])
  | 59 => some (.bool true)
  | 60 => some (.bool true)
  | 61 => some (.bool true)
  | 62 => some (.agg #[.int .u64 (W (inB x) 0), .int .u64 (W (inB x) 1), .int .u64 (W (inB x) 2), .int .u64 (W (inB x) 3)])
  | 63 => some (.int .u8 b)
  | 65 => some (.agg #[.int .u64 (W (inB [b]) 0), .int .u64 (W (inB [b]) 1), .int .u64 (W (inB [b]) 2), .int .u64 (W (inB [b]) 3)])
  | 67 => some (.agg #[.int .u64 (W (orB (inB x) (inB [b])) 0), .int .u64 (W (orB (inB x) (inB [b])) 1), .int .u64 (W (orB (inB x) (inB [b])) 2), .int .u64 (W (orB (inB x) (inB [b])) 3)])
  | 68 => some (bk)
  | 69 => some (.int .u8 b)
  | 72 => some (.agg #[.int .u64 (W (inB (x.reverse ++ [b])) 0), .int .u64 (W (inB (x.reverse ++ [b])) 1), .int .u64 (W (inB (x.reverse ++ [b])) 2), .int .u64 (W (inB (x.reverse ++ [b])) 3)])
  | 73 => some (.bool true)
  | 74 => some (.bool true)
  | _ => none
set_option linter.unusedVariables false in
def ByGP (A : Option Addr) (n c : Nat) (x : List Int) (b : Int) (bk : Value) (gs : Nat) (t : Nat) : Option (Value → World → Prop) :=
  match t with
  | 56 => some (Byt (x.reverse ++ x))
  | 64 => some (One bk.ownBlock b)
  | 66 => some (Two bk.ownBlock (inB x) (inB [b]))
  | 70 => some (One bk.ownBlock b)
  | 71 => some (Byt (x.reverse ++ [b]))
  | _ => none
def ByG (A : Option Addr) (n c : Nat) (x : List Int) (b : Int) (bk : Value) (gs : Nat) (t : Nat) (v : Value) (u : World) : Prop := (∀ z9, ByGV A n c x b bk gs t = some z9 → v = z9) ∧ ∀ R, ByGP A n c x b bk gs t = some R → R v u

set_option maxRecDepth 100000 in
set_option maxHeartbeats 8000000 in
theorem bytes_core (A : Option Addr) (c m : Nat) (x : List Int) (b : Int) (w : World) (hX : Bts w w.heap.size A x)
    (hm : (m ≤ 300 ∧ Hid (x.length = m)) ∨ (300 < m ∧ Hid (x.length = 300)))
    (lc : m ≤ c) (mc : m ≤ maxLen) (b0 : 0 ≤ b) (b1 : b ≤ 255) :
    Calls Try.prog 9 #[.slice A m c, .int .u8 b] w fun e w' => e = .returned (.bool true) ∧ Below w.heap.size w w' := by
  unfold maxLen at mc
  have hg27 := guard27
  obtain ⟨i0, hi0, hz0, hz1, hz2⟩ := info_parts byte_info
  rcases hm with ⟨hm, EB⟩ | ⟨hm, EB⟩
  ·
    go_enter Try.func9, Try.ntmps9
    go_wp2_with fail
    refine (shown_any _).mono ?_
    rintro e w1 ⟨rfl, hb1⟩
    have hX1 : Bts w1 w.heap.size A x := hX.below hb1
    go_wp2
    go_loopw [7, 8, 19] (fun t l i wr => ∃ k : Nat, k ≤ m ∧ i = .int .i64 k ∧ t = .bool (inB (x.take k) b.toNat) ∧ wr.ownsRow w1.heap.size 5 1 l k (u8s (x.reverse.take k)) ∧ (k = 0 → l = .slice none 0 0) ∧ Below w1.heap.size w1 wr) (fun _ _ i _ => m - (intOf i).toNat)
    case atStart => exact ⟨0, Nat.zero_le _, rfl, rfl, World.ownsRow_nil _ _ _ _, fun _ => rfl, Below.refl _ _⟩
    case round =>
      obtain ⟨k, hk0, rfl, rfl, hown, hnil, hb⟩ := hrel
      by_cases hlt : k < m
      · have hkx : k < x.length := by have := EB.out; omega
        have hjx : m - 1 - k < x.length := by have := EB.out; omega
        have hXr : Bts wr w.heap.size A x := hX1.below (hb.mono hb1.size)
        obtain ⟨g, off, rfl, hg, ha⟩ := hXr.2 (fun e => by subst e; simp at hkx)
        have c1 := ha k hkx
        have c2 := ha (m - 1 - k) hjx
        have y1 : 0 ≤ x.getD k 0 := ((hXr.at_ hkx).elim fun _ h => h.elim fun _ h => h.2.2.2.1)
        have HI := hidd (in_snoc x k hkx b b0 y1)
        have HB : Hid (x.reverse.take (k + 1) = x.reverse.take k ++ [x.getD (m - 1 - k) 0]) := by have h := back_snoc x k hkx; rw [EB.out] at h; exact h
        generalize x.getD k 0 = xk at *
        generalize x.getD (m - 1 - k) 0 = xj at *
        have hj : ((m : Nat) : Int) - 1 - (k : Int) = ((m - 1 - k : Nat) : Int) := by omega
        have hsz := hb.size
        clear ha hXr
        cases hin : inB (x.take k) b.toNat with
        | true =>
          rw [hin] at HI
          go_wp2_with (at_builtin; refine wpList_append_own _ rfl (.tmp 31) (.tmp 40) 22 rfl w1.heap.size 5 i0 (.int .u8 0) 1 1 Try.underlying22 hi0 hz0 hz1 hz2 rfl (by omega) _ _ _ rfl (hown.alloc _) ⟨wr.heap.size, 0, none⟩ 1 1 [.int .u8 xj] rfl rfl (cell_one_new _ _ _) (by simp [Value.oneCell']) (by simp only [maxLen]; omega) (by omega) (by simp; omega) ?_; intro v2 w2 hown2 hg2 _)
          change (wr.alloc _).grownBy w2 u8.ownBlock at hg2
          have hlt2 := hown.lt
          refine ⟨⟨k + 1, by omega, rfl, ?_, ?_, fun h => absurd h (by omega), (hb.alloc hsz _).grown hg2 (by simp; omega) (fun j e => (hlt2 _ e).1)⟩, by simp [intOf]; omega⟩
          · rw [HI.out]; rfl
          · rw [HB.out, ← u8s_snoc]; exact hown2
        | false =>
          rw [hin] at HI
          go_wp2_with (at_builtin; refine wpList_append_own _ rfl (.tmp 31) (.tmp 40) 22 rfl w1.heap.size 5 i0 (.int .u8 0) 1 1 Try.underlying22 hi0 hz0 hz1 hz2 rfl (by omega) _ _ _ rfl (hown.alloc _) ⟨wr.heap.size, 0, none⟩ 1 1 [.int .u8 xj] rfl rfl (cell_one_new _ _ _) (by simp [Value.oneCell']) (by simp only [maxLen]; omega) (by omega) (by simp; omega) ?_; intro v2 w2 hown2 hg2 _)
          change (wr.alloc _).grownBy w2 u8.ownBlock at hg2
          have hlt2 := hown.lt
          refine ⟨⟨k + 1, by omega, rfl, ?_, ?_, fun h => absurd h (by omega), (hb.alloc hsz _).grown hg2 (by simp; omega) (fun j e => (hlt2 _ e).1)⟩, by simp [intOf]; omega⟩
          · rw [HI.out]; rfl
          · rw [HB.out, ← u8s_snoc]; exact hown2
      · have hk : x.length = k := by have := EB.out; omega
        have hl : x.length ≤ 300 := by have := EB.out; omega
        have HL1 := hidd hl
        have HL2 : Hid ((x.reverse ++ x).length ≤ 1000000) := by show (x.reverse ++ x).length ≤ 1000000; simp; omega
        have HL3 : Hid ((x.reverse ++ [b]).length ≤ 1000000) := by show (x.reverse ++ [b]).length ≤ 1000000; simp; omega
        have hkm : k = m := by omega
        rw [show x.take k = x from List.take_of_length_le (by omega)]
        have hown' : wr.ownsRow w1.heap.size 5 1 u8 x.length (u8s x.reverse) := by
          rw [List.take_of_length_le (by simp; omega)] at hown
          rw [hk]; exact hown
        have hnil' : x = [] → u8 = .slice none 0 0 := fun e => hnil (by subst e; simpa using hk.symm)
        have hb0 := hb1.trans (hb.mono hb1.size)
        have hXr : Bts wr w.heap.size A x := hX.below hb0
        have hsz := hb.size
        have hsz1 := hb1.size
        clear hown hnil hk hX1 hX hb hb1
        go_wp2_with fail
        refine (of_n (hXr.more (by omega)) (by omega) EB).mono ?_
        rintro e w3 ⟨rfl, hb3⟩
        have hsz3 := hb3.size
        have hlt := hown'.lt
        have HS : BySt w w1.heap.size w3.heap.size u8 A x (w3.alloc (.cells (#[.int .u64 (W (inB x) 0), .int .u64 (W (inB x) 1), .int .u64 (W (inB x) 2), .int .u64 (W (inB x) 3)]) 27)) :=
          ⟨(own_below hown' hb3 (Nat.le_refl _)).alloc _, (hXr.below (hb3.mono (by omega))).keep fun p hp => World.cell?_of_block (Below.heap_alloc _ _ _ (by omega)), ⟨Row4.new w3 _⟩, fun e => by have := (hlt _ e.symm).2; omega,
            (hb0.trans (hb3.mono (by omega))).alloc (by omega) _, hsz1, by simp; omega, hnil'⟩
        clear hown' hnil' hb0 hXr hb3 hlt
        go_wp2
        generalize w3.alloc (.cells (#[.int .u64 (W (inB x) 0), .int .u64 (W (inB x) 1), .int .u64 (W (inB x) 2), .int .u64 (W (inB x) 3)]) 27) = v0 at *
        generalize w3.heap.size = gs at *
        refine wp_region_slotsE oky (BySt w w1.heap.size gs u8 A x) (ByG A m c x b u8 gs) (Eby u8.ownBlock) (by kernel_rfl) (by kernel_rfl) (by kernel_rfl) (by kernel_rfl) ?_ HS.drew [1, 5, 6, 7, 8, 10] (by kernel_rfl) ?_ ?_ ?_
        · intro t d v u u' hok hS h hE
          refine ⟨h.1, fun R hR => ?_⟩
          have hh := h.2 R hR
          obtain ⟨r, hg, hr⟩ := hE.grown
          unfold ByGP at hR
          split at hR
          · cases hR; exact hh.below (hE.below (by simpa [oky] using hok))
          · cases hR; exact hh.grown hg hr
          · cases hR; exact hh.grown hg hr
          · cases hR; exact hh.grown hg hr
          · cases hR; exact hh.below (hE.below (by simpa [oky] using hok))
          · cases hR
        · intro u _
          refine ⟨⟨_, rfl, ?_⟩, ⟨_, rfl, ?_⟩, ⟨_, rfl, ?_⟩, ⟨_, rfl, ?_⟩, ⟨_, rfl, ?_⟩, ⟨_, rfl, ?_⟩, trivial⟩ <;> exact ⟨fun _ h => Option.some.inj h, fun _ h => no_some h⟩
        · refine ⟨?_, ?_, ?_, ?_, ?_, ?_, ?_, ?_, ?_, ?_, ?_, ?_, ?_, ?_, ?_, ?_, ?_, ?_, ?_, ?_, ?_, ?_, ?_, ?_, ?_, ?_, ?_, ?_, ?_, ?_, ?_, trivial⟩
          · intro a u hS hr K hK
            obtain ⟨⟨vl0, e0, g0⟩, -⟩ := hr
            obtain rfl := g0.1 _ rfl
            clear g0
            rw [if_pos (want_none rfl)]
            unfold Oper.wp
            go_simp
            exact hK _ _ ⟨fun _ h => Option.some.inj h, fun _ h => no_some h⟩ hS (eby rfl (Below.refl _ _))
          · intro a u hS hr K hK
            obtain ⟨⟨vl0, e0, g0⟩, -⟩ := hr
            obtain rfl := g0.1 _ rfl
            clear g0
            rw [if_pos (want_none rfl)]
            unfold Oper.wp
            go_simp
            exact hK _ _ ⟨fun _ h => Option.some.inj h, fun _ h => no_some h⟩ hS (eby rfl (Below.refl _ _))
          · intro a u hS hr K hK
            obtain ⟨⟨vl0, e0, g0⟩, ⟨vl1, e1, g1⟩, -⟩ := hr
            obtain rfl := g0.1 _ rfl
            clear g0
            obtain rfl := g1.1 _ rfl
            clear g1
            rw [if_pos (want_some rfl rfl rfl e1)]
            obtain ⟨a0, a1, a2, a3⟩ := hS.box.cells
            unfold Oper.wp
            go_simp
            exact hK _ _ ⟨fun _ h => Option.some.inj h, fun _ h => no_some h⟩ hS (eby rfl (Below.refl _ _))
          · intro a u hS hr K hK
            obtain ⟨⟨vl0, e0, g0⟩, ⟨vl1, e1, g1⟩, -⟩ := hr
            obtain rfl := g0.1 _ rfl
            clear g0
            obtain rfl := g1.1 _ rfl
            clear g1
            rw [if_pos (want_some rfl rfl rfl e1)]
            unfold Oper.wp
            go_simp
            exact hK _ _ ⟨fun _ h => Option.some.inj h, fun _ h => no_some h⟩ hS (eby rfl (Below.refl _ _))
          · intro a u hS hr K hK
            obtain ⟨⟨vl0, e0, g0⟩, ⟨vl1, e1, g1⟩, ⟨vl2, e2, g2⟩, -⟩ := hr
            obtain rfl := g0.1 _ rfl
            clear g0
            obtain rfl := g1.1 _ rfl
            clear g1
            obtain rfl := g2.1 _ rfl
            clear g2
            rw [if_pos (want_some rfl rfl rfl e2)]
            unfold Oper.wp
            go_simp
            refine (has_any (inB x) b _ b0 b1).mono ?_
            rintro e u1 ⟨rfl, hb⟩
            exact hK _ _ ⟨fun _ h => Option.some.inj h, fun _ h => no_some h⟩ (hS.below hb) (eby rfl hb)
          · intro a u hS hr K hK
            obtain ⟨⟨vl0, e0, g0⟩, ⟨vl1, e1, g1⟩, -⟩ := hr
            obtain rfl := g0.1 _ rfl
            clear g0
            obtain rfl := g1.1 _ rfl
            clear g1
            rw [if_pos (want_some rfl rfl rfl e1)]
            unfold Oper.wp
            go_simp
            exact hK _ _ ⟨fun _ h => Option.some.inj h, fun _ h => no_some h⟩ hS (eby rfl (Below.refl _ _))
          · intro a u hS hr K hK
            obtain ⟨⟨vl0, e0, g0⟩, ⟨vl1, e1, g1⟩, ⟨vl2, e2, g2⟩, -⟩ := hr
            obtain rfl := g0.1 _ rfl
            clear g0
            obtain rfl := g1.1 _ rfl
            clear g1
            obtain rfl := g2.1 _ rfl
            clear g2
            rw [if_pos (want_some rfl rfl rfl e2)]
            unfold Oper.wp
            go_simp
            exact hK _ _ ⟨fun _ h => Option.some.inj h, fun _ h => no_some h⟩ hS (eby rfl (Below.refl _ _))
          · intro a u hS hr K hK
            obtain ⟨⟨vl0, e0, g0⟩, ⟨vl1, e1, g1⟩, -⟩ := hr
            obtain rfl := g0.1 _ rfl
            clear g0
            obtain rfl := g1.1 _ rfl
            clear g1
            rw [if_pos (want_none rfl)]
            unfold Oper.wp
            go_simp
            exact hK _ _ ⟨fun _ h => Option.some.inj h, fun _ h => no_some h⟩ hS (eby rfl (Below.refl _ _))
          · intro a u hS hr K hK
            obtain ⟨⟨vl0, e0, g0⟩, -⟩ := hr
            obtain rfl := g0.1 _ rfl
            clear g0
            rw [if_pos (want_none rfl)]
            unfold Oper.wp
            go_simp
            exact hK _ _ ⟨fun _ h => Option.some.inj h, fun _ h => no_some h⟩ hS (eby rfl (Below.refl _ _))
          · intro a u hS hr K hK
            obtain ⟨⟨vl0, e0, g0⟩, ⟨vl1, e1, g1⟩, -⟩ := hr
            obtain rfl := g0.1 _ rfl
            clear g0
            obtain rfl := g1.1 _ rfl
            clear g1
            rw [if_pos (want_some rfl rfl rfl e1)]
            unfold Oper.wp
            go_simp
            exact hK _ _ ⟨fun _ h => Option.some.inj h, fun _ h => no_some h⟩ hS (eby rfl (Below.refl _ _))
          · intro a u hS hr K hK
            obtain ⟨⟨vl0, e0, g0⟩, ⟨vl1, e1, g1⟩, -⟩ := hr
            obtain rfl := g0.1 _ rfl
            clear g0
            obtain rfl := g1.1 _ rfl
            clear g1
            rw [if_pos (want_some rfl rfl rfl e1)]
            unfold Oper.wp
            go_simp
            exact hK _ _ ⟨fun _ h => Option.some.inj h, fun _ h => no_some h⟩ hS (eby rfl (Below.refl _ _))
          · intro a u hS hr K hK
            obtain ⟨⟨vl0, e0, g0⟩, ⟨vl1, e1, g1⟩, ⟨vl2, e2, g2⟩, -⟩ := hr
            obtain rfl := g0.1 _ rfl
            clear g0
            obtain rfl := g1.1 _ rfl
            clear g1
            obtain rfl := g2.1 _ rfl
            clear g2
            rw [if_pos (want_some rfl rfl rfl e2)]
            exact wp_app_row 54 55 _ _ rfl hS e0 e1 EB (by omega) fun v1 u1 h1 h2 h3 => hK _ _ ⟨fun _ h => no_some h, fun _ h => spec_ok h h1⟩ h2 (ebw rfl h3)
          · intro a u hS hr K hK
            obtain ⟨⟨vl0, e0, g0⟩, ⟨vl1, e1, g1⟩, -⟩ := hr
            replace g0 := g0.2 _ rfl
            obtain rfl := g1.1 _ rfl
            clear g1
            rw [if_pos (want_some rfl rfl rfl e1)]
            unfold Oper.wp
            go_simp
            refine (of_byt g0 HL2.out).mono ?_
            rintro e u1 ⟨rfl, hb⟩
            exact hK _ _ ⟨fun _ h => Option.some.inj h, fun _ h => no_some h⟩ (hS.below hb) (eby rfl hb)
          · intro a u hS hr K hK
            obtain ⟨⟨vl0, e0, g0⟩, ⟨vl1, e1, g1⟩, -⟩ := hr
            obtain rfl := g0.1 _ rfl
            clear g0
            obtain rfl := g1.1 _ rfl
            clear g1
            rw [if_pos (want_some rfl rfl rfl e1)]
            obtain ⟨a0, a1, a2, a3⟩ := hS.box.cells
            unfold Oper.wp
            go_simp
            exact hK _ _ ⟨fun _ h => Option.some.inj h, fun _ h => no_some h⟩ hS (eby rfl (Below.refl _ _))
          · intro a u hS hr K hK
            obtain ⟨⟨vl0, e0, g0⟩, ⟨vl1, e1, g1⟩, ⟨vl2, e2, g2⟩, -⟩ := hr
            obtain rfl := g0.1 _ rfl
            clear g0
            obtain rfl := g1.1 _ rfl
            clear g1
            obtain rfl := g2.1 _ rfl
            clear g2
            rw [if_pos (want_some rfl rfl rfl e2)]
            have z := eql_yes (fun y (_ : y < 256) => back_same x y)
            have hg := guard27
            unfold Oper.wp
            go_simp
            exact hK _ _ ⟨fun _ h => Option.some.inj h, fun _ h => no_some h⟩ hS (eby rfl (Below.refl _ _))
          · intro a u hS hr K hK
            obtain ⟨⟨vl0, e0, g0⟩, ⟨vl1, e1, g1⟩, -⟩ := hr
            obtain rfl := g0.1 _ rfl
            clear g0
            obtain rfl := g1.1 _ rfl
            clear g1
            rw [if_pos (want_none rfl)]
            unfold Oper.wp
            go_simp
            exact hK _ _ ⟨fun _ h => Option.some.inj h, fun _ h => no_some h⟩ hS (eby rfl (Below.refl _ _))
          · intro a u hS hr K hK
            obtain ⟨⟨vl0, e0, g0⟩, -⟩ := hr
            obtain rfl := g0.1 _ rfl
            clear g0
            rw [if_pos (want_none rfl)]
            unfold Oper.wp
            go_simp
            exact hK _ _ ⟨fun _ h => Option.some.inj h, fun _ h => no_some h⟩ hS (eby rfl (Below.refl _ _))
          · intro a u hS hr K hK
            obtain ⟨⟨vl0, e0, g0⟩, ⟨vl1, e1, g1⟩, -⟩ := hr
            obtain rfl := g0.1 _ rfl
            clear g0
            obtain rfl := g1.1 _ rfl
            clear g1
            rw [if_pos (want_some rfl rfl rfl e1)]
            obtain ⟨a0, a1, a2, a3⟩ := hS.box.cells
            unfold Oper.wp
            go_simp
            exact hK _ _ ⟨fun _ h => Option.some.inj h, fun _ h => no_some h⟩ hS (eby rfl (Below.refl _ _))
          · intro a u hS hr K hK
            obtain ⟨⟨vl0, e0, g0⟩, ⟨vl1, e1, g1⟩, -⟩ := hr
            obtain rfl := g0.1 _ rfl
            clear g0
            obtain rfl := g1.1 _ rfl
            clear g1
            rw [if_pos (want_some rfl rfl rfl e1)]
            unfold Oper.wp
            go_simp
            exact hK _ _ ⟨fun _ h => Option.some.inj h, fun _ h => no_some h⟩ hS (eby rfl (Below.refl _ _))
          · intro a u hS hr K hK
            obtain ⟨⟨vl0, e0, g0⟩, ⟨vl1, e1, g1⟩, -⟩ := hr
            obtain rfl := g0.1 _ rfl
            clear g0
            obtain rfl := g1.1 _ rfl
            clear g1
            rw [if_pos (want_some rfl rfl rfl e1)]
            unfold Oper.wp
            go_simp
            exact hK _ _ ⟨fun _ h => no_some h, fun _ h => spec_ok h (One.new _ b _ hS.row)⟩ (hS.below ((Below.refl _ _).alloc (Nat.le_refl _) _)) (eby rfl ((Below.refl _ _).alloc (Nat.le_refl _) _))
          · intro a u hS hr K hK
            obtain ⟨⟨vl0, e0, g0⟩, ⟨vl1, e1, g1⟩, -⟩ := hr
            replace g0 := g0.2 _ rfl
            obtain rfl := g1.1 _ rfl
            clear g1
            rw [if_pos (want_some rfl rfl rfl e1)]
            unfold Oper.wp
            go_simp
            refine (of_byt (g0.byt b0 b1) (by simp)).mono ?_
            rintro e u1 ⟨rfl, hb⟩
            exact hK _ _ ⟨fun _ h => Option.some.inj h, fun _ h => no_some h⟩ (hS.below hb) (eby rfl hb)
          · intro a u hS hr K hK
            obtain ⟨⟨vl0, e0, g0⟩, ⟨vl1, e1, g1⟩, ⟨vl2, e2, g2⟩, -⟩ := hr
            obtain rfl := g0.1 _ rfl
            clear g0
            obtain rfl := g1.1 _ rfl
            clear g1
            obtain rfl := g2.1 _ rfl
            clear g2
            rw [if_pos (want_some rfl rfl rfl e2)]
            unfold Oper.wp
            go_simp
            exact hK _ _ ⟨fun _ h => no_some h, fun _ h => spec_ok h (Two.new _ _ _ _ hS.row)⟩ (hS.below ((Below.refl _ _).alloc (Nat.le_refl _) _)) (eby rfl ((Below.refl _ _).alloc (Nat.le_refl _) _))
          · intro a u hS hr K hK
            obtain ⟨⟨vl0, e0, g0⟩, ⟨vl1, e1, g1⟩, -⟩ := hr
            replace g0 := g0.2 _ rfl
            obtain rfl := g1.1 _ rfl
            clear g1
            rw [if_pos (want_some rfl rfl rfl e1)]
            unfold Oper.wp
            go_simp
            refine (or_sl g0.sl).mono ?_
            rintro e u1 ⟨rfl, hb⟩
            exact hK _ _ ⟨fun _ h => Option.some.inj h, fun _ h => no_some h⟩ (hS.below hb) (eby rfl hb)
          · intro a u hS hr K hK
            obtain ⟨⟨vl0, e0, g0⟩, ⟨vl1, e1, g1⟩, -⟩ := hr
            obtain rfl := g0.1 _ rfl
            clear g0
            obtain rfl := g1.1 _ rfl
            clear g1
            rw [if_pos (want_some rfl rfl rfl e1)]
            unfold Oper.wp
            go_simp
            exact hK _ _ ⟨fun _ h => Option.some.inj h, fun _ h => no_some h⟩ hS (eby rfl (Below.refl _ _))
          · intro a u hS hr K hK
            obtain ⟨⟨vl0, e0, g0⟩, ⟨vl1, e1, g1⟩, -⟩ := hr
            obtain rfl := g0.1 _ rfl
            clear g0
            obtain rfl := g1.1 _ rfl
            clear g1
            rw [if_pos (want_some rfl rfl rfl e1)]
            unfold Oper.wp
            go_simp
            exact hK _ _ ⟨fun _ h => Option.some.inj h, fun _ h => no_some h⟩ hS (eby rfl (Below.refl _ _))
          · intro a u hS hr K hK
            obtain ⟨⟨vl0, e0, g0⟩, ⟨vl1, e1, g1⟩, -⟩ := hr
            obtain rfl := g0.1 _ rfl
            clear g0
            obtain rfl := g1.1 _ rfl
            clear g1
            rw [if_pos (want_some rfl rfl rfl e1)]
            unfold Oper.wp
            go_simp
            exact hK _ _ ⟨fun _ h => no_some h, fun _ h => spec_ok h (One.new _ b _ hS.row)⟩ (hS.below ((Below.refl _ _).alloc (Nat.le_refl _) _)) (eby rfl ((Below.refl _ _).alloc (Nat.le_refl _) _))
          · intro a u hS hr K hK
            obtain ⟨⟨vl0, e0, g0⟩, ⟨vl1, e1, g1⟩, ⟨vl2, e2, g2⟩, -⟩ := hr
            obtain rfl := g0.1 _ rfl
            clear g0
            replace g1 := g1.2 _ rfl
            obtain rfl := g2.1 _ rfl
            clear g2
            rw [if_pos (want_some rfl rfl rfl e2)]
            exact wp_app_one 68 70 rfl hS e0 e1 g1 b0 b1 HL1 fun v1 u1 h1 h2 h3 => hK _ _ ⟨fun _ h => no_some h, fun _ h => spec_ok h h1⟩ h2 (ebw rfl h3)
          · intro a u hS hr K hK
            obtain ⟨⟨vl0, e0, g0⟩, ⟨vl1, e1, g1⟩, -⟩ := hr
            replace g0 := g0.2 _ rfl
            obtain rfl := g1.1 _ rfl
            clear g1
            rw [if_pos (want_some rfl rfl rfl e1)]
            unfold Oper.wp
            go_simp
            refine (of_byt g0 HL3.out).mono ?_
            rintro e u1 ⟨rfl, hb⟩
            exact hK _ _ ⟨fun _ h => Option.some.inj h, fun _ h => no_some h⟩ (hS.below hb) (eby rfl hb)
          · intro a u hS hr K hK
            obtain ⟨⟨vl0, e0, g0⟩, ⟨vl1, e1, g1⟩, ⟨vl2, e2, g2⟩, -⟩ := hr
            obtain rfl := g0.1 _ rfl
            clear g0
            obtain rfl := g1.1 _ rfl
            clear g1
            obtain rfl := g2.1 _ rfl
            clear g2
            rw [if_pos (want_some rfl rfl rfl e2)]
            have z := eql_yes (fun y (_ : y < 256) => back_more x b y)
            have hg := guard27
            unfold Oper.wp
            go_simp
            exact hK _ _ ⟨fun _ h => Option.some.inj h, fun _ h => no_some h⟩ hS (eby rfl (Below.refl _ _))
          · intro a u hS hr K hK
            obtain ⟨⟨vl0, e0, g0⟩, ⟨vl1, e1, g1⟩, -⟩ := hr
            obtain rfl := g0.1 _ rfl
            clear g0
            obtain rfl := g1.1 _ rfl
            clear g1
            rw [if_pos (want_none rfl)]
            unfold Oper.wp
            go_simp
            exact hK _ _ ⟨fun _ h => Option.some.inj h, fun _ h => no_some h⟩ hS (eby rfl (Below.refl _ _))
          · intro a u hS hr K hK
            obtain ⟨⟨vl0, e0, g0⟩, -⟩ := hr
            obtain rfl := g0.1 _ rfl
            clear g0
            rw [if_pos (want_none rfl)]
            unfold Oper.wp
            go_simp
            exact hK _ _ ⟨fun _ h => Option.some.inj h, fun _ h => no_some h⟩ hS (eby rfl (Below.refl _ _))
        intro a u hS hts hd hkn hf
        obtain ⟨v4, e4, g4⟩ := hf 30 _ 4 rfl rfl (fun _ => rfl)
        obtain rfl := g4.1 _ rfl
        clear hf hkn
        simp only [Exit.then]
        apply_assumption
        refine wp_ret ?_
        exact ret_slot Try.results9 e4 hd ⟨rfl, hS.bel⟩
  ·
    go_enter Try.func9, Try.ntmps9
    go_wp2_with fail
    refine (shown_any _).mono ?_
    rintro e w1 ⟨rfl, hb1⟩
    have hX1 : Bts w1 w.heap.size A x := hX.below hb1
    go_wp2
    go_loopw [7, 8, 19] (fun t l i wr => ∃ k : Nat, k ≤ 300 ∧ i = .int .i64 k ∧ t = .bool (inB (x.take k) b.toNat) ∧ wr.ownsRow w1.heap.size 5 1 l k (u8s (x.reverse.take k)) ∧ (k = 0 → l = .slice none 0 0) ∧ Below w1.heap.size w1 wr) (fun _ _ i _ => 300 - (intOf i).toNat)
    case atStart => exact ⟨0, Nat.zero_le _, rfl, rfl, World.ownsRow_nil _ _ _ _, fun _ => rfl, Below.refl _ _⟩
    case round =>
      obtain ⟨k, hk0, rfl, rfl, hown, hnil, hb⟩ := hrel
      by_cases hlt : k < 300
      · have hkx : k < x.length := by have := EB.out; omega
        have hjx : 300 - 1 - k < x.length := by have := EB.out; omega
        have hXr : Bts wr w.heap.size A x := hX1.below (hb.mono hb1.size)
        obtain ⟨g, off, rfl, hg, ha⟩ := hXr.2 (fun e => by subst e; simp at hkx)
        have c1 := ha k hkx
        have c2 := ha (300 - 1 - k) hjx
        have y1 : 0 ≤ x.getD k 0 := ((hXr.at_ hkx).elim fun _ h => h.elim fun _ h => h.2.2.2.1)
        have HI := hidd (in_snoc x k hkx b b0 y1)
        have HB : Hid (x.reverse.take (k + 1) = x.reverse.take k ++ [x.getD (300 - 1 - k) 0]) := by have h := back_snoc x k hkx; rw [EB.out] at h; exact h
        generalize x.getD k 0 = xk at *
        generalize x.getD (300 - 1 - k) 0 = xj at *
        have hj : ((300 : Nat) : Int) - 1 - (k : Int) = ((300 - 1 - k : Nat) : Int) := by omega
        have hsz := hb.size
        clear ha hXr
        cases hin : inB (x.take k) b.toNat with
        | true =>
          rw [hin] at HI
          go_wp2_with (at_builtin; refine wpList_append_own _ rfl (.tmp 31) (.tmp 40) 22 rfl w1.heap.size 5 i0 (.int .u8 0) 1 1 Try.underlying22 hi0 hz0 hz1 hz2 rfl (by omega) _ _ _ rfl (hown.alloc _) ⟨wr.heap.size, 0, none⟩ 1 1 [.int .u8 xj] rfl rfl (cell_one_new _ _ _) (by simp [Value.oneCell']) (by simp only [maxLen]; omega) (by omega) (by simp; omega) ?_; intro v2 w2 hown2 hg2 _)
          change (wr.alloc _).grownBy w2 u8.ownBlock at hg2
          have hlt2 := hown.lt
          refine ⟨⟨k + 1, by omega, rfl, ?_, ?_, fun h => absurd h (by omega), (hb.alloc hsz _).grown hg2 (by simp; omega) (fun j e => (hlt2 _ e).1)⟩, by simp [intOf]; omega⟩
          · rw [HI.out]; rfl
          · rw [HB.out, ← u8s_snoc]; exact hown2
        | false =>
          rw [hin] at HI
          go_wp2_with (at_builtin; refine wpList_append_own _ rfl (.tmp 31) (.tmp 40) 22 rfl w1.heap.size 5 i0 (.int .u8 0) 1 1 Try.underlying22 hi0 hz0 hz1 hz2 rfl (by omega) _ _ _ rfl (hown.alloc _) ⟨wr.heap.size, 0, none⟩ 1 1 [.int .u8 xj] rfl rfl (cell_one_new _ _ _) (by simp [Value.oneCell']) (by simp only [maxLen]; omega) (by omega) (by simp; omega) ?_; intro v2 w2 hown2 hg2 _)
          change (wr.alloc _).grownBy w2 u8.ownBlock at hg2
          have hlt2 := hown.lt
          refine ⟨⟨k + 1, by omega, rfl, ?_, ?_, fun h => absurd h (by omega), (hb.alloc hsz _).grown hg2 (by simp; omega) (fun j e => (hlt2 _ e).1)⟩, by simp [intOf]; omega⟩
          · rw [HI.out]; rfl
          · rw [HB.out, ← u8s_snoc]; exact hown2
      · have hk : x.length = k := by have := EB.out; omega
        have hl : x.length ≤ 300 := by have := EB.out; omega
        have HL1 := hidd hl
        have HL2 : Hid ((x.reverse ++ x).length ≤ 1000000) := by show (x.reverse ++ x).length ≤ 1000000; simp; omega
        have HL3 : Hid ((x.reverse ++ [b]).length ≤ 1000000) := by show (x.reverse ++ [b]).length ≤ 1000000; simp; omega
        have hkm : k = 300 := by omega
        rw [show x.take k = x from List.take_of_length_le (by omega)]
        have hown' : wr.ownsRow w1.heap.size 5 1 u8 x.length (u8s x.reverse) := by
          rw [List.take_of_length_le (by simp; omega)] at hown
          rw [hk]; exact hown
        have hnil' : x = [] → u8 = .slice none 0 0 := fun e => hnil (by subst e; simpa using hk.symm)
        have hb0 := hb1.trans (hb.mono hb1.size)
        have hXr : Bts wr w.heap.size A x := hX.below hb0
        have hsz := hb.size
        have hsz1 := hb1.size
        clear hown hnil hk hX1 hX hb hb1
        go_wp2_with fail
        refine (of_n (hXr.more (by omega)) (by omega) EB).mono ?_
        rintro e w3 ⟨rfl, hb3⟩
        have hsz3 := hb3.size
        have hlt := hown'.lt
        have HS : BySt w w1.heap.size w3.heap.size u8 A x (w3.alloc (.cells (#[.int .u64 (W (inB x) 0), .int .u64 (W (inB x) 1), .int .u64 (W (inB x) 2), .int .u64 (W (inB x) 3)]) 27)) :=
          ⟨(own_below hown' hb3 (Nat.le_refl _)).alloc _, (hXr.below (hb3.mono (by omega))).keep fun p hp => World.cell?_of_block (Below.heap_alloc _ _ _ (by omega)), ⟨Row4.new w3 _⟩, fun e => by have := (hlt _ e.symm).2; omega,
            (hb0.trans (hb3.mono (by omega))).alloc (by omega) _, hsz1, by simp; omega, hnil'⟩
        clear hown' hnil' hb0 hXr hb3 hlt
        go_wp2
        generalize w3.alloc (.cells (#[.int .u64 (W (inB x) 0), .int .u64 (W (inB x) 1), .int .u64 (W (inB x) 2), .int .u64 (W (inB x) 3)]) 27) = v0 at *
        generalize w3.heap.size = gs at *
        refine wp_region_slotsE oky (BySt w w1.heap.size gs u8 A x) (ByG A 300 c x b u8 gs) (Eby u8.ownBlock) (by kernel_rfl) (by kernel_rfl) (by kernel_rfl) (by kernel_rfl) ?_ HS.drew [1, 5, 6, 7, 8, 10] (by kernel_rfl) ?_ ?_ ?_
        · intro t d v u u' hok hS h hE
          refine ⟨h.1, fun R hR => ?_⟩
          have hh := h.2 R hR
          obtain ⟨r, hg, hr⟩ := hE.grown
          unfold ByGP at hR
          split at hR
          · cases hR; exact hh.below (hE.below (by simpa [oky] using hok))
          · cases hR; exact hh.grown hg hr
          · cases hR; exact hh.grown hg hr
          · cases hR; exact hh.grown hg hr
          · cases hR; exact hh.below (hE.below (by simpa [oky] using hok))
          · cases hR
        · intro u _
          refine ⟨⟨_, rfl, ?_⟩, ⟨_, rfl, ?_⟩, ⟨_, rfl, ?_⟩, ⟨_, rfl, ?_⟩, ⟨_, rfl, ?_⟩, ⟨_, rfl, ?_⟩, trivial⟩ <;> exact ⟨fun _ h => Option.some.inj h, fun _ h => no_some h⟩
        · refine ⟨?_, ?_, ?_, ?_, ?_, ?_, ?_, ?_, ?_, ?_, ?_, ?_, ?_, ?_, ?_, ?_, ?_, ?_, ?_, ?_, ?_, ?_, ?_, ?_, ?_, ?_, ?_, ?_, ?_, ?_, ?_, trivial⟩
          · intro a u hS hr K hK
            obtain ⟨⟨vl0, e0, g0⟩, -⟩ := hr
            obtain rfl := g0.1 _ rfl
            clear g0
            rw [if_pos (want_none rfl)]
            unfold Oper.wp
            go_simp
            exact hK _ _ ⟨fun _ h => Option.some.inj h, fun _ h => no_some h⟩ hS (eby rfl (Below.refl _ _))
          · intro a u hS hr K hK
            obtain ⟨⟨vl0, e0, g0⟩, -⟩ := hr
            obtain rfl := g0.1 _ rfl
            clear g0
            rw [if_pos (want_none rfl)]
            unfold Oper.wp
            go_simp
            exact hK _ _ ⟨fun _ h => Option.some.inj h, fun _ h => no_some h⟩ hS (eby rfl (Below.refl _ _))
          · intro a u hS hr K hK
            obtain ⟨⟨vl0, e0, g0⟩, ⟨vl1, e1, g1⟩, -⟩ := hr
            obtain rfl := g0.1 _ rfl
            clear g0
            obtain rfl := g1.1 _ rfl
            clear g1
            rw [if_pos (want_some rfl rfl rfl e1)]
            obtain ⟨a0, a1, a2, a3⟩ := hS.box.cells
            unfold Oper.wp
            go_simp
            exact hK _ _ ⟨fun _ h => Option.some.inj h, fun _ h => no_some h⟩ hS (eby rfl (Below.refl _ _))
          · intro a u hS hr K hK
            obtain ⟨⟨vl0, e0, g0⟩, ⟨vl1, e1, g1⟩, -⟩ := hr
            obtain rfl := g0.1 _ rfl
            clear g0
            obtain rfl := g1.1 _ rfl
            clear g1
            rw [if_pos (want_some rfl rfl rfl e1)]
            unfold Oper.wp
            go_simp
            exact hK _ _ ⟨fun _ h => Option.some.inj h, fun _ h => no_some h⟩ hS (eby rfl (Below.refl _ _))
          · intro a u hS hr K hK
            obtain ⟨⟨vl0, e0, g0⟩, ⟨vl1, e1, g1⟩, ⟨vl2, e2, g2⟩, -⟩ := hr
            obtain rfl := g0.1 _ rfl
            clear g0
            obtain rfl := g1.1 _ rfl
            clear g1
            obtain rfl := g2.1 _ rfl
            clear g2
            rw [if_pos (want_some rfl rfl rfl e2)]
            unfold Oper.wp
            go_simp
            refine (has_any (inB x) b _ b0 b1).mono ?_
            rintro e u1 ⟨rfl, hb⟩
            exact hK _ _ ⟨fun _ h => Option.some.inj h, fun _ h => no_some h⟩ (hS.below hb) (eby rfl hb)
          · intro a u hS hr K hK
            obtain ⟨⟨vl0, e0, g0⟩, ⟨vl1, e1, g1⟩, -⟩ := hr
            obtain rfl := g0.1 _ rfl
            clear g0
            obtain rfl := g1.1 _ rfl
            clear g1
            rw [if_pos (want_some rfl rfl rfl e1)]
            unfold Oper.wp
            go_simp
            exact hK _ _ ⟨fun _ h => Option.some.inj h, fun _ h => no_some h⟩ hS (eby rfl (Below.refl _ _))
          · intro a u hS hr K hK
            obtain ⟨⟨vl0, e0, g0⟩, ⟨vl1, e1, g1⟩, ⟨vl2, e2, g2⟩, -⟩ := hr
            obtain rfl := g0.1 _ rfl
            clear g0
            obtain rfl := g1.1 _ rfl
            clear g1
            obtain rfl := g2.1 _ rfl
            clear g2
            rw [if_pos (want_some rfl rfl rfl e2)]
            unfold Oper.wp
            go_simp
            exact hK _ _ ⟨fun _ h => Option.some.inj h, fun _ h => no_some h⟩ hS (eby rfl (Below.refl _ _))
          · intro a u hS hr K hK
            obtain ⟨⟨vl0, e0, g0⟩, ⟨vl1, e1, g1⟩, -⟩ := hr
            obtain rfl := g0.1 _ rfl
            clear g0
            obtain rfl := g1.1 _ rfl
            clear g1
            rw [if_pos (want_none rfl)]
            unfold Oper.wp
            go_simp
            exact hK _ _ ⟨fun _ h => Option.some.inj h, fun _ h => no_some h⟩ hS (eby rfl (Below.refl _ _))
          · intro a u hS hr K hK
            obtain ⟨⟨vl0, e0, g0⟩, -⟩ := hr
            obtain rfl := g0.1 _ rfl
            clear g0
            rw [if_pos (want_none rfl)]
            unfold Oper.wp
            go_simp
            exact hK _ _ ⟨fun _ h => Option.some.inj h, fun _ h => no_some h⟩ hS (eby rfl (Below.refl _ _))
          · intro a u hS hr K hK
            obtain ⟨⟨vl0, e0, g0⟩, ⟨vl1, e1, g1⟩, -⟩ := hr
            obtain rfl := g0.1 _ rfl
            clear g0
            obtain rfl := g1.1 _ rfl
            clear g1
            rw [if_pos (want_some rfl rfl rfl e1)]
            unfold Oper.wp
            go_simp
            exact hK _ _ ⟨fun _ h => Option.some.inj h, fun _ h => no_some h⟩ hS (eby rfl (Below.refl _ _))
          · intro a u hS hr K hK
            obtain ⟨⟨vl0, e0, g0⟩, ⟨vl1, e1, g1⟩, -⟩ := hr
            obtain rfl := g0.1 _ rfl
            clear g0
            obtain rfl := g1.1 _ rfl
            clear g1
            rw [if_pos (want_some rfl rfl rfl e1)]
            unfold Oper.wp
            go_simp
            exact hK _ _ ⟨fun _ h => Option.some.inj h, fun _ h => no_some h⟩ hS (eby rfl (Below.refl _ _))
          · intro a u hS hr K hK
            obtain ⟨⟨vl0, e0, g0⟩, ⟨vl1, e1, g1⟩, ⟨vl2, e2, g2⟩, -⟩ := hr
            obtain rfl := g0.1 _ rfl
            clear g0
            obtain rfl := g1.1 _ rfl
            clear g1
            obtain rfl := g2.1 _ rfl
            clear g2
            rw [if_pos (want_some rfl rfl rfl e2)]
            exact wp_app_row 54 55 _ _ rfl hS e0 e1 EB (by omega) fun v1 u1 h1 h2 h3 => hK _ _ ⟨fun _ h => no_some h, fun _ h => spec_ok h h1⟩ h2 (ebw rfl h3)
          · intro a u hS hr K hK
            obtain ⟨⟨vl0, e0, g0⟩, ⟨vl1, e1, g1⟩, -⟩ := hr
            replace g0 := g0.2 _ rfl
            obtain rfl := g1.1 _ rfl
            clear g1
            rw [if_pos (want_some rfl rfl rfl e1)]
            unfold Oper.wp
            go_simp
            refine (of_byt g0 HL2.out).mono ?_
            rintro e u1 ⟨rfl, hb⟩
            exact hK _ _ ⟨fun _ h => Option.some.inj h, fun _ h => no_some h⟩ (hS.below hb) (eby rfl hb)
          · intro a u hS hr K hK
            obtain ⟨⟨vl0, e0, g0⟩, ⟨vl1, e1, g1⟩, -⟩ := hr
            obtain rfl := g0.1 _ rfl
            clear g0
            obtain rfl := g1.1 _ rfl
            clear g1
            rw [if_pos (want_some rfl rfl rfl e1)]
            obtain ⟨a0, a1, a2, a3⟩ := hS.box.cells
            unfold Oper.wp
            go_simp
            exact hK _ _ ⟨fun _ h => Option.some.inj h, fun _ h => no_some h⟩ hS (eby rfl (Below.refl _ _))
          · intro a u hS hr K hK
            obtain ⟨⟨vl0, e0, g0⟩, ⟨vl1, e1, g1⟩, ⟨vl2, e2, g2⟩, -⟩ := hr
            obtain rfl := g0.1 _ rfl
            clear g0
            obtain rfl := g1.1 _ rfl
            clear g1
            obtain rfl := g2.1 _ rfl
            clear g2
            rw [if_pos (want_some rfl rfl rfl e2)]
            have z := eql_yes (fun y (_ : y < 256) => back_same x y)
            have hg := guard27
            unfold Oper.wp
            go_simp
            exact hK _ _ ⟨fun _ h => Option.some.inj h, fun _ h => no_some h⟩ hS (eby rfl (Below.refl _ _))
          · intro a u hS hr K hK
            obtain ⟨⟨vl0, e0, g0⟩, ⟨vl1, e1, g1⟩, -⟩ := hr
            obtain rfl := g0.1 _ rfl
            clear g0
            obtain rfl := g1.1 _ rfl
            clear g1
            rw [if_pos (want_none rfl)]
            unfold Oper.wp
            go_simp
            exact hK _ _ ⟨fun _ h => Option.some.inj h, fun _ h => no_some h⟩ hS (eby rfl (Below.refl _ _))
          · intro a u hS hr K hK
            obtain ⟨⟨vl0, e0, g0⟩, -⟩ := hr
            obtain rfl := g0.1 _ rfl
            clear g0
            rw [if_pos (want_none rfl)]
            unfold Oper.wp
            go_simp
            exact hK _ _ ⟨fun _ h => Option.some.inj h, fun _ h => no_some h⟩ hS (eby rfl (Below.refl _ _))
          · intro a u hS hr K hK
            obtain ⟨⟨vl0, e0, g0⟩, ⟨vl1, e1, g1⟩, -⟩ := hr
            obtain rfl := g0.1 _ rfl
            clear g0
            obtain rfl := g1.1 _ rfl
            clear g1
            rw [if_pos (want_some rfl rfl rfl e1)]
            obtain ⟨a0, a1, a2, a3⟩ := hS.box.cells
            unfold Oper.wp
            go_simp
            exact hK _ _ ⟨fun _ h => Option.some.inj h, fun _ h => no_some h⟩ hS (eby rfl (Below.refl _ _))
          · intro a u hS hr K hK
            obtain ⟨⟨vl0, e0, g0⟩, ⟨vl1, e1, g1⟩, -⟩ := hr
            obtain rfl := g0.1 _ rfl
            clear g0
            obtain rfl := g1.1 _ rfl
            clear g1
            rw [if_pos (want_some rfl rfl rfl e1)]
            unfold Oper.wp
            go_simp
            exact hK _ _ ⟨fun _ h => Option.some.inj h, fun _ h => no_some h⟩ hS (eby rfl (Below.refl _ _))
          · intro a u hS hr K hK
            obtain ⟨⟨vl0, e0, g0⟩, ⟨vl1, e1, g1⟩, -⟩ := hr
            obtain rfl := g0.1 _ rfl
            clear g0
            obtain rfl := g1.1 _ rfl
            clear g1
            rw [if_pos (want_some rfl rfl rfl e1)]
            unfold Oper.wp
            go_simp
            exact hK _ _ ⟨fun _ h => no_some h, fun _ h => spec_ok h (One.new _ b _ hS.row)⟩ (hS.below ((Below.refl _ _).alloc (Nat.le_refl _) _)) (eby rfl ((Below.refl _ _).alloc (Nat.le_refl _) _))
          · intro a u hS hr K hK
            obtain ⟨⟨vl0, e0, g0⟩, ⟨vl1, e1, g1⟩, -⟩ := hr
            replace g0 := g0.2 _ rfl
            obtain rfl := g1.1 _ rfl
            clear g1
            rw [if_pos (want_some rfl rfl rfl e1)]
            unfold Oper.wp
            go_simp
            refine (of_byt (g0.byt b0 b1) (by simp)).mono ?_
            rintro e u1 ⟨rfl, hb⟩
            exact hK _ _ ⟨fun _ h => Option.some.inj h, fun _ h => no_some h⟩ (hS.below hb) (eby rfl hb)
          · intro a u hS hr K hK
            obtain ⟨⟨vl0, e0, g0⟩, ⟨vl1, e1, g1⟩, ⟨vl2, e2, g2⟩, -⟩ := hr
            obtain rfl := g0.1 _ rfl
            clear g0
            obtain rfl := g1.1 _ rfl
            clear g1
            obtain rfl := g2.1 _ rfl
            clear g2
            rw [if_pos (want_some rfl rfl rfl e2)]
            unfold Oper.wp
            go_simp
            exact hK _ _ ⟨fun _ h => no_some h, fun _ h => spec_ok h (Two.new _ _ _ _ hS.row)⟩ (hS.below ((Below.refl _ _).alloc (Nat.le_refl _) _)) (eby rfl ((Below.refl _ _).alloc (Nat.le_refl _) _))
          · intro a u hS hr K hK
            obtain ⟨⟨vl0, e0, g0⟩, ⟨vl1, e1, g1⟩, -⟩ := hr
            replace g0 := g0.2 _ rfl
            obtain rfl := g1.1 _ rfl
            clear g1
            rw [if_pos (want_some rfl rfl rfl e1)]
            unfold Oper.wp
            go_simp
            refine (or_sl g0.sl).mono ?_
            rintro e u1 ⟨rfl, hb⟩
            exact hK _ _ ⟨fun _ h => Option.some.inj h, fun _ h => no_some h⟩ (hS.below hb) (eby rfl hb)
          · intro a u hS hr K hK
            obtain ⟨⟨vl0, e0, g0⟩, ⟨vl1, e1, g1⟩, -⟩ := hr
            obtain rfl := g0.1 _ rfl
            clear g0
            obtain rfl := g1.1 _ rfl
            clear g1
            rw [if_pos (want_some rfl rfl rfl e1)]
            unfold Oper.wp
            go_simp
            exact hK _ _ ⟨fun _ h => Option.some.inj h, fun _ h => no_some h⟩ hS (eby rfl (Below.refl _ _))
          · intro a u hS hr K hK
            obtain ⟨⟨vl0, e0, g0⟩, ⟨vl1, e1, g1⟩, -⟩ := hr
            obtain rfl := g0.1 _ rfl
            clear g0
            obtain rfl := g1.1 _ rfl
            clear g1
            rw [if_pos (want_some rfl rfl rfl e1)]
            unfold Oper.wp
            go_simp
            exact hK _ _ ⟨fun _ h => Option.some.inj h, fun _ h => no_some h⟩ hS (eby rfl (Below.refl _ _))
          · intro a u hS hr K hK
            obtain ⟨⟨vl0, e0, g0⟩, ⟨vl1, e1, g1⟩, -⟩ := hr
            obtain rfl := g0.1 _ rfl
            clear g0
            obtain rfl := g1.1 _ rfl
            clear g1
            rw [if_pos (want_some rfl rfl rfl e1)]
            unfold Oper.wp
            go_simp
            exact hK _ _ ⟨fun _ h => no_some h, fun _ h => spec_ok h (One.new _ b _ hS.row)⟩ (hS.below ((Below.refl _ _).alloc (Nat.le_refl _) _)) (eby rfl ((Below.refl _ _).alloc (Nat.le_refl _) _))
          · intro a u hS hr K hK
            obtain ⟨⟨vl0, e0, g0⟩, ⟨vl1, e1, g1⟩, ⟨vl2, e2, g2⟩, -⟩ := hr
            obtain rfl := g0.1 _ rfl
            clear g0
            replace g1 := g1.2 _ rfl
            obtain rfl := g2.1 _ rfl
            clear g2
            rw [if_pos (want_some rfl rfl rfl e2)]
            exact wp_app_one 68 70 rfl hS e0 e1 g1 b0 b1 HL1 fun v1 u1 h1 h2 h3 => hK _ _ ⟨fun _ h => no_some h, fun _ h => spec_ok h h1⟩ h2 (ebw rfl h3)
          · intro a u hS hr K hK
            obtain ⟨⟨vl0, e0, g0⟩, ⟨vl1, e1, g1⟩, -⟩ := hr
            replace g0 := g0.2 _ rfl
            obtain rfl := g1.1 _ rfl
            clear g1
            rw [if_pos (want_some rfl rfl rfl e1)]
            unfold Oper.wp
            go_simp
            refine (of_byt g0 HL3.out).mono ?_
            rintro e u1 ⟨rfl, hb⟩
            exact hK _ _ ⟨fun _ h => Option.some.inj h, fun _ h => no_some h⟩ (hS.below hb) (eby rfl hb)
          · intro a u hS hr K hK
            obtain ⟨⟨vl0, e0, g0⟩, ⟨vl1, e1, g1⟩, ⟨vl2, e2, g2⟩, -⟩ := hr
            obtain rfl := g0.1 _ rfl
            clear g0
            obtain rfl := g1.1 _ rfl
            clear g1
            obtain rfl := g2.1 _ rfl
            clear g2
            rw [if_pos (want_some rfl rfl rfl e2)]
            have z := eql_yes (fun y (_ : y < 256) => back_more x b y)
            have hg := guard27
            unfold Oper.wp
            go_simp
            exact hK _ _ ⟨fun _ h => Option.some.inj h, fun _ h => no_some h⟩ hS (eby rfl (Below.refl _ _))
          · intro a u hS hr K hK
            obtain ⟨⟨vl0, e0, g0⟩, ⟨vl1, e1, g1⟩, -⟩ := hr
            obtain rfl := g0.1 _ rfl
            clear g0
            obtain rfl := g1.1 _ rfl
            clear g1
            rw [if_pos (want_none rfl)]
            unfold Oper.wp
            go_simp
            exact hK _ _ ⟨fun _ h => Option.some.inj h, fun _ h => no_some h⟩ hS (eby rfl (Below.refl _ _))
          · intro a u hS hr K hK
            obtain ⟨⟨vl0, e0, g0⟩, -⟩ := hr
            obtain rfl := g0.1 _ rfl
            clear g0
            rw [if_pos (want_none rfl)]
            unfold Oper.wp
            go_simp
            exact hK _ _ ⟨fun _ h => Option.some.inj h, fun _ h => no_some h⟩ hS (eby rfl (Below.refl _ _))
        intro a u hS hts hd hkn hf
        obtain ⟨v4, e4, g4⟩ := hf 30 _ 4 rfl rfl (fun _ => rfl)
        obtain rfl := g4.1 _ rfl
        clear hf hkn
        simp only [Exit.then]
        apply_assumption
        refine wp_ret ?_
        exact ret_slot Try.results9 e4 hd ⟨rfl, hS.bel⟩

theorem bytes_any (A : Option Addr) (c : Nat) (l : List Int) (b : Int) (w : World) (hX : Bts w w.heap.size A l) (lc : l.length ≤ c) (mc : c ≤ maxLen) (b0 : 0 ≤ b) (b1 : b ≤ 255) :
    Calls Try.prog 9 #[.slice A l.length c, .int .u8 b] w fun e w' => e = .returned (.bool true) ∧ Below w.heap.size w w' := by
  have e : (l.take 300).length = min l.length 300 := by rw [List.length_take]; omega
  refine bytes_core A c l.length (l.take 300) b w (hX.cut 300) ?_ lc (by omega) b0 b1
  by_cases h : l.length ≤ 300
  · exact .inl ⟨h, hidd (by omega)⟩
  · exact .inr ⟨by omega, hidd (by omega)⟩

end Go.Proofs.Ytbheccbbkolieaa

/- The landed Right keeps what it owes. -/
import Derived.Test.YtahhiajliomcfaaPSb
import Derived.Deep.AppendLies
import Derived.Lib.Hide
namespace Go.Proofs.Ytahhiajliomcfaa.Sy
open Go.RowKit
set_option maxRecDepth 100000
set_option linter.unusedVariables false

theorem right_len {gs : List Gd} (h : RightG gs) : 1 ≤ gs.length ∧ gs.length ≤ 1024 := by
  obtain ⟨ns, hg, _, h1, h2, _⟩ := h
  rw [hg.1]
  exact ⟨h1, h2⟩
/-- Does the node at k fit, with these that have no parent yet? -/
def fitB (gs : List Gd) (k : Nat) (st : List Nat) : Bool := decide (shapeG (gs.getD k gd0) = true ∧ (gs.getD k gd0).l.length ≤ st.length ∧ (st.drop (st.length - (gs.getD k gd0).l.length)).map (fun k : Nat => (k : Int)) = (gs.getD k gd0).l)
theorem i64s_take (st : List Nat) (r : Nat) : (i64s st).take r = i64s (st.take r) := by unfold i64s; rw [List.map_take]
theorem own_cut {w : World} {base g n cap r : Nat} {st : List Nat} (h : w.ownsRow base 3 1 (.slice (some ⟨g, 0, none⟩) n cap) n (i64s st)) (hr : r ≤ n) (hn : n = st.length) : w.ownsRow base 3 1 (.slice (some ⟨g, 0, none⟩) r cap) r (i64s (st.take r)) := by
  obtain ⟨h1, h2⟩ := h
  rcases h2 with ⟨h2, _⟩ | ⟨g', cap', cur, hv, hg, hh, h3, h4, h5, h6⟩
  · cases h2
  · cases hv
    refine ⟨by rw [i64s_len, List.length_take]; omega, .inr ⟨g, cap, cur, rfl, hg, hh, by omega, h4, h5, ?_⟩⟩
    rw [← i64s_take, ← h6, List.take_take]
    congr 1
    omega
theorem equal_any {w : World} (B : Nat) (A1 A2 : Option Addr) (m c d : Nat) (xs ys : List Int) (hx : Its w B A1 xs) (hy : Its w B A2 ys) (lx : xs.length = m) (ly : ys.length = m) (hm : m ≤ 100000) :
    Calls Try.prog 71 #[.slice A1 m c, .slice A2 m d] w fun e w' => e = .returned (.bool (decide (xs = ys))) ∧ ∃ q, w' = w.drewN q := by
  rcases Nat.eq_zero_or_pos m with h0 | h0
  · subst h0
    have e1 : xs = [] := List.eq_nil_of_length_eq_zero lx
    have e2 : ys = [] := List.eq_nil_of_length_eq_zero ly
    subst e1
    subst e2
    refine (Try.slices_Equal_int_empty A1 A2 c 0 d w (by omega)).mono ?_
    rintro e w' ⟨rfl, rfl⟩
    exact ⟨rfl, 0, rfl⟩
  · obtain ⟨g1, o1, rfl, _, h1⟩ := hx (fun e => by subst e; simp at lx; omega)
    obtain ⟨g2, o2, rfl, _, h2⟩ := hy (fun e => by subst e; simp at ly; omega)
    refine (Try.slices_Equal_int g1 o1 m c g2 o2 m d xs ys w (by omega) (by omega) (by omega) (by omega) h1 h2).mono ?_
    rintro e w' ⟨rfl, h⟩
    refine ⟨?_, h⟩
    rw [List.take_of_length_le (by omega), List.take_of_length_le (by omega)]
    congr 2
    by_cases e : xs = ys
    · subst e; simp
    · rw [decide_eq_false e]
      simpa using e
theorem addr_add (g r : Nat) : (⟨g, 0, none⟩ : Addr).add r = ⟨g, r, none⟩ := by unfold Addr.add; split <;> simp_all
theorem its_cut {w : World} {base m c9 r : Nat} {A9 : Option Addr} {st : List Nat} (h : w.ownsRow base 3 1 (.slice A9 m c9) m (i64s st)) (hm : st.length = m) :
    Its w w.heap.size (if c9 = r then A9 else A9.map (·.add r)) ((st.drop r).map (fun k : Nat => (k : Int))) := fun hne => by
  have hr : r < m := by
    rcases Nat.lt_or_ge r m with q | q
    · exact q
    · exact absurd (by rw [List.drop_of_length_le (by omega)]; rfl) hne
  have h' := own_base h (Nat.zero_le _)
  rcases h.2 with ⟨hv, hn⟩ | ⟨g, cap, cur, hv, hg, hh, h31, h32, h33, h34⟩
  · omega
  · cases hv
    obtain ⟨g2, c2, e2, _, hlt⟩ := own_pos h (by omega)
    cases e2
    have hc := i64s_kid st g h' hm.symm
    refine ⟨g, r, ?_, hlt, fun i hi => ?_⟩
    · rw [if_neg (by omega), Option.map_some, addr_add]
    · have hi' : r + i < st.length := by simp at hi; omega
      have := hc (r + i) (by simpa using hi')
      rw [Nat.zero_add] at this
      rw [this]
      congr 2
      simp [List.getD_eq_getElem?_getD, List.getElem?_drop]
theorem int_one (w : World) (k : Int) : ∀ j u, ([.int .i64 k] : List Value)[j]? = some u → (w.alloc (.cells #[.int .i64 k] 3)).cell? ((⟨w.heap.size, 0, none⟩ : Addr).add j) = some u :=
  World.news_of_block (heap_alloc_new w _)
theorem bel_own {B : Nat} {w u u' : World} {row : Option Nat} (h : Below B w u) (hg : u.grownBy u' row) (hr : ∀ k, row = some k → B ≤ k) (hB : B ≤ w.heap.size) : Below B w u' :=
  ⟨hg.os.trans h.os, hg.tape.trans h.tape, hg.output.trans h.output, Nat.le_trans h.size hg.size, fun k hk => (hg.block k (by have := h.size; omega) (fun e => by have := hr k e.symm; omega)).trans (h.block k hk)⟩
def RgtR (gs : List Gd) (w : World) (e : Ending) (w' : World) : Prop := ∃ b, e = .returned (.bool b) ∧ (b = true ↔ RightG gs) ∧ Below w.heap.size w w'
theorem RgtR.no {gs : List Gd} {w w' : World} {e : Ending} (he : e = .returned (.bool false)) (h : ¬ RightG gs) (hb : Below w.heap.size w w') : RgtR gs w e w' := ⟨false, he, ⟨fun q => absurd q Bool.false_ne_true, fun h' => absurd h' h⟩, hb⟩
theorem no_right {gs : List Gd} {k n : Nat} {st : List Nat} (hri : (∃ st, stk gs n = some st ∧ st.length = 1) ↔ RightG gs) (hk : k < n) (hs : stk gs k = some st) (hf : fitB gs k st = false) : ¬ RightG gs := fun h => by
  obtain ⟨st2, h2, h3⟩ := hri.2 h
  rw [stk_none (stk_no hs (of_decide_eq_false hf)) n hk] at h2
  cases h2
/-- Memory while a node is looked at. -/
structure FtS (w1 : World) (q : Nat) (x : Gd) (A : Option Addr) (c : Nat) (u : World) : Prop where
  box : RowA u q 42 (gdL x A c).toArray
  bel : Below w1.heap.size w1 u
theorem FtS.below {w1 u u' : World} {q : Nat} {x : Gd} {A : Option Addr} {c : Nat} (h : FtS w1 q x A c u) (hb : Below u.heap.size u u') : FtS w1 q x A c u' := ⟨h.box.below hb h.box.lt, h.bel.trans (hb.mono h.bel.size)⟩
set_option linter.unusedVariables false in
def FaGV (q : Nat) (s3 s38 : Value) (rr : Int) (x : Gd) (A : Option Addr) (c : Nat) (z : Bool) (t : Nat) : Option Value :=
  match t with
  | 3 => some (s3)
  | 5 => some (.pointer (some ⟨q, 0, none⟩))
  | 6 => some (.int .i64 rr)
  | 28 => some (.agg #[.int .u8 x.op, .int .u64 (W x.s 0), .int .u64 (W x.s 1), .int .u64 (W x.s 2), .int .u64 (W x.s 3), .slice A x.l.length c, .int .i64 x.lo, .int .i64 x.hi, .string x.nm])
  | 29 => some (.bool false)
  | 30 => some (.bool true)
  | 31 => some (.bool true)
  | 34 => some (.bool true)
  | 35 => some (.bool true)
  | 43 => some (.bool true)
  | _ => none
set_option linter.unusedVariables false in
def FaGP (q : Nat) (s3 s38 : Value) (rr : Int) (x : Gd) (A : Option Addr) (c : Nat) (z : Bool) (t : Nat) : Option (Value → World → Prop) :=
  match t with
  | 32 => some (fun _ _ => True)
  | 33 => some (fun _ _ => True)
  | 36 => some (fun _ _ => True)
  | 37 => some (fun _ _ => True)
  | 38 => some (fun _ _ => True)
  | 39 => some (fun _ _ => True)
  | 40 => some (fun _ _ => True)
  | 41 => some (fun _ _ => True)
  | 42 => some (fun _ _ => True)
  | _ => none
def FaG (q : Nat) (s3 s38 : Value) (rr : Int) (x : Gd) (A : Option Addr) (c : Nat) (z : Bool) (t : Nat) (v : Value) (u : World) : Prop := (∀ z9, FaGV q s3 s38 rr x A c z t = some z9 → v = z9) ∧ ∀ R, FaGP q s3 s38 rr x A c z t = some R → R v u

set_option linter.unusedVariables false in
def FbGV (q : Nat) (s3 s38 : Value) (rr : Int) (x : Gd) (A : Option Addr) (c : Nat) (z : Bool) (t : Nat) : Option Value :=
  match t with
  | 3 => some (s3)
  | 5 => some (.pointer (some ⟨q, 0, none⟩))
  | 6 => some (.int .i64 rr)
  | 28 => some (.agg #[.int .u8 x.op, .int .u64 (W x.s 0), .int .u64 (W x.s 1), .int .u64 (W x.s 2), .int .u64 (W x.s 3), .slice A x.l.length c, .int .i64 x.lo, .int .i64 x.hi, .string x.nm])
  | 29 => some (.bool true)
  | 30 => some (.bool false)
  | 31 => some (.bool false)
  | 32 => some (.int .i64 rr)
  | 33 => some (.bool true)
  | 34 => some (.bool true)
  | 35 => some (.bool true)
  | 43 => some (.bool true)
  | _ => none
set_option linter.unusedVariables false in
def FbGP (q : Nat) (s3 s38 : Value) (rr : Int) (x : Gd) (A : Option Addr) (c : Nat) (z : Bool) (t : Nat) : Option (Value → World → Prop) :=
  match t with
  | 36 => some (fun _ _ => True)
  | 37 => some (fun _ _ => True)
  | 38 => some (fun _ _ => True)
  | 39 => some (fun _ _ => True)
  | 40 => some (fun _ _ => True)
  | 41 => some (fun _ _ => True)
  | 42 => some (fun _ _ => True)
  | _ => none
def FbG (q : Nat) (s3 s38 : Value) (rr : Int) (x : Gd) (A : Option Addr) (c : Nat) (z : Bool) (t : Nat) (v : Value) (u : World) : Prop := (∀ z9, FbGV q s3 s38 rr x A c z t = some z9 → v = z9) ∧ ∀ R, FbGP q s3 s38 rr x A c z t = some R → R v u

set_option linter.unusedVariables false in
def FcGV (q : Nat) (s3 s38 : Value) (rr : Int) (x : Gd) (A : Option Addr) (c : Nat) (z : Bool) (t : Nat) : Option Value :=
  match t with
  | 3 => some (s3)
  | 5 => some (.pointer (some ⟨q, 0, none⟩))
  | 6 => some (.int .i64 rr)
  | 28 => some (.agg #[.int .u8 x.op, .int .u64 (W x.s 0), .int .u64 (W x.s 1), .int .u64 (W x.s 2), .int .u64 (W x.s 3), .slice A x.l.length c, .int .i64 x.lo, .int .i64 x.hi, .string x.nm])
  | 29 => some (.bool true)
  | 30 => some (.bool false)
  | 31 => some (.bool false)
  | 32 => some (.int .i64 rr)
  | 33 => some (.bool false)
  | 34 => some (.bool false)
  | 35 => some (.bool false)
  | 36 => some (s3)
  | 37 => some (.int .i64 rr)
  | 38 => some (s38)
  | 39 => some (.pointer (some ⟨q, 5, none⟩))
  | 40 => some (.slice A x.l.length c)
  | 41 => some (.bool z)
  | 42 => some (.bool (!z))
  | 43 => some (.bool (!z))
  | _ => none
set_option linter.unusedVariables false in
def FcGP (q : Nat) (s3 s38 : Value) (rr : Int) (x : Gd) (A : Option Addr) (c : Nat) (z : Bool) (t : Nat) : Option (Value → World → Prop) :=
  match t with
  | _ => none
def FcG (q : Nat) (s3 s38 : Value) (rr : Int) (x : Gd) (A : Option Addr) (c : Nat) (z : Bool) (t : Nat) (v : Value) (u : World) : Prop := (∀ z9, FcGV q s3 s38 rr x A c z t = some z9 → v = z9) ∧ ∀ R, FcGP q s3 s38 rr x A c z t = some R → R v u

set_option maxHeartbeats 1000000 in
theorem right_any (A : Option Addr) (c : Nat) (gs : List Gd) (w : World) (hx : Nds w w.heap.size A gs) (hlg : gs.length ≤ 2000) (hnm : ∀ g ∈ gs, g.nm.size ≤ maxLen ∧ g.l.length ≤ maxLen) :
    Calls Try.prog 56 #[.slice A gs.length c] w fun e w' => RgtR gs w e w' := by
  by_cases hlo : gs.length < 1
  · have HN : Hid (¬ RightG gs) := fun h => by have := (right_len h).1; omega
    have hloi : (gs.length : Int) < 1 := by omega
    generalize gs.length = n at *
    go_enter Try.func56, Try.ntmps56
    go_wp2
    go_ret
    exact RgtR.no rfl HN.out (Below.refl _ _)
  · have hloi : ¬ (gs.length : Int) < 1 := by omega
    by_cases hhi : 1024 < gs.length
    · have HN : Hid (¬ RightG gs) := fun h => by have := (right_len h).2; omega
      have hhii : decide ((1024 : Int) < (gs.length : Int)) = true := decide_eq_true (by omega)
      generalize gs.length = n at *
      go_enter Try.func56, Try.ntmps56
      go_wp2
      go_ret
      exact RgtR.no rfl HN.out (Below.refl _ _)
    · have hhii : decide ((1024 : Int) < (gs.length : Int)) = false := decide_eq_false (by omega)
      have HRI := hidd (right_iff gs (by omega) (by omega))
      obtain ⟨n, hn⟩ : ∃ n, gs.length = n := ⟨_, rfl⟩
      rw [hn] at hloi hhii hlg HRI
      rw [hn]
      have HLN := hidd hn
      have hn1 : 1 ≤ n := by omega
      have hn2 : n ≤ 1024 := by omega
      clear hn hlo hhi hlg
      obtain ⟨i0, hi0, hz0, hz1, hz2⟩ := info_parts int_info
      go_enter Try.func56, Try.ntmps56
      go_wp2
      go_loopw [3, 17] (fun s3 s17 wr => ∃ (k : Nat) (st : List Nat), s17 = .int .i64 (k : Int) ∧ k ≤ n ∧ stk gs k = some st ∧ st.length ≤ k ∧ wr.ownsRow w.heap.size 3 1 s3 st.length (i64s st) ∧ Below w.heap.size w wr) (fun _ s17 _ => n - (intOf s17).toNat)
      case atStart => exact ⟨0, [], rfl, Nat.zero_le _, rfl, Nat.le_refl _, ⟨rfl, .inl ⟨rfl, rfl⟩⟩, Below.refl _ _⟩
      case round =>
        obtain ⟨k, st, rfl, hk0, hstk, hstl, hown, D⟩ := hrel
        have HSTK := hidd hstk
        clear hstk
        by_cases hlt : k < n
        · have hki : (k : Int) < (n : Int) := by omega
          obtain ⟨b1, o1, rfl, hb1, A3, c3, i1, r1⟩ := (hx.below D).at_ (k := k) (by rw [HLN.out]; exact hlt)
          obtain ⟨hnm1, hnm2⟩ := hnm (gs.getD k gd0) (by rw [List.getD_eq_getElem?_getD, List.getElem?_eq_getElem (by rw [HLN.out]; exact hlt)]; exact List.getElem_mem _)
          obtain ⟨g, hgk⟩ : ∃ g, gs.getD k gd0 = g := ⟨_, rfl⟩
          rw [hgk] at i1 r1 hnm1 hnm2
          unfold maxLen at hnm2
          have hbs := D.size
          have Z1 := RowA.new wr 42 zeroC
          have hW1 : Below wr.heap.size wr ((wr.alloc (.cells zeroC 42)).setRow wr.heap.size (gdL g A3 c3).toArray) := bel_setRow ((Below.refl _ _).alloc (Nat.le_refl _) _) _ _ (Nat.le_refl _)
          have R1 := Z1.row (gdL g A3 c3).toArray
          have HGK := hidd hgk
          clear hgk
          go_upto_region 7 with (first
            | refine wpList_load_mid rfl 42 (.tmp 20) rfl b1 (o1 + k * 9) rfl (gdL g A3 c3) _ r1 Try.underlying42 rfl (gdL_info g A3 c3) ?_
            | refine wpList_store_row rfl 42 (.tmp 5) (.tmp 21) rfl wr.heap.size (gdL g A3 c3).toArray rfl rfl 42 zeroC Z1 (gdL_infoA g A3 c3) rfl (gdL_one g A3 c3) ?_)
          have D1 := D.trans (hW1.mono D.size)
          have j1 : Its _ w.heap.size A3 g.l := i1.keep (fun p hp => hW1.cell (p := p) (by omega))
          have hown1 := own_below hown hW1 (Nat.le_refl _)
          have hq : wr.heap.size < ((wr.alloc (.cells zeroC 42)).setRow wr.heap.size (gdL g A3 c3).toArray).heap.size := R1.lt
          have hws : w.heap.size ≤ wr.heap.size := D.size
          change RowA _ _ _ _ at R1
          generalize (wr.alloc (.cells zeroC 42)).setRow wr.heap.size (gdL g A3 c3).toArray = w1 at *
          generalize wr.heap.size = q at *
          have HNM := hidd hnm
          clear Z1 hW1 r1 i1 hown hnm
          obtain ⟨a0, a1, a2, a3, a4, a5, a6, a7, a8⟩ := node_cells R1
          have hfit := fun u => fits_any g A3 c3 u hnm1 (by unfold maxLen; exact hnm2)
          unfold gdL at hfit
          clear hnm1
          have HBN : Hid (g.l.length ≤ maxLen) := by show _ ≤ _; unfold maxLen; exact hnm2
          obtain ⟨A9, c9, rfl⟩ := own_form hown1
          obtain ⟨m, hm⟩ : ∃ m, st.length = m := ⟨_, rfl⟩
          rw [hm] at hstl hown1
          rw [hm]
          have HM := hidd hm
          have HOWN := hidd hown1
          have HIX := hidd hx
          have hmi : (m : Int) ≤ 1024 := by omega
          have hyi : (g.l.length : Int) ≤ 9223372036854775807 := by omega
          have HLE := hidd hstl
          have hki2 : (k : Int) < 1024 := by omega
          clear hm hown1 hx hn1 hn2 hstl hk0 hnm2
          cases hsh : shapeG g with
          | false =>
            have HF : Hid (fitB gs k st = false) := by show _ = _; unfold fitB; rw [HGK.out]; exact decide_eq_false (fun e => by rw [hsh] at e; cases e.1)
            rw [hsh] at hfit
            have HN : Hid (¬ RightG gs) := no_right HRI.out hlt HSTK.out HF.out
            clear HRI HSTK HF hsh
            go_upto_region 8 with fail
            refine wp_region_slots (FtS w1 q g A3 c3) (FaG q (.slice A9 m c9) (.slice A9 m c9) ((m : Int) - (g.l.length : Int)) g A3 c3 true) (by kernel_rfl) (by kernel_rfl) (by kernel_rfl) ?_ ⟨R1, bel_drew (Below.refl _ _)⟩ [3, 5, 6] (by kernel_rfl) ?_ ?_ ?_
            · intro t v u u' h _
              exact ⟨h.1, fun R hR => by
                have h2 := h.2 R hR
                unfold FaGP at hR
                split at hR <;> first | (cases hR; trivial) | cases hR⟩
            · intro u _
              refine ⟨⟨_, rfl, ?_⟩, ⟨_, rfl, ?_⟩, ⟨_, rfl, ?_⟩, trivial⟩
              · exact ⟨fun _ h => Option.some.inj h, fun _ h => no_some h⟩
              · exact ⟨fun _ h => Option.some.inj h, fun _ h => no_some h⟩
              · exact ⟨fun _ h => Option.some.inj h, fun _ h => no_some h⟩
            · refine ⟨?_, ?_, ?_, ?_, ?_, ?_, ?_, ?_, ?_, ?_, ?_, ?_, ?_, ?_, ?_, ?_, trivial⟩
              · intro a u hS hr K hK
                obtain ⟨⟨vl0, e0, g0⟩, -⟩ := hr
                obtain rfl := g0.1 _ rfl
                clear g0
                rw [if_pos (want_none rfl)]
                obtain ⟨c0, c1, c2, c3, c4, c5, c6, c7, c8⟩ := node_cells hS.box
                unfold Oper.wp
                go_simp
                exact hK _ _ ⟨fun _ h => Option.some.inj h, fun _ h => no_some h⟩ hS (Below.refl _ _)
              · intro a u hS hr K hK
                obtain ⟨⟨vl0, e0, g0⟩, -⟩ := hr
                obtain rfl := g0.1 _ rfl
                clear g0
                rw [if_pos (want_none rfl)]
                unfold Oper.wp
                go_simp
                refine (hfit u).mono ?_
                rintro e u1 ⟨rfl, hb⟩
                exact hK _ _ ⟨fun _ h => Option.some.inj h, fun _ h => no_some h⟩ (hS.below hb) hb
              · intro a u hS hr K hK
                obtain ⟨⟨vl0, e0, g0⟩, -⟩ := hr
                obtain rfl := g0.1 _ rfl
                clear g0
                rw [if_pos (want_none rfl)]
                unfold Oper.wp
                go_simp
                exact hK _ _ ⟨fun _ h => Option.some.inj h, fun _ h => no_some h⟩ hS (Below.refl _ _)
              · intro a u hS hr K hK
                obtain ⟨⟨vl0, e0, g0⟩, -⟩ := hr
                obtain rfl := g0.1 _ rfl
                clear g0
                rw [if_pos (want_none rfl)]
                unfold Oper.wp
                go_simp
                exact hK _ _ ⟨fun _ h => Option.some.inj h, fun _ h => no_some h⟩ hS (Below.refl _ _)
              · intro a u hS hr K hK
                obtain ⟨⟨vl0, e0, g0⟩, ⟨vl1, e1, g1⟩, -⟩ := hr
                obtain rfl := g0.1 _ rfl
                clear g0
                obtain rfl := g1.1 _ rfl
                clear g1
                rw [if_neg (unwant rfl rfl rfl e1 (by decide))]
                exact hK _ _ ⟨fun _ h => no_some h, fun _ h => spec_ok h trivial⟩ hS (Below.refl _ _)
              · intro a u hS hr K hK
                obtain ⟨⟨vl0, e0, g0⟩, ⟨vl1, e1, g1⟩, -⟩ := hr
                replace g0 := g0.2 _ rfl
                obtain rfl := g1.1 _ rfl
                clear g1
                rw [if_neg (unwant rfl rfl rfl e1 (by decide))]
                exact hK _ _ ⟨fun _ h => no_some h, fun _ h => spec_ok h trivial⟩ hS (Below.refl _ _)
              · intro a u hS hr K hK
                obtain ⟨⟨vl0, e0, g0⟩, ⟨vl1, e1, g1⟩, -⟩ := hr
                obtain rfl := g0.1 _ rfl
                clear g0
                replace g1 := g1.2 _ rfl
                rw [if_pos (want_none rfl)]
                unfold Oper.wp
                go_simp
                exact hK _ _ ⟨fun _ h => Option.some.inj h, fun _ h => no_some h⟩ hS (Below.refl _ _)
              · intro a u hS hr K hK
                obtain ⟨⟨vl0, e0, g0⟩, -⟩ := hr
                obtain rfl := g0.1 _ rfl
                clear g0
                rw [if_pos (want_none rfl)]
                unfold Oper.wp
                go_simp
                exact hK _ _ ⟨fun _ h => Option.some.inj h, fun _ h => no_some h⟩ hS (Below.refl _ _)
              · intro a u hS hr K hK
                obtain ⟨⟨vl0, e0, g0⟩, ⟨vl1, e1, g1⟩, -⟩ := hr
                obtain rfl := g0.1 _ rfl
                clear g0
                obtain rfl := g1.1 _ rfl
                clear g1
                rw [if_neg (unwant rfl rfl rfl e1 (by decide))]
                exact hK _ _ ⟨fun _ h => no_some h, fun _ h => spec_ok h trivial⟩ hS (Below.refl _ _)
              · intro a u hS hr K hK
                obtain ⟨⟨vl0, e0, g0⟩, ⟨vl1, e1, g1⟩, -⟩ := hr
                obtain rfl := g0.1 _ rfl
                clear g0
                obtain rfl := g1.1 _ rfl
                clear g1
                rw [if_neg (unwant rfl rfl rfl e1 (by decide))]
                exact hK _ _ ⟨fun _ h => no_some h, fun _ h => spec_ok h trivial⟩ hS (Below.refl _ _)
              · intro a u hS hr K hK
                obtain ⟨⟨vl0, e0, g0⟩, ⟨vl1, e1, g1⟩, ⟨vl2, e2, g2⟩, -⟩ := hr
                replace g0 := g0.2 _ rfl
                replace g1 := g1.2 _ rfl
                obtain rfl := g2.1 _ rfl
                clear g2
                rw [if_neg (unwant rfl rfl rfl e2 (by decide))]
                exact hK _ _ ⟨fun _ h => no_some h, fun _ h => spec_ok h trivial⟩ hS (Below.refl _ _)
              · intro a u hS hr K hK
                obtain ⟨⟨vl0, e0, g0⟩, ⟨vl1, e1, g1⟩, -⟩ := hr
                obtain rfl := g0.1 _ rfl
                clear g0
                obtain rfl := g1.1 _ rfl
                clear g1
                rw [if_neg (unwant rfl rfl rfl e1 (by decide))]
                exact hK _ _ ⟨fun _ h => no_some h, fun _ h => spec_ok h trivial⟩ hS (Below.refl _ _)
              · intro a u hS hr K hK
                obtain ⟨⟨vl0, e0, g0⟩, ⟨vl1, e1, g1⟩, -⟩ := hr
                replace g0 := g0.2 _ rfl
                obtain rfl := g1.1 _ rfl
                clear g1
                rw [if_neg (unwant rfl rfl rfl e1 (by decide))]
                exact hK _ _ ⟨fun _ h => no_some h, fun _ h => spec_ok h trivial⟩ hS (Below.refl _ _)
              · intro a u hS hr K hK
                obtain ⟨⟨vl0, e0, g0⟩, ⟨vl1, e1, g1⟩, ⟨vl2, e2, g2⟩, -⟩ := hr
                replace g0 := g0.2 _ rfl
                replace g1 := g1.2 _ rfl
                obtain rfl := g2.1 _ rfl
                clear g2
                rw [if_neg (unwant rfl rfl rfl e2 (by decide))]
                exact hK _ _ ⟨fun _ h => no_some h, fun _ h => spec_ok h trivial⟩ hS (Below.refl _ _)
              · intro a u hS hr K hK
                obtain ⟨⟨vl0, e0, g0⟩, ⟨vl1, e1, g1⟩, -⟩ := hr
                replace g0 := g0.2 _ rfl
                obtain rfl := g1.1 _ rfl
                clear g1
                rw [if_neg (unwant rfl rfl rfl e1 (by decide))]
                exact hK _ _ ⟨fun _ h => no_some h, fun _ h => spec_ok h trivial⟩ hS (Below.refl _ _)
              · intro a u hS hr K hK
                obtain ⟨⟨vl0, e0, g0⟩, ⟨vl1, e1, g1⟩, -⟩ := hr
                obtain rfl := g0.1 _ rfl
                clear g0
                replace g1 := g1.2 _ rfl
                rw [if_pos (want_none rfl)]
                unfold Oper.wp
                go_simp
                exact hK _ _ ⟨fun _ h => Option.some.inj h, fun _ h => no_some h⟩ hS (Below.refl _ _)
            intro a u hS hts hd hkn hf
            have D2 := D1.trans (hS.bel.mono D1.size)
            obtain ⟨v28, e28, g28⟩ := hf 0 _ 28 rfl rfl
            obtain ⟨v29, e29, g29⟩ := hf 1 _ 29 rfl rfl
            obtain ⟨v30, e30, g30⟩ := hf 2 _ 30 rfl rfl
            obtain ⟨v31, e31, g31⟩ := hf 3 _ 31 rfl rfl
            obtain ⟨v32, e32, g32⟩ := hf 4 _ 32 rfl rfl
            obtain ⟨v33, e33, g33⟩ := hf 5 _ 33 rfl rfl
            obtain ⟨v34, e34, g34⟩ := hf 6 _ 34 rfl rfl
            obtain ⟨v35, e35, g35⟩ := hf 7 _ 35 rfl rfl
            obtain ⟨v36, e36, g36⟩ := hf 8 _ 36 rfl rfl
            obtain ⟨v37, e37, g37⟩ := hf 9 _ 37 rfl rfl
            obtain ⟨v38, e38, g38⟩ := hf 10 _ 38 rfl rfl
            obtain ⟨v39, e39, g39⟩ := hf 11 _ 39 rfl rfl
            obtain ⟨v40, e40, g40⟩ := hf 12 _ 40 rfl rfl
            obtain ⟨v41, e41, g41⟩ := hf 13 _ 41 rfl rfl
            obtain ⟨v42, e42, g42⟩ := hf 14 _ 42 rfl rfl
            obtain ⟨v43, e43, g43⟩ := hf 15 _ 43 rfl rfl
            have hA := act_puts [(28, v28), (29, v29), (30, v30), (31, v31), (32, v32), (33, v33), (34, v34), (35, v35), (36, v36), (37, v37), (38, v38), (39, v39), (40, v40), (41, v41), (42, v42), (43, v43)] hts hd hkn (by kernel_rfl) (by simp [e28, e29, e30, e31, e32, e33, e34, e35, e36, e37, e38, e39, e40, e41, e42, e43])
            clear hf hts hd hkn e28 e29 e30 e31 e32 e33 e34 e35 e36 e37 e38 e39 e40 e41 e42 e43
            obtain rfl := g28.1 _ rfl
            clear g28
            obtain rfl := g29.1 _ rfl
            clear g29
            obtain rfl := g30.1 _ rfl
            clear g30
            obtain rfl := g31.1 _ rfl
            clear g31
            replace g32 := g32.2 _ rfl
            replace g33 := g33.2 _ rfl
            obtain rfl := g34.1 _ rfl
            clear g34
            obtain rfl := g35.1 _ rfl
            clear g35
            replace g36 := g36.2 _ rfl
            replace g37 := g37.2 _ rfl
            replace g38 := g38.2 _ rfl
            replace g39 := g39.2 _ rfl
            replace g40 := g40.2 _ rfl
            replace g41 := g41.2 _ rfl
            replace g42 := g42.2 _ rfl
            obtain rfl := g43.1 _ rfl
            clear g43
            subst hA
            simp only [List.foldl, List.setIfInBounds_toArray, List.set_cons_zero, List.set_cons_succ]
            simp only [Exit.then]
            apply_assumption
            go_wp2
            go_ret
            exact RgtR.no rfl HN.out D2
          | true =>
            rw [hsh] at hfit
            by_cases hr : g.l.length ≤ m
            · obtain ⟨r, hrr⟩ : ∃ r : Nat, (m : Int) - (g.l.length : Int) = (r : Int) := ⟨m - g.l.length, by omega⟩
              have HRM := hidd hrr
              have hri : (r : Int) ≤ (m : Int) := by omega
              have hr0 : (0 : Int) ≤ (r : Int) := by omega
              have hrd : decide ((r : Int) < 0) = false := decide_eq_false (by omega)
              have HSH := hidd hsh
              obtain ⟨s38, hs38⟩ : ∃ s38, s38 = Value.slice (if c9 = r then A9 else A9.map (·.add r)) (m - r) (c9 - r) := ⟨_, rfl⟩
              have HS38 := hidd hs38
              have HEQ : Hid (∀ z : Bool, z = decide ((st.drop r).map (fun k : Nat => (k : Int)) = g.l) → ∀ u : World, Below w1.heap.size w1 u → Calls Try.prog 71 #[s38, .slice A3 g.l.length c3] u fun e w' => e = .returned (.bool z) ∧ Below u.heap.size u w') := fun z hz u hu => by
                rw [HS38.out]
                have e1 : m - r = g.l.length := by omega
                rw [e1]
                refine (equal_any w1.heap.size _ A3 g.l.length _ c3 _ g.l (its_cut HOWN.out HM.out |>.below hu) ((j1.more (by omega)).below hu) (by have := HM.out; simp; omega) rfl (by omega)).mono ?_
                rintro e w' ⟨rfl, q, rfl⟩
                exact ⟨by rw [hz], bel_drewN (Below.refl _ _) q⟩
              clear hs38 hsh hr hrr
              by_cases hz : (st.drop r).map (fun k : Nat => (k : Int)) = g.l
              · have HGO := hidd (stk_go HSTK.out (by rw [HGK.out]; exact HSH.out) (by have := HM.out; have := HRM.out; rw [HGK.out]; omega) (by have h1 := HM.out; have h2 := HRM.out; rw [HGK.out, (by omega : st.length - g.l.length = r)]; exact hz))
                have heq := HEQ.out true (decide_eq_true hz).symm
                clear HEQ hz HSTK
                go_upto_region 8 with fail
                rw [HRM.out]
                refine wp_region_slots (FtS w1 q g A3 c3) (FcG q (.slice A9 m c9) s38 (r : Int) g A3 c3 true) (by kernel_rfl) (by kernel_rfl) (by kernel_rfl) ?_ ⟨R1, bel_drew (Below.refl _ _)⟩ [3, 5, 6] (by kernel_rfl) ?_ ?_ ?_
                · intro t v u u' h _
                  exact ⟨h.1, fun R hR => by
                    have h2 := h.2 R hR
                    unfold FcGP at hR
                    split at hR <;> first | (cases hR; trivial) | cases hR⟩
                · intro u _
                  refine ⟨⟨_, rfl, ?_⟩, ⟨_, rfl, ?_⟩, ⟨_, rfl, ?_⟩, trivial⟩
                  · exact ⟨fun _ h => Option.some.inj h, fun _ h => no_some h⟩
                  · exact ⟨fun _ h => Option.some.inj h, fun _ h => no_some h⟩
                  · exact ⟨fun _ h => Option.some.inj h, fun _ h => no_some h⟩
                · refine ⟨?_, ?_, ?_, ?_, ?_, ?_, ?_, ?_, ?_, ?_, ?_, ?_, ?_, ?_, ?_, ?_, trivial⟩
                  · intro a u hS hr K hK
                    obtain ⟨⟨vl0, e0, g0⟩, -⟩ := hr
                    obtain rfl := g0.1 _ rfl
                    clear g0
                    rw [if_pos (want_none rfl)]
                    obtain ⟨c0, c1, c2, c3, c4, c5, c6, c7, c8⟩ := node_cells hS.box
                    unfold Oper.wp
                    go_simp
                    exact hK _ _ ⟨fun _ h => Option.some.inj h, fun _ h => no_some h⟩ hS (Below.refl _ _)
                  · intro a u hS hr K hK
                    obtain ⟨⟨vl0, e0, g0⟩, -⟩ := hr
                    obtain rfl := g0.1 _ rfl
                    clear g0
                    rw [if_pos (want_none rfl)]
                    unfold Oper.wp
                    go_simp
                    refine (hfit u).mono ?_
                    rintro e u1 ⟨rfl, hb⟩
                    exact hK _ _ ⟨fun _ h => Option.some.inj h, fun _ h => no_some h⟩ (hS.below hb) hb
                  · intro a u hS hr K hK
                    obtain ⟨⟨vl0, e0, g0⟩, -⟩ := hr
                    obtain rfl := g0.1 _ rfl
                    clear g0
                    rw [if_pos (want_none rfl)]
                    unfold Oper.wp
                    go_simp
                    exact hK _ _ ⟨fun _ h => Option.some.inj h, fun _ h => no_some h⟩ hS (Below.refl _ _)
                  · intro a u hS hr K hK
                    obtain ⟨⟨vl0, e0, g0⟩, -⟩ := hr
                    obtain rfl := g0.1 _ rfl
                    clear g0
                    rw [if_pos (want_none rfl)]
                    unfold Oper.wp
                    go_simp
                    exact hK _ _ ⟨fun _ h => Option.some.inj h, fun _ h => no_some h⟩ hS (Below.refl _ _)
                  · intro a u hS hr K hK
                    obtain ⟨⟨vl0, e0, g0⟩, ⟨vl1, e1, g1⟩, -⟩ := hr
                    obtain rfl := g0.1 _ rfl
                    clear g0
                    obtain rfl := g1.1 _ rfl
                    clear g1
                    rw [if_pos (want_some rfl rfl rfl e1)]
                    unfold Oper.wp
                    go_simp
                    exact hK _ _ ⟨fun _ h => Option.some.inj h, fun _ h => no_some h⟩ hS (Below.refl _ _)
                  · intro a u hS hr K hK
                    obtain ⟨⟨vl0, e0, g0⟩, ⟨vl1, e1, g1⟩, -⟩ := hr
                    obtain rfl := g0.1 _ rfl
                    clear g0
                    obtain rfl := g1.1 _ rfl
                    clear g1
                    rw [if_pos (want_some rfl rfl rfl e1)]
                    unfold Oper.wp
                    go_simp
                    exact hK _ _ ⟨fun _ h => Option.some.inj h, fun _ h => no_some h⟩ hS (Below.refl _ _)
                  · intro a u hS hr K hK
                    obtain ⟨⟨vl0, e0, g0⟩, ⟨vl1, e1, g1⟩, -⟩ := hr
                    obtain rfl := g0.1 _ rfl
                    clear g0
                    obtain rfl := g1.1 _ rfl
                    clear g1
                    rw [if_pos (want_none rfl)]
                    unfold Oper.wp
                    go_simp
                    exact hK _ _ ⟨fun _ h => Option.some.inj h, fun _ h => no_some h⟩ hS (Below.refl _ _)
                  · intro a u hS hr K hK
                    obtain ⟨⟨vl0, e0, g0⟩, -⟩ := hr
                    obtain rfl := g0.1 _ rfl
                    clear g0
                    rw [if_pos (want_none rfl)]
                    unfold Oper.wp
                    go_simp
                    exact hK _ _ ⟨fun _ h => Option.some.inj h, fun _ h => no_some h⟩ hS (Below.refl _ _)
                  · intro a u hS hr K hK
                    obtain ⟨⟨vl0, e0, g0⟩, ⟨vl1, e1, g1⟩, -⟩ := hr
                    obtain rfl := g0.1 _ rfl
                    clear g0
                    obtain rfl := g1.1 _ rfl
                    clear g1
                    rw [if_pos (want_some rfl rfl rfl e1)]
                    unfold Oper.wp
                    go_simp
                    exact hK _ _ ⟨fun _ h => Option.some.inj h, fun _ h => no_some h⟩ hS (Below.refl _ _)
                  · intro a u hS hr K hK
                    obtain ⟨⟨vl0, e0, g0⟩, ⟨vl1, e1, g1⟩, -⟩ := hr
                    obtain rfl := g0.1 _ rfl
                    clear g0
                    obtain rfl := g1.1 _ rfl
                    clear g1
                    rw [if_pos (want_some rfl rfl rfl e1)]
                    unfold Oper.wp
                    go_simp
                    exact hK _ _ ⟨fun _ h => Option.some.inj h, fun _ h => no_some h⟩ hS (Below.refl _ _)
                  · intro a u hS hr K hK
                    obtain ⟨⟨vl0, e0, g0⟩, ⟨vl1, e1, g1⟩, ⟨vl2, e2, g2⟩, -⟩ := hr
                    obtain rfl := g0.1 _ rfl
                    clear g0
                    obtain rfl := g1.1 _ rfl
                    clear g1
                    obtain rfl := g2.1 _ rfl
                    clear g2
                    rw [if_pos (want_some rfl rfl rfl e2)]
                    have h38 := HS38.out
                    subst h38
                    unfold Oper.wp
                    go_simp
                    exact hK _ _ ⟨fun _ h => Option.some.inj h, fun _ h => no_some h⟩ hS (Below.refl _ _)
                  · intro a u hS hr K hK
                    obtain ⟨⟨vl0, e0, g0⟩, ⟨vl1, e1, g1⟩, -⟩ := hr
                    obtain rfl := g0.1 _ rfl
                    clear g0
                    obtain rfl := g1.1 _ rfl
                    clear g1
                    rw [if_pos (want_some rfl rfl rfl e1)]
                    unfold Oper.wp
                    go_simp
                    exact hK _ _ ⟨fun _ h => Option.some.inj h, fun _ h => no_some h⟩ hS (Below.refl _ _)
                  · intro a u hS hr K hK
                    obtain ⟨⟨vl0, e0, g0⟩, ⟨vl1, e1, g1⟩, -⟩ := hr
                    obtain rfl := g0.1 _ rfl
                    clear g0
                    obtain rfl := g1.1 _ rfl
                    clear g1
                    rw [if_pos (want_some rfl rfl rfl e1)]
                    obtain ⟨c0, c1, c2, c3, c4, c5, c6, c7, c8⟩ := node_cells hS.box
                    unfold Oper.wp
                    go_simp
                    exact hK _ _ ⟨fun _ h => Option.some.inj h, fun _ h => no_some h⟩ hS (Below.refl _ _)
                  · intro a u hS hr K hK
                    obtain ⟨⟨vl0, e0, g0⟩, ⟨vl1, e1, g1⟩, ⟨vl2, e2, g2⟩, -⟩ := hr
                    obtain rfl := g0.1 _ rfl
                    clear g0
                    obtain rfl := g1.1 _ rfl
                    clear g1
                    obtain rfl := g2.1 _ rfl
                    clear g2
                    rw [if_pos (want_some rfl rfl rfl e2)]
                    unfold Oper.wp
                    go_simp
                    refine (heq u hS.bel).mono ?_
                    rintro e u1 ⟨rfl, hb⟩
                    exact hK _ _ ⟨fun _ h => Option.some.inj h, fun _ h => no_some h⟩ (hS.below hb) hb
                  · intro a u hS hr K hK
                    obtain ⟨⟨vl0, e0, g0⟩, ⟨vl1, e1, g1⟩, -⟩ := hr
                    obtain rfl := g0.1 _ rfl
                    clear g0
                    obtain rfl := g1.1 _ rfl
                    clear g1
                    rw [if_pos (want_some rfl rfl rfl e1)]
                    unfold Oper.wp
                    go_simp
                    exact hK _ _ ⟨fun _ h => Option.some.inj h, fun _ h => no_some h⟩ hS (Below.refl _ _)
                  · intro a u hS hr K hK
                    obtain ⟨⟨vl0, e0, g0⟩, ⟨vl1, e1, g1⟩, -⟩ := hr
                    obtain rfl := g0.1 _ rfl
                    clear g0
                    obtain rfl := g1.1 _ rfl
                    clear g1
                    rw [if_pos (want_none rfl)]
                    unfold Oper.wp
                    go_simp
                    exact hK _ _ ⟨fun _ h => Option.some.inj h, fun _ h => no_some h⟩ hS (Below.refl _ _)
                intro a u hS hts hd hkn hf
                have D2 := D1.trans (hS.bel.mono D1.size)
                have HOWN2 := hidd (own_below HOWN.out hS.bel (Nat.le_refl _))
                obtain ⟨v28, e28, g28⟩ := hf 0 _ 28 rfl rfl
                obtain ⟨v29, e29, g29⟩ := hf 1 _ 29 rfl rfl
                obtain ⟨v30, e30, g30⟩ := hf 2 _ 30 rfl rfl
                obtain ⟨v31, e31, g31⟩ := hf 3 _ 31 rfl rfl
                obtain ⟨v32, e32, g32⟩ := hf 4 _ 32 rfl rfl
                obtain ⟨v33, e33, g33⟩ := hf 5 _ 33 rfl rfl
                obtain ⟨v34, e34, g34⟩ := hf 6 _ 34 rfl rfl
                obtain ⟨v35, e35, g35⟩ := hf 7 _ 35 rfl rfl
                obtain ⟨v36, e36, g36⟩ := hf 8 _ 36 rfl rfl
                obtain ⟨v37, e37, g37⟩ := hf 9 _ 37 rfl rfl
                obtain ⟨v38, e38, g38⟩ := hf 10 _ 38 rfl rfl
                obtain ⟨v39, e39, g39⟩ := hf 11 _ 39 rfl rfl
                obtain ⟨v40, e40, g40⟩ := hf 12 _ 40 rfl rfl
                obtain ⟨v41, e41, g41⟩ := hf 13 _ 41 rfl rfl
                obtain ⟨v42, e42, g42⟩ := hf 14 _ 42 rfl rfl
                obtain ⟨v43, e43, g43⟩ := hf 15 _ 43 rfl rfl
                have hA := act_puts [(28, v28), (29, v29), (30, v30), (31, v31), (32, v32), (33, v33), (34, v34), (35, v35), (36, v36), (37, v37), (38, v38), (39, v39), (40, v40), (41, v41), (42, v42), (43, v43)] hts hd hkn (by kernel_rfl) (by simp [e28, e29, e30, e31, e32, e33, e34, e35, e36, e37, e38, e39, e40, e41, e42, e43])
                clear hf hts hd hkn e28 e29 e30 e31 e32 e33 e34 e35 e36 e37 e38 e39 e40 e41 e42 e43
                obtain rfl := g28.1 _ rfl
                clear g28
                obtain rfl := g29.1 _ rfl
                clear g29
                obtain rfl := g30.1 _ rfl
                clear g30
                obtain rfl := g31.1 _ rfl
                clear g31
                obtain rfl := g32.1 _ rfl
                clear g32
                obtain rfl := g33.1 _ rfl
                clear g33
                obtain rfl := g34.1 _ rfl
                clear g34
                obtain rfl := g35.1 _ rfl
                clear g35
                obtain rfl := g36.1 _ rfl
                clear g36
                obtain rfl := g37.1 _ rfl
                clear g37
                obtain rfl := g38.1 _ rfl
                clear g38
                obtain rfl := g39.1 _ rfl
                clear g39
                obtain rfl := g40.1 _ rfl
                clear g40
                obtain rfl := g41.1 _ rfl
                clear g41
                obtain rfl := g42.1 _ rfl
                clear g42
                obtain rfl := g43.1 _ rfl
                clear g43
                subst hA
                simp only [List.foldl, List.setIfInBounds_toArray, List.set_cons_zero, List.set_cons_succ]
                simp only [Exit.then]
                apply_assumption
                clear heq HS38 HRI hfit hrd a0 a1 a2 a3 a4 a5 a6 a7 a8 R1 j1
                have HT : Hid (m - g.l.length = r) := by have := HRM.out; show _ = _; omega
                rcases HOWN2.out.2 with ⟨hv, hn0⟩ | ⟨g3, cap, cur, hv, hg3, hh3, h31, h32, h33, h34⟩
                · cases hv
                  have hr00 : r = 0 := by omega
                  subst hr00
                  have hown : (u.alloc (.cells #[.int .i64 (k : Int)] 3)).ownsRow w.heap.size 3 1 (.slice none 0 0) 0 (i64s (st.take 0)) := ⟨by simp [i64s], .inl ⟨rfl, rfl⟩⟩
                  have hnews := int_one u (k : Int)
                  have hz5 : (u.alloc (.cells #[.int .i64 (k : Int)] 3)).heap.size = u.heap.size + 1 := World.size_alloc ..
                  go_wp2_with (at_builtin; refine wpList_append_lies _ rfl _ _ _ rfl w.heap.size 3 i0 (.int .i64 0) 1 8 Try.underlying23 hi0 hz0 hz1 hz2 rfl (by omega) _ 0 (i64s (st.take 0)) rfl hown ⟨u.heap.size, 0, none⟩ 1 1 [.int .i64 (k : Int)] rfl rfl hnews (by simp [Value.oneCell']) (by omega) (by simp only [maxLen]; omega) (by omega) (by have := D2.size; omega) (u.heap.size + 1) hz5 ?_; intro g6 cap6 w6 hown6 hgrow hat hlt6; refine Hid.out ?_)
                  have D6 := bel_own (D2.alloc (Nat.le_trans (Nat.le_refl _) D2.size) (.cells #[.int .i64 (k : Int)] 3)) hgrow (fun j e => by cases e) (Nat.le_refl _)
                  have HREL : Hid (∃ st' : List Nat, stk gs (k + 1) = some st' ∧ st'.length ≤ k + 1 ∧ w6.ownsRow w.heap.size 3 1 (.slice (some ⟨g6, 0, none⟩) (0 + 1) cap6) st'.length (i64s st')) := by
                    refine ⟨st.take 0 ++ [k], by have h := HGO.out; rw [HGK.out, HM.out, HT.out] at h; exact h, ?_, ?_⟩
                    · have h1 := HM.out
                      have h2 := HLE.out
                      simp
                      try omega
                    · have h1 := HM.out
                      have e : (st.take 0 ++ [k]).length = 0 + 1 := by (simp; try omega)
                      rw [e, ← i64s_snoc]
                      exact hown6
                  have HD6 := hidd D6
                  clear hown6 hgrow hat hlt6 hown hnews hz5 D6 D2 hS
                  refine Lib.hid ?_
                  go_wp2
                  obtain ⟨st', e1, e2, e3⟩ := HREL.out
                  exact ⟨⟨k + 1, st', rfl, hlt, e1, e2, e3, HD6.out⟩, by simp [intOf]; omega⟩
                · cases hv
                  have hcap : (m : Int) ≤ (c9 : Int) := by omega
                  have hrc : (r : Int) ≤ (c9 : Int) := by omega
                  have hown := own_below (own_cut HOWN2.out (r := r) (by omega) HM.out.symm) ((Below.refl u.heap.size u).alloc (Nat.le_refl _) (.cells #[.int .i64 (k : Int)] 3)) (Nat.le_refl _)
                  have hnews := int_one u (k : Int)
                  have hz5 : (u.alloc (.cells #[.int .i64 (k : Int)] 3)).heap.size = u.heap.size + 1 := World.size_alloc ..
                  clear hh3 h31 h32 h33 h34
                  go_wp2_with (at_builtin; refine wpList_append_lies _ rfl _ _ _ rfl w.heap.size 3 i0 (.int .i64 0) 1 8 Try.underlying23 hi0 hz0 hz1 hz2 rfl (by omega) _ r (i64s (st.take r)) rfl hown ⟨u.heap.size, 0, none⟩ 1 1 [.int .i64 (k : Int)] rfl rfl hnews (by simp [Value.oneCell']) (by omega) (by simp only [maxLen]; omega) (by omega) (by have := D2.size; omega) (u.heap.size + 1) hz5 ?_; intro g6 cap6 w6 hown6 hgrow hat hlt6; refine Hid.out ?_)
                  have D6 := bel_own (D2.alloc (Nat.le_trans (Nat.le_refl _) D2.size) (.cells #[.int .i64 (k : Int)] 3)) hgrow (fun j e => by cases e; exact hg3) (Nat.le_refl _)
                  have HREL : Hid (∃ st' : List Nat, stk gs (k + 1) = some st' ∧ st'.length ≤ k + 1 ∧ w6.ownsRow w.heap.size 3 1 (.slice (some ⟨g6, 0, none⟩) (r + 1) cap6) st'.length (i64s st')) := by
                    refine ⟨st.take r ++ [k], by have h := HGO.out; rw [HGK.out, HM.out, HT.out] at h; exact h, ?_, ?_⟩
                    · have h1 := HM.out
                      have h2 := HLE.out
                      simp
                      try omega
                    · have h1 := HM.out
                      have e : (st.take r ++ [k]).length = r + 1 := by (simp; try omega)
                      rw [e, ← i64s_snoc]
                      exact hown6
                  have HD6 := hidd D6
                  clear hown6 hgrow hat hlt6 hown hnews hz5 D6 D2 hS
                  refine Lib.hid ?_
                  go_wp2
                  obtain ⟨st', e1, e2, e3⟩ := HREL.out
                  exact ⟨⟨k + 1, st', rfl, hlt, e1, e2, e3, HD6.out⟩, by simp [intOf]; omega⟩
              · have HF : Hid (fitB gs k st = false) := by show _ = _; unfold fitB; rw [HGK.out, HM.out]; exact decide_eq_false (fun e => hz (by have h2 := HRM.out; have h3 := e.2.2; rw [(by omega : m - g.l.length = r)] at h3; exact h3))
                have HN : Hid (¬ RightG gs) := no_right HRI.out hlt HSTK.out HF.out
                have heq := HEQ.out false (decide_eq_false hz).symm
                clear HEQ hz HRI HSTK HF
                go_upto_region 8 with fail
                rw [HRM.out]
                refine wp_region_slots (FtS w1 q g A3 c3) (FcG q (.slice A9 m c9) s38 (r : Int) g A3 c3 false) (by kernel_rfl) (by kernel_rfl) (by kernel_rfl) ?_ ⟨R1, bel_drew (Below.refl _ _)⟩ [3, 5, 6] (by kernel_rfl) ?_ ?_ ?_
                · intro t v u u' h _
                  exact ⟨h.1, fun R hR => by
                    have h2 := h.2 R hR
                    unfold FcGP at hR
                    split at hR <;> first | (cases hR; trivial) | cases hR⟩
                · intro u _
                  refine ⟨⟨_, rfl, ?_⟩, ⟨_, rfl, ?_⟩, ⟨_, rfl, ?_⟩, trivial⟩
                  · exact ⟨fun _ h => Option.some.inj h, fun _ h => no_some h⟩
                  · exact ⟨fun _ h => Option.some.inj h, fun _ h => no_some h⟩
                  · exact ⟨fun _ h => Option.some.inj h, fun _ h => no_some h⟩
                · refine ⟨?_, ?_, ?_, ?_, ?_, ?_, ?_, ?_, ?_, ?_, ?_, ?_, ?_, ?_, ?_, ?_, trivial⟩
                  · intro a u hS hr K hK
                    obtain ⟨⟨vl0, e0, g0⟩, -⟩ := hr
                    obtain rfl := g0.1 _ rfl
                    clear g0
                    rw [if_pos (want_none rfl)]
                    obtain ⟨c0, c1, c2, c3, c4, c5, c6, c7, c8⟩ := node_cells hS.box
                    unfold Oper.wp
                    go_simp
                    exact hK _ _ ⟨fun _ h => Option.some.inj h, fun _ h => no_some h⟩ hS (Below.refl _ _)
                  · intro a u hS hr K hK
                    obtain ⟨⟨vl0, e0, g0⟩, -⟩ := hr
                    obtain rfl := g0.1 _ rfl
                    clear g0
                    rw [if_pos (want_none rfl)]
                    unfold Oper.wp
                    go_simp
                    refine (hfit u).mono ?_
                    rintro e u1 ⟨rfl, hb⟩
                    exact hK _ _ ⟨fun _ h => Option.some.inj h, fun _ h => no_some h⟩ (hS.below hb) hb
                  · intro a u hS hr K hK
                    obtain ⟨⟨vl0, e0, g0⟩, -⟩ := hr
                    obtain rfl := g0.1 _ rfl
                    clear g0
                    rw [if_pos (want_none rfl)]
                    unfold Oper.wp
                    go_simp
                    exact hK _ _ ⟨fun _ h => Option.some.inj h, fun _ h => no_some h⟩ hS (Below.refl _ _)
                  · intro a u hS hr K hK
                    obtain ⟨⟨vl0, e0, g0⟩, -⟩ := hr
                    obtain rfl := g0.1 _ rfl
                    clear g0
                    rw [if_pos (want_none rfl)]
                    unfold Oper.wp
                    go_simp
                    exact hK _ _ ⟨fun _ h => Option.some.inj h, fun _ h => no_some h⟩ hS (Below.refl _ _)
                  · intro a u hS hr K hK
                    obtain ⟨⟨vl0, e0, g0⟩, ⟨vl1, e1, g1⟩, -⟩ := hr
                    obtain rfl := g0.1 _ rfl
                    clear g0
                    obtain rfl := g1.1 _ rfl
                    clear g1
                    rw [if_pos (want_some rfl rfl rfl e1)]
                    unfold Oper.wp
                    go_simp
                    exact hK _ _ ⟨fun _ h => Option.some.inj h, fun _ h => no_some h⟩ hS (Below.refl _ _)
                  · intro a u hS hr K hK
                    obtain ⟨⟨vl0, e0, g0⟩, ⟨vl1, e1, g1⟩, -⟩ := hr
                    obtain rfl := g0.1 _ rfl
                    clear g0
                    obtain rfl := g1.1 _ rfl
                    clear g1
                    rw [if_pos (want_some rfl rfl rfl e1)]
                    unfold Oper.wp
                    go_simp
                    exact hK _ _ ⟨fun _ h => Option.some.inj h, fun _ h => no_some h⟩ hS (Below.refl _ _)
                  · intro a u hS hr K hK
                    obtain ⟨⟨vl0, e0, g0⟩, ⟨vl1, e1, g1⟩, -⟩ := hr
                    obtain rfl := g0.1 _ rfl
                    clear g0
                    obtain rfl := g1.1 _ rfl
                    clear g1
                    rw [if_pos (want_none rfl)]
                    unfold Oper.wp
                    go_simp
                    exact hK _ _ ⟨fun _ h => Option.some.inj h, fun _ h => no_some h⟩ hS (Below.refl _ _)
                  · intro a u hS hr K hK
                    obtain ⟨⟨vl0, e0, g0⟩, -⟩ := hr
                    obtain rfl := g0.1 _ rfl
                    clear g0
                    rw [if_pos (want_none rfl)]
                    unfold Oper.wp
                    go_simp
                    exact hK _ _ ⟨fun _ h => Option.some.inj h, fun _ h => no_some h⟩ hS (Below.refl _ _)
                  · intro a u hS hr K hK
                    obtain ⟨⟨vl0, e0, g0⟩, ⟨vl1, e1, g1⟩, -⟩ := hr
                    obtain rfl := g0.1 _ rfl
                    clear g0
                    obtain rfl := g1.1 _ rfl
                    clear g1
                    rw [if_pos (want_some rfl rfl rfl e1)]
                    unfold Oper.wp
                    go_simp
                    exact hK _ _ ⟨fun _ h => Option.some.inj h, fun _ h => no_some h⟩ hS (Below.refl _ _)
                  · intro a u hS hr K hK
                    obtain ⟨⟨vl0, e0, g0⟩, ⟨vl1, e1, g1⟩, -⟩ := hr
                    obtain rfl := g0.1 _ rfl
                    clear g0
                    obtain rfl := g1.1 _ rfl
                    clear g1
                    rw [if_pos (want_some rfl rfl rfl e1)]
                    unfold Oper.wp
                    go_simp
                    exact hK _ _ ⟨fun _ h => Option.some.inj h, fun _ h => no_some h⟩ hS (Below.refl _ _)
                  · intro a u hS hr K hK
                    obtain ⟨⟨vl0, e0, g0⟩, ⟨vl1, e1, g1⟩, ⟨vl2, e2, g2⟩, -⟩ := hr
                    obtain rfl := g0.1 _ rfl
                    clear g0
                    obtain rfl := g1.1 _ rfl
                    clear g1
                    obtain rfl := g2.1 _ rfl
                    clear g2
                    rw [if_pos (want_some rfl rfl rfl e2)]
                    have h38 := HS38.out
                    subst h38
                    unfold Oper.wp
                    go_simp
                    exact hK _ _ ⟨fun _ h => Option.some.inj h, fun _ h => no_some h⟩ hS (Below.refl _ _)
                  · intro a u hS hr K hK
                    obtain ⟨⟨vl0, e0, g0⟩, ⟨vl1, e1, g1⟩, -⟩ := hr
                    obtain rfl := g0.1 _ rfl
                    clear g0
                    obtain rfl := g1.1 _ rfl
                    clear g1
                    rw [if_pos (want_some rfl rfl rfl e1)]
                    unfold Oper.wp
                    go_simp
                    exact hK _ _ ⟨fun _ h => Option.some.inj h, fun _ h => no_some h⟩ hS (Below.refl _ _)
                  · intro a u hS hr K hK
                    obtain ⟨⟨vl0, e0, g0⟩, ⟨vl1, e1, g1⟩, -⟩ := hr
                    obtain rfl := g0.1 _ rfl
                    clear g0
                    obtain rfl := g1.1 _ rfl
                    clear g1
                    rw [if_pos (want_some rfl rfl rfl e1)]
                    obtain ⟨c0, c1, c2, c3, c4, c5, c6, c7, c8⟩ := node_cells hS.box
                    unfold Oper.wp
                    go_simp
                    exact hK _ _ ⟨fun _ h => Option.some.inj h, fun _ h => no_some h⟩ hS (Below.refl _ _)
                  · intro a u hS hr K hK
                    obtain ⟨⟨vl0, e0, g0⟩, ⟨vl1, e1, g1⟩, ⟨vl2, e2, g2⟩, -⟩ := hr
                    obtain rfl := g0.1 _ rfl
                    clear g0
                    obtain rfl := g1.1 _ rfl
                    clear g1
                    obtain rfl := g2.1 _ rfl
                    clear g2
                    rw [if_pos (want_some rfl rfl rfl e2)]
                    unfold Oper.wp
                    go_simp
                    refine (heq u hS.bel).mono ?_
                    rintro e u1 ⟨rfl, hb⟩
                    exact hK _ _ ⟨fun _ h => Option.some.inj h, fun _ h => no_some h⟩ (hS.below hb) hb
                  · intro a u hS hr K hK
                    obtain ⟨⟨vl0, e0, g0⟩, ⟨vl1, e1, g1⟩, -⟩ := hr
                    obtain rfl := g0.1 _ rfl
                    clear g0
                    obtain rfl := g1.1 _ rfl
                    clear g1
                    rw [if_pos (want_some rfl rfl rfl e1)]
                    unfold Oper.wp
                    go_simp
                    exact hK _ _ ⟨fun _ h => Option.some.inj h, fun _ h => no_some h⟩ hS (Below.refl _ _)
                  · intro a u hS hr K hK
                    obtain ⟨⟨vl0, e0, g0⟩, ⟨vl1, e1, g1⟩, -⟩ := hr
                    obtain rfl := g0.1 _ rfl
                    clear g0
                    obtain rfl := g1.1 _ rfl
                    clear g1
                    rw [if_pos (want_none rfl)]
                    unfold Oper.wp
                    go_simp
                    exact hK _ _ ⟨fun _ h => Option.some.inj h, fun _ h => no_some h⟩ hS (Below.refl _ _)
                intro a u hS hts hd hkn hf
                have D2 := D1.trans (hS.bel.mono D1.size)
                obtain ⟨v28, e28, g28⟩ := hf 0 _ 28 rfl rfl
                obtain ⟨v29, e29, g29⟩ := hf 1 _ 29 rfl rfl
                obtain ⟨v30, e30, g30⟩ := hf 2 _ 30 rfl rfl
                obtain ⟨v31, e31, g31⟩ := hf 3 _ 31 rfl rfl
                obtain ⟨v32, e32, g32⟩ := hf 4 _ 32 rfl rfl
                obtain ⟨v33, e33, g33⟩ := hf 5 _ 33 rfl rfl
                obtain ⟨v34, e34, g34⟩ := hf 6 _ 34 rfl rfl
                obtain ⟨v35, e35, g35⟩ := hf 7 _ 35 rfl rfl
                obtain ⟨v36, e36, g36⟩ := hf 8 _ 36 rfl rfl
                obtain ⟨v37, e37, g37⟩ := hf 9 _ 37 rfl rfl
                obtain ⟨v38, e38, g38⟩ := hf 10 _ 38 rfl rfl
                obtain ⟨v39, e39, g39⟩ := hf 11 _ 39 rfl rfl
                obtain ⟨v40, e40, g40⟩ := hf 12 _ 40 rfl rfl
                obtain ⟨v41, e41, g41⟩ := hf 13 _ 41 rfl rfl
                obtain ⟨v42, e42, g42⟩ := hf 14 _ 42 rfl rfl
                obtain ⟨v43, e43, g43⟩ := hf 15 _ 43 rfl rfl
                have hA := act_puts [(28, v28), (29, v29), (30, v30), (31, v31), (32, v32), (33, v33), (34, v34), (35, v35), (36, v36), (37, v37), (38, v38), (39, v39), (40, v40), (41, v41), (42, v42), (43, v43)] hts hd hkn (by kernel_rfl) (by simp [e28, e29, e30, e31, e32, e33, e34, e35, e36, e37, e38, e39, e40, e41, e42, e43])
                clear hf hts hd hkn e28 e29 e30 e31 e32 e33 e34 e35 e36 e37 e38 e39 e40 e41 e42 e43
                obtain rfl := g28.1 _ rfl
                clear g28
                obtain rfl := g29.1 _ rfl
                clear g29
                obtain rfl := g30.1 _ rfl
                clear g30
                obtain rfl := g31.1 _ rfl
                clear g31
                obtain rfl := g32.1 _ rfl
                clear g32
                obtain rfl := g33.1 _ rfl
                clear g33
                obtain rfl := g34.1 _ rfl
                clear g34
                obtain rfl := g35.1 _ rfl
                clear g35
                obtain rfl := g36.1 _ rfl
                clear g36
                obtain rfl := g37.1 _ rfl
                clear g37
                obtain rfl := g38.1 _ rfl
                clear g38
                obtain rfl := g39.1 _ rfl
                clear g39
                obtain rfl := g40.1 _ rfl
                clear g40
                obtain rfl := g41.1 _ rfl
                clear g41
                obtain rfl := g42.1 _ rfl
                clear g42
                obtain rfl := g43.1 _ rfl
                clear g43
                subst hA
                simp only [List.foldl, List.setIfInBounds_toArray, List.set_cons_zero, List.set_cons_succ]
                simp only [Exit.then]
                apply_assumption
                go_wp2
                go_ret
                exact RgtR.no rfl HN.out D2
            · have HF : Hid (fitB gs k st = false) := by show _ = _; unfold fitB; rw [HGK.out, HM.out]; exact decide_eq_false (fun e => hr e.2.1)
              have hrd : decide ((m : Int) - (g.l.length : Int) < 0) = true := decide_eq_true (by omega)
              have HN : Hid (¬ RightG gs) := no_right HRI.out hlt HSTK.out HF.out
              clear HRI HSTK HF hr hsh
              go_upto_region 8 with fail
              refine wp_region_slots (FtS w1 q g A3 c3) (FbG q (.slice A9 m c9) (.slice A9 m c9) ((m : Int) - (g.l.length : Int)) g A3 c3 true) (by kernel_rfl) (by kernel_rfl) (by kernel_rfl) ?_ ⟨R1, bel_drew (Below.refl _ _)⟩ [3, 5, 6] (by kernel_rfl) ?_ ?_ ?_
              · intro t v u u' h _
                exact ⟨h.1, fun R hR => by
                  have h2 := h.2 R hR
                  unfold FbGP at hR
                  split at hR <;> first | (cases hR; trivial) | cases hR⟩
              · intro u _
                refine ⟨⟨_, rfl, ?_⟩, ⟨_, rfl, ?_⟩, ⟨_, rfl, ?_⟩, trivial⟩
                · exact ⟨fun _ h => Option.some.inj h, fun _ h => no_some h⟩
                · exact ⟨fun _ h => Option.some.inj h, fun _ h => no_some h⟩
                · exact ⟨fun _ h => Option.some.inj h, fun _ h => no_some h⟩
              · refine ⟨?_, ?_, ?_, ?_, ?_, ?_, ?_, ?_, ?_, ?_, ?_, ?_, ?_, ?_, ?_, ?_, trivial⟩
                · intro a u hS hr K hK
                  obtain ⟨⟨vl0, e0, g0⟩, -⟩ := hr
                  obtain rfl := g0.1 _ rfl
                  clear g0
                  rw [if_pos (want_none rfl)]
                  obtain ⟨c0, c1, c2, c3, c4, c5, c6, c7, c8⟩ := node_cells hS.box
                  unfold Oper.wp
                  go_simp
                  exact hK _ _ ⟨fun _ h => Option.some.inj h, fun _ h => no_some h⟩ hS (Below.refl _ _)
                · intro a u hS hr K hK
                  obtain ⟨⟨vl0, e0, g0⟩, -⟩ := hr
                  obtain rfl := g0.1 _ rfl
                  clear g0
                  rw [if_pos (want_none rfl)]
                  unfold Oper.wp
                  go_simp
                  refine (hfit u).mono ?_
                  rintro e u1 ⟨rfl, hb⟩
                  exact hK _ _ ⟨fun _ h => Option.some.inj h, fun _ h => no_some h⟩ (hS.below hb) hb
                · intro a u hS hr K hK
                  obtain ⟨⟨vl0, e0, g0⟩, -⟩ := hr
                  obtain rfl := g0.1 _ rfl
                  clear g0
                  rw [if_pos (want_none rfl)]
                  unfold Oper.wp
                  go_simp
                  exact hK _ _ ⟨fun _ h => Option.some.inj h, fun _ h => no_some h⟩ hS (Below.refl _ _)
                · intro a u hS hr K hK
                  obtain ⟨⟨vl0, e0, g0⟩, -⟩ := hr
                  obtain rfl := g0.1 _ rfl
                  clear g0
                  rw [if_pos (want_none rfl)]
                  unfold Oper.wp
                  go_simp
                  exact hK _ _ ⟨fun _ h => Option.some.inj h, fun _ h => no_some h⟩ hS (Below.refl _ _)
                · intro a u hS hr K hK
                  obtain ⟨⟨vl0, e0, g0⟩, ⟨vl1, e1, g1⟩, -⟩ := hr
                  obtain rfl := g0.1 _ rfl
                  clear g0
                  obtain rfl := g1.1 _ rfl
                  clear g1
                  rw [if_pos (want_some rfl rfl rfl e1)]
                  unfold Oper.wp
                  go_simp
                  exact hK _ _ ⟨fun _ h => Option.some.inj h, fun _ h => no_some h⟩ hS (Below.refl _ _)
                · intro a u hS hr K hK
                  obtain ⟨⟨vl0, e0, g0⟩, ⟨vl1, e1, g1⟩, -⟩ := hr
                  obtain rfl := g0.1 _ rfl
                  clear g0
                  obtain rfl := g1.1 _ rfl
                  clear g1
                  rw [if_pos (want_some rfl rfl rfl e1)]
                  unfold Oper.wp
                  go_simp
                  exact hK _ _ ⟨fun _ h => Option.some.inj h, fun _ h => no_some h⟩ hS (Below.refl _ _)
                · intro a u hS hr K hK
                  obtain ⟨⟨vl0, e0, g0⟩, ⟨vl1, e1, g1⟩, -⟩ := hr
                  obtain rfl := g0.1 _ rfl
                  clear g0
                  obtain rfl := g1.1 _ rfl
                  clear g1
                  rw [if_pos (want_none rfl)]
                  unfold Oper.wp
                  go_simp
                  exact hK _ _ ⟨fun _ h => Option.some.inj h, fun _ h => no_some h⟩ hS (Below.refl _ _)
                · intro a u hS hr K hK
                  obtain ⟨⟨vl0, e0, g0⟩, -⟩ := hr
                  obtain rfl := g0.1 _ rfl
                  clear g0
                  rw [if_pos (want_none rfl)]
                  unfold Oper.wp
                  go_simp
                  exact hK _ _ ⟨fun _ h => Option.some.inj h, fun _ h => no_some h⟩ hS (Below.refl _ _)
                · intro a u hS hr K hK
                  obtain ⟨⟨vl0, e0, g0⟩, ⟨vl1, e1, g1⟩, -⟩ := hr
                  obtain rfl := g0.1 _ rfl
                  clear g0
                  obtain rfl := g1.1 _ rfl
                  clear g1
                  rw [if_neg (unwant rfl rfl rfl e1 (by decide))]
                  exact hK _ _ ⟨fun _ h => no_some h, fun _ h => spec_ok h trivial⟩ hS (Below.refl _ _)
                · intro a u hS hr K hK
                  obtain ⟨⟨vl0, e0, g0⟩, ⟨vl1, e1, g1⟩, -⟩ := hr
                  obtain rfl := g0.1 _ rfl
                  clear g0
                  obtain rfl := g1.1 _ rfl
                  clear g1
                  rw [if_neg (unwant rfl rfl rfl e1 (by decide))]
                  exact hK _ _ ⟨fun _ h => no_some h, fun _ h => spec_ok h trivial⟩ hS (Below.refl _ _)
                · intro a u hS hr K hK
                  obtain ⟨⟨vl0, e0, g0⟩, ⟨vl1, e1, g1⟩, ⟨vl2, e2, g2⟩, -⟩ := hr
                  replace g0 := g0.2 _ rfl
                  replace g1 := g1.2 _ rfl
                  obtain rfl := g2.1 _ rfl
                  clear g2
                  rw [if_neg (unwant rfl rfl rfl e2 (by decide))]
                  exact hK _ _ ⟨fun _ h => no_some h, fun _ h => spec_ok h trivial⟩ hS (Below.refl _ _)
                · intro a u hS hr K hK
                  obtain ⟨⟨vl0, e0, g0⟩, ⟨vl1, e1, g1⟩, -⟩ := hr
                  obtain rfl := g0.1 _ rfl
                  clear g0
                  obtain rfl := g1.1 _ rfl
                  clear g1
                  rw [if_neg (unwant rfl rfl rfl e1 (by decide))]
                  exact hK _ _ ⟨fun _ h => no_some h, fun _ h => spec_ok h trivial⟩ hS (Below.refl _ _)
                · intro a u hS hr K hK
                  obtain ⟨⟨vl0, e0, g0⟩, ⟨vl1, e1, g1⟩, -⟩ := hr
                  replace g0 := g0.2 _ rfl
                  obtain rfl := g1.1 _ rfl
                  clear g1
                  rw [if_neg (unwant rfl rfl rfl e1 (by decide))]
                  exact hK _ _ ⟨fun _ h => no_some h, fun _ h => spec_ok h trivial⟩ hS (Below.refl _ _)
                · intro a u hS hr K hK
                  obtain ⟨⟨vl0, e0, g0⟩, ⟨vl1, e1, g1⟩, ⟨vl2, e2, g2⟩, -⟩ := hr
                  replace g0 := g0.2 _ rfl
                  replace g1 := g1.2 _ rfl
                  obtain rfl := g2.1 _ rfl
                  clear g2
                  rw [if_neg (unwant rfl rfl rfl e2 (by decide))]
                  exact hK _ _ ⟨fun _ h => no_some h, fun _ h => spec_ok h trivial⟩ hS (Below.refl _ _)
                · intro a u hS hr K hK
                  obtain ⟨⟨vl0, e0, g0⟩, ⟨vl1, e1, g1⟩, -⟩ := hr
                  replace g0 := g0.2 _ rfl
                  obtain rfl := g1.1 _ rfl
                  clear g1
                  rw [if_neg (unwant rfl rfl rfl e1 (by decide))]
                  exact hK _ _ ⟨fun _ h => no_some h, fun _ h => spec_ok h trivial⟩ hS (Below.refl _ _)
                · intro a u hS hr K hK
                  obtain ⟨⟨vl0, e0, g0⟩, ⟨vl1, e1, g1⟩, -⟩ := hr
                  obtain rfl := g0.1 _ rfl
                  clear g0
                  replace g1 := g1.2 _ rfl
                  rw [if_pos (want_none rfl)]
                  unfold Oper.wp
                  go_simp
                  exact hK _ _ ⟨fun _ h => Option.some.inj h, fun _ h => no_some h⟩ hS (Below.refl _ _)
              intro a u hS hts hd hkn hf
              have D2 := D1.trans (hS.bel.mono D1.size)
              obtain ⟨v28, e28, g28⟩ := hf 0 _ 28 rfl rfl
              obtain ⟨v29, e29, g29⟩ := hf 1 _ 29 rfl rfl
              obtain ⟨v30, e30, g30⟩ := hf 2 _ 30 rfl rfl
              obtain ⟨v31, e31, g31⟩ := hf 3 _ 31 rfl rfl
              obtain ⟨v32, e32, g32⟩ := hf 4 _ 32 rfl rfl
              obtain ⟨v33, e33, g33⟩ := hf 5 _ 33 rfl rfl
              obtain ⟨v34, e34, g34⟩ := hf 6 _ 34 rfl rfl
              obtain ⟨v35, e35, g35⟩ := hf 7 _ 35 rfl rfl
              obtain ⟨v36, e36, g36⟩ := hf 8 _ 36 rfl rfl
              obtain ⟨v37, e37, g37⟩ := hf 9 _ 37 rfl rfl
              obtain ⟨v38, e38, g38⟩ := hf 10 _ 38 rfl rfl
              obtain ⟨v39, e39, g39⟩ := hf 11 _ 39 rfl rfl
              obtain ⟨v40, e40, g40⟩ := hf 12 _ 40 rfl rfl
              obtain ⟨v41, e41, g41⟩ := hf 13 _ 41 rfl rfl
              obtain ⟨v42, e42, g42⟩ := hf 14 _ 42 rfl rfl
              obtain ⟨v43, e43, g43⟩ := hf 15 _ 43 rfl rfl
              have hA := act_puts [(28, v28), (29, v29), (30, v30), (31, v31), (32, v32), (33, v33), (34, v34), (35, v35), (36, v36), (37, v37), (38, v38), (39, v39), (40, v40), (41, v41), (42, v42), (43, v43)] hts hd hkn (by kernel_rfl) (by simp [e28, e29, e30, e31, e32, e33, e34, e35, e36, e37, e38, e39, e40, e41, e42, e43])
              clear hf hts hd hkn e28 e29 e30 e31 e32 e33 e34 e35 e36 e37 e38 e39 e40 e41 e42 e43
              obtain rfl := g28.1 _ rfl
              clear g28
              obtain rfl := g29.1 _ rfl
              clear g29
              obtain rfl := g30.1 _ rfl
              clear g30
              obtain rfl := g31.1 _ rfl
              clear g31
              obtain rfl := g32.1 _ rfl
              clear g32
              obtain rfl := g33.1 _ rfl
              clear g33
              obtain rfl := g34.1 _ rfl
              clear g34
              obtain rfl := g35.1 _ rfl
              clear g35
              replace g36 := g36.2 _ rfl
              replace g37 := g37.2 _ rfl
              replace g38 := g38.2 _ rfl
              replace g39 := g39.2 _ rfl
              replace g40 := g40.2 _ rfl
              replace g41 := g41.2 _ rfl
              replace g42 := g42.2 _ rfl
              obtain rfl := g43.1 _ rfl
              clear g43
              subst hA
              simp only [List.foldl, List.setIfInBounds_toArray, List.set_cons_zero, List.set_cons_succ]
              simp only [Exit.then]
              apply_assumption
              go_wp2
              go_ret
              exact RgtR.no rfl HN.out D2
        · have hke : k = n := by omega
          subst hke
          have HIF := hidd (HRI.out)
          obtain ⟨A9, c9, rfl⟩ := own_form hown
          by_cases h1 : st.length = 1
          · have HY : Hid (RightG gs) := HRI.out.1 ⟨st, HSTK.out, h1⟩
            rw [h1]
            clear h1 hown
            go_wp2
            go_ret
            exact ⟨true, rfl, ⟨fun _ => HY.out, fun _ => rfl⟩, D⟩
          · have HN : Hid (¬ RightG gs) := fun h => by
              obtain ⟨st2, h2, h3⟩ := HRI.out.2 h
              rw [HSTK.out] at h2
              cases h2
              exact h1 h3
            have h1i : ((st.length : Int) == 1) = false := beq_eq_false_iff_ne.2 (by omega)
            clear h1 hown
            go_wp2
            go_ret
            exact RgtR.no rfl HN.out D
end Go.Proofs.Ytahhiajliomcfaa.Sy

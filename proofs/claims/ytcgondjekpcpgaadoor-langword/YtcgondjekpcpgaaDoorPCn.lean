/- The matcher: behind. -/
import Derived.Test.YtcgondjekpcpgaaDoorPCm
namespace Go.Proofs.YtcgondjekpcpgaaDoor.Sy.Lg.Be
open Go.RowKit Go.Proofs.YtcgondjekpcpgaaDoor.Sy.Ap Go.Proofs.YtcgondjekpcpgaaDoor.Sy.Ap.Wk
set_option maxRecDepth 100000
set_option linter.unusedVariables false

theorem keeps_cell {P : Nat → Prop} {u u' : World} (h : Keeps P u u') {b : Nat} (hl : b < u.heap.size) (hp : ¬ P b) (o : Nat) : u'.cell? ⟨b, o, none⟩ = u.cell? ⟨b, o, none⟩ := by
  have := h.block b hl hp
  simp [World.cell?, this]
/-- What is behind the bytes of a set. -/
def behB (p : Nat → Bool) (s : List Nat) (l : List Nat) : Nat → Bool := fun j => l.any fun i => decide (i < s.length) && p (at_ s i) && (j == i + 1)
theorem beh_take {p : Nat → Bool} {s l : List Nat} {i : Nat} (h : i < l.length) : behB p s (l.take (i + 1)) = if l.getD i 0 < s.length ∧ p (at_ s (l.getD i 0)) = true then addB (behB p s (l.take i)) (l.getD i 0 + 1) else behB p s (l.take i) := by
  funext j
  have e : l.take (i + 1) = l.take i ++ [l.getD i 0] := by
    rw [List.getD_eq_getElem?_getD, List.getElem?_eq_getElem h, List.take_succ_eq_append_getElem h]; rfl
  unfold behB
  rw [e, List.any_append]
  by_cases q : l.getD i 0 < s.length ∧ p (at_ s (l.getD i 0)) = true
  · rw [if_pos q]
    simp only [List.any_cons, List.any_nil, Bool.or_false, decide_eq_true q.1, q.2, Bool.true_and]
    rfl
  · rw [if_neg q]
    have : (decide (l.getD i 0 < s.length) && p (at_ s (l.getD i 0))) = false := by
      cases h1 : decide (l.getD i 0 < s.length) with
      | false => rfl
      | true =>
        cases h2 : p (at_ s (l.getD i 0)) with
        | false => rfl
        | true => exact absurd ⟨of_decide_eq_true h1, h2⟩ q
    simp only [List.any_cons, List.any_nil, Bool.or_false, this, Bool.false_and]
theorem beh_img {p pp : Nat → Bool} {s : List Nat} {X : Nat → Prop} (hs : s.length ≤ 63) (hX : ∀ j, pp j = true ↔ X j) (hl : ∀ i, pp i = true → i < 64) (j : Nat) : behB p s (bitsL pp) j = true ↔ ∃ i, X i ∧ i < s.length ∧ p (at_ s i) = true ∧ j = i + 1 := by
  unfold behB bitsL
  rw [List.any_eq_true]
  constructor
  · rintro ⟨i, h1, h2⟩
    rw [List.mem_filter] at h1
    simp only [Bool.and_eq_true, decide_eq_true_eq, beq_iff_eq] at h2
    exact ⟨i, (hX i).1 h1.2, h2.1.1, h2.1.2, h2.2⟩
  · rintro ⟨i, h1, h2, h3, h4⟩
    have h5 := (hX i).2 h1
    refine ⟨i, List.mem_filter.2 ⟨List.mem_range.2 (hl i h5), h5⟩, ?_⟩
    simp only [Bool.and_eq_true, decide_eq_true_eq, beq_iff_eq]
    exact ⟨⟨h2, h3⟩, h4⟩
structure BeS (w : World) (n0 mq : Nat) (p : Nat → Bool) (cs : Array Value) (u : World) : Prop where
  box : Row4 u n0 p
  mt : RowA u mq 75 cs
  bel : Below w.heap.size w u
theorem BeS.below {w : World} {n0 mq : Nat} {p : Nat → Bool} {cs : Array Value} {u u' : World} (h : BeS w n0 mq p cs u) (hb : Below u.heap.size u u') : BeS w n0 mq p cs u' := ⟨h.box.below hb h.box.lt, h.mt.below hb h.mt.lt, h.bel.trans (hb.mono h.bel.size)⟩
theorem eby {d : Option Nat} {u u' : World} (_ : true = true) (h : Below u.heap.size u u') : EbL d u u' := h
set_option linter.unusedVariables false in
def BeGV (n0 mq x : Nat) (p : Nat → Bool) (s : ByteArray) (c : Int) (hc : Bool) (t : Nat) : Option Value :=
  match t with
  | 0 => some (.pointer (some ⟨mq, 0, none⟩))
  | 4 => some (.pointer (some ⟨n0, 0, none⟩))
  | 9 => some (.int .i64 (x : Int))
  | 17 => some (.int .i64 (x : Int))
  | 18 => some (.pointer (some ⟨mq, 0, none⟩))
  | 19 => some (.pointer (some ⟨mq, 0, none⟩))
  | 20 => some (.pointer (some ⟨mq, 1, none⟩))
  | 21 => some (.string s)
  | 22 => some (.int .i64 (s.size : Int))
  | 23 => some (.bool true)
  | 24 => some (.bool true)
  | 25 => some (.agg #[.int .u64 (W (p) 0), .int .u64 (W (p) 1), .int .u64 (W (p) 2), .int .u64 (W (p) 3)])
  | 26 => some (.pointer (some ⟨mq, 0, none⟩))
  | 27 => some (.pointer (some ⟨mq, 0, none⟩))
  | 28 => some (.pointer (some ⟨mq, 1, none⟩))
  | 29 => some (.string s)
  | 30 => some (.int .i64 (x : Int))
  | 31 => some (.int .u8 c)
  | 32 => some (.bool hc)
  | 33 => some (.bool hc)
  | _ => none
set_option linter.unusedVariables false in
def BeGP (n0 mq x : Nat) (p : Nat → Bool) (s : ByteArray) (c : Int) (hc : Bool) (t : Nat) : Option (Value → World → Prop) :=
  match t with
  | _ => none
def BeG (n0 mq x : Nat) (p : Nat → Bool) (s : ByteArray) (c : Int) (hc : Bool) (t : Nat) (v : Value) (u : World) : Prop := (∀ z9, BeGV n0 mq x p s c hc t = some z9 → v = z9) ∧ ∀ R, BeGP n0 mq x p s c hc t = some R → R v u
set_option linter.unusedVariables false in
def BfGV (n0 mq x : Nat) (p : Nat → Bool) (s : ByteArray) (c : Int) (hc : Bool) (t : Nat) : Option Value :=
  match t with
  | 0 => some (.pointer (some ⟨mq, 0, none⟩))
  | 4 => some (.pointer (some ⟨n0, 0, none⟩))
  | 9 => some (.int .i64 (x : Int))
  | 17 => some (.int .i64 (x : Int))
  | 18 => some (.pointer (some ⟨mq, 0, none⟩))
  | 19 => some (.pointer (some ⟨mq, 0, none⟩))
  | 20 => some (.pointer (some ⟨mq, 1, none⟩))
  | 21 => some (.string s)
  | 22 => some (.int .i64 (s.size : Int))
  | 23 => some (.bool false)
  | 24 => some (.bool false)
  | 33 => some (.bool false)
  | _ => none
set_option linter.unusedVariables false in
def BfGP (n0 mq x : Nat) (p : Nat → Bool) (s : ByteArray) (c : Int) (hc : Bool) (t : Nat) : Option (Value → World → Prop) :=
  match t with
  | 25 => some (fun _ _ => True)
  | 26 => some (fun _ _ => True)
  | 27 => some (fun _ _ => True)
  | 28 => some (fun _ _ => True)
  | 29 => some (fun _ _ => True)
  | 30 => some (fun _ _ => True)
  | 31 => some (fun _ _ => True)
  | 32 => some (fun _ _ => True)
  | _ => none
def BfG (n0 mq x : Nat) (p : Nat → Bool) (s : ByteArray) (c : Int) (hc : Bool) (t : Nat) (v : Value) (u : World) : Prop := (∀ z9, BfGV n0 mq x p s c hc t = some z9 → v = z9) ∧ ∀ R, BfGP n0 mq x p s c hc t = some R → R v u
set_option maxHeartbeats 2000000 in
theorem behind_any {M : MC} (hM : M.Ok) {F : Nat → Prop} {cs : List Nat} {ms : List (Option Nat)} {u : World} (hI : MI M F cs ms u) (p pp : Nat → Bool) (v : Value) (h : Pl u v pp) :
    Calls Tryd.prog 64 #[.pointer (some ⟨M.mq, 0, none⟩), .agg #[.int .u64 (W (p) 0), .int .u64 (W (p) 1), .int .u64 (W (p) 2), .int .u64 (W (p) 3)], v] u fun e u' => NewP u (behB p (bs M.s) (bitsL pp)) e u' := by
  obtain ⟨A, n, c, rfl⟩ := pl_form h
  have R1 := Row4.new u p
  have s1 : (u.alloc (.cells (#[.int .u64 (W (p) 0), .int .u64 (W (p) 1), .int .u64 (W (p) 2), .int .u64 (W (p) 3)]) 41)).heap.size = u.heap.size + 1 := World.size_alloc ..
  have B1 : Below u.heap.size u (u.alloc (.cells (#[.int .u64 (W (p) 0), .int .u64 (W (p) 1), .int .u64 (W (p) 2), .int .u64 (W (p) 3)]) 41)) := (Below.refl _ _).alloc (Nat.le_refl _) _
  go_enter Tryd.func64, Tryd.ntmps64
  go_upto_region 1 with fail
  generalize u.alloc (.cells (#[.int .u64 (W (p) 0), .int .u64 (W (p) 1), .int .u64 (W (p) 2), .int .u64 (W (p) 3)]) 41) = u1 at *
  have s2 : (u1.alloc (.cells #[.int .i64 0, .slice A n c] 58)).heap.size = u1.heap.size + 1 := World.size_alloc ..
  have R2 := RowA.new u1 58 #[.int .i64 0, .slice A n c]
  have B2 : Below u.heap.size u (u1.alloc (.cells #[.int .i64 0, .slice A n c] 58)) := B1.alloc (by omega) _
  replace R1 := R1.below ((Below.refl u1.heap.size u1).alloc (Nat.le_refl _) (.cells #[.int .i64 0, .slice A n c] 58)) R1.lt
  generalize u1.alloc (.cells #[.int .i64 0, .slice A n c] 58) = u2 at *
  have s3 : (u2.alloc (.cells #[.int .i64 0, .slice none 0 0] 58)).heap.size = u2.heap.size + 1 := World.size_alloc ..
  have R3 := RowA.new u2 58 #[.int .i64 0, .slice none 0 0]
  have B3 : Below u.heap.size u (u2.alloc (.cells #[.int .i64 0, .slice none 0 0] 58)) := B2.alloc (by omega) _
  replace R1 := R1.below ((Below.refl u2.heap.size u2).alloc (Nat.le_refl _) (.cells #[.int .i64 0, .slice none 0 0] 58)) R1.lt
  replace R2 := R2.alloc (.cells #[.int .i64 0, .slice none 0 0] 58)
  generalize u2.alloc (.cells #[.int .i64 0, .slice none 0 0] 58) = u3 at *
  go_upto_region 2 with fail
  have s4 : (u3.alloc (.cells #[.int .i64 0, .slice none 0 0] 58)).heap.size = u3.heap.size + 1 := World.size_alloc ..
  have R4 := RowA.new u3 58 #[.int .i64 0, .slice none 0 0]
  have B4 : Below u.heap.size u (u3.alloc (.cells #[.int .i64 0, .slice none 0 0] 58)) := B3.alloc (by omega) _
  replace R1 := R1.below ((Below.refl u3.heap.size u3).alloc (Nat.le_refl _) (.cells #[.int .i64 0, .slice none 0 0] 58)) R1.lt
  replace R2 := R2.alloc (.cells #[.int .i64 0, .slice none 0 0] 58)
  replace R3 := R3.alloc (.cells #[.int .i64 0, .slice none 0 0] 58)
  generalize u3.alloc (.cells #[.int .i64 0, .slice none 0 0] 58) = u4 at *
  have e1 : u1.heap.size = u.heap.size + 1 := s1
  have e2 : u2.heap.size = u.heap.size + 1 + 1 := by rw [s2, s1]
  have e3 : u3.heap.size = u.heap.size + 1 + 1 + 1 := by rw [s3, s2, s1]
  rw [e1] at R2
  rw [e2] at R3
  rw [e3] at R4
  have z4 : u4.heap.size = u.heap.size + 4 := by omega
  have hdb : DB u4 := hM.db.below (hI.bel.trans (B4.mono hI.bel.size))
  have hli := Li.list_any _ pp u4 (h.below B4) hdb
  have rr1 := pl_range R2
  clear e1 e2 e3 s1 s2 s3 s4 B1 B2 B3 hdb
  go_wp2_with (refine wpList_load_mid rfl 58 (.tmp 5) rfl (u.heap.size + 1) 0 rfl [.int .i64 0, .slice A n c] _ rr1 Tryd.underlying58 rfl (pl_info _ _) ?_)
  refine hli.mono ?_
  rintro e u5 ⟨b5, A5, c5, rfl, own5⟩
  replace R1 := R1.below b5 R1.lt
  replace R3 := R3.below b5 R3.lt
  replace R4 := R4.below b5 R4.lt
  have B5 : Below u.heap.size u u5 := B4.trans (b5.mono B4.size)
  have hz5 : u.heap.size + 4 ≤ u5.heap.size := by have := b5.size; omega
  have hgq : ∀ k, (Value.slice A5 (bitsL pp).length c5).ownBlock = some k → k ≠ u.heap.size + 1 + 1 + 1 := fun k hk e => own_neR own5 R4 (by decide) (by rw [hk, e])
  have M5 := hI.box.below B5 hI.box.lt
  have hmq : M.mq < u.heap.size := hI.box.lt
  obtain ⟨A6, c6, e6, hN⟩ := Nts.of_own own5
  injection e6 with e6 e7 e8
  subst e6 e8
  have HPB : Hid (PB u.heap.size u5 (u.heap.size + 1 + 1 + 1) (.slice none 0 0) (behB p (bs M.s) ((bitsL pp).take 0))) := ⟨R4, (fun i hi => by cases hi), .inl ⟨rfl, fun i => rfl⟩⟩
  have hpl := h.1
  have HN := hidd hN
  have HR1 := hidd R1
  have HR3 := hidd R3
  have HB5 := hidd B5
  have HM5 := hidd M5
  have HGQ := hidd hgq
  have HPL := hidd hpl
  have hfew := hM.few
  have HMEM : Hid (∀ i, i < (bitsL pp).length → (bitsL pp).getD i 0 < 64) := fun i hi => by
    have hm : (bitsL pp).getD i 0 ∈ bitsL pp := by rw [List.getD_eq_getElem?_getD, List.getElem?_eq_getElem hi]; exact List.getElem_mem hi
    exact List.mem_range.1 (List.mem_filter.1 hm).1
  have hl64 := bits_len pp
  clear hli rr1 R1 R2 R3 R4 own5 hN B5 M5 hgq b5 B4 z4 h hI hpl
  generalize hL : bitsL pp = L at *
  have HLe := hidd hL
  clear hL
  generalize hLN : L.length = N at *
  have HLN := hidd hLN
  clear hLN
  go_wp2
  go_loopw [13] (fun s13 wr => ∃ (i : Nat) (sv : Value), s13 = .int .i64 (i : Int) ∧ i ≤ N ∧ PB u.heap.size wr (u.heap.size + 1 + 1 + 1) sv (behB p (bs M.s) (L.take i)) ∧ Keeps (fun k => k = u.heap.size + 1 + 1 + 1) u5 wr ∧ Lies u5 (.slice none 0 0) sv) (fun s13 _ => N - (intOf s13).toNat)
  case atStart => exact ⟨0, _, rfl, Nat.zero_le _, HPB.out, Keeps.of_below (Below.refl _ _), lies_refl _ _⟩
  case round =>
    clear HPB
    obtain ⟨i, sv, rfl, hi, hpb, hk, hl⟩ := hrel
    have HKK := hidd hk
    have HLL := hidd hl
    have HPB := hidd hpb
    clear hk hl hpb
    by_cases hlt : i < N
    · have hlt2 : i < L.length := by rw [HLN.out]; exact hlt
      obtain ⟨g, off, rfl, hg, hcell⟩ := HN.out.at_ hlt2
      have hgne : g ≠ u.heap.size + 1 + 1 + 1 := HGQ.out g (by cases off <;> rfl)
      have hc2 : wr.cell? ⟨g, off + i, none⟩ = some (.int .i64 ((L.getD i 0 : Nat) : Int)) := by rw [keeps_cell HKK.out hg hgne]; exact hcell
      have hii : (i : Int) < (N : Int) := by omega
      have HTK := hidd (beh_take (p := p) (s := bs M.s) hlt2)
      have hx64 := HMEM.out i hlt
      generalize L.getD i 0 = x at *
      have SR : BeS wr u.heap.size M.mq p M.cells wr := ⟨(HKK.out.block _ HR1.out.lt (by omega)).trans HR1.out, row_keeps HM5.out HKK.out (by omega), Below.refl _ _⟩
      clear hcell
      go_upto_region 5 with fail
      by_cases hxs : x < M.s.size
      · have hxb : x < (bs M.s).length := by rw [bs_len]; exact hxs
        have hxi : (x : Int) < (M.s.size : Int) := by omega
        obtain ⟨c, hc⟩ : ∃ c : Nat, c = (M.s[x]'hxs).toNat := ⟨_, rfl⟩
        have hc255 : c ≤ 255 := by rw [hc]; have := (M.s[x]'hxs).toNat_lt; omega
        have hat : at_ (bs M.s) x = c := by rw [hc]; exact at_bs M.s x hxs
        rw [hat] at HTK
        have hhas := has_any p (c : Int) (h0 := by omega) (h1 := by omega)
        rw [Int.toNat_natCast] at hhas
        have hidx : ((M.s[x]'hxs).toNat : Int) = (c : Int) := by rw [hc]
        generalize hpc : p c = hcb at *
        have HPC := hidd hpc
        clear hpc
        refine wp_region_slotsH 17 (by decide) (by kernel_rfl) (by kernel_rfl) (fun _ _ => true) (BeS wr u.heap.size M.mq p M.cells) (BeG u.heap.size M.mq x p M.s (c : Int) hcb) EbL (by kernel_rfl) (by kernel_rfl) (by kernel_rfl) (by kernel_rfl) ?_ (SR.below (bel_drew (Below.refl _ _))) [0, 4, 9] (by kernel_rfl) ?_ ?_ ?_
        · intro t dd v u u' _ _ h hE
          refine ⟨h.1, fun R hR => ?_⟩
          unfold BeGP at hR
          cases hR
        · intro u _
          refine ⟨⟨_, rfl, ?_⟩, ⟨_, rfl, ?_⟩, ⟨_, rfl, ?_⟩, trivial⟩ <;> exact ⟨fun _ h => Option.some.inj h, fun _ h => no_some h⟩
        · refine ⟨?_, ?_, ?_, ?_, ?_, ?_, ?_, ?_, ?_, ?_, ?_, ?_, ?_, ?_, ?_, ?_, ?_, trivial⟩
          · intro a u hS hr K hK
            obtain ⟨⟨vl0, e0, g0⟩, -⟩ := hr
            obtain rfl := g0.1 _ rfl
            clear g0
            rw [if_pos (want_none rfl)]
            unfold Oper.wp
            go_simp
            exact hK _ _ ⟨fun _ h => Option.some.inj h, fun _ h => no_some h⟩ hS (eby rfl (Below.refl _ _))
          · intro a u hS hr K hK
            obtain ⟨⟨vl0, e0, g0⟩, -⟩ := hr
            obtain rfl := g0.1 _ rfl
            clear g0
            rw [if_pos (want_none rfl)]
            unfold Oper.wp
            go_simp
            exact hK _ _ ⟨fun _ h => Option.some.inj h, fun _ h => no_some h⟩ hS (eby rfl (Below.refl _ _))
          · intro a u hS hr K hK
            obtain ⟨⟨vl0, e0, g0⟩, -⟩ := hr
            obtain rfl := g0.1 _ rfl
            clear g0
            rw [if_pos (want_none rfl)]
            unfold Oper.wp
            go_simp
            exact hK _ _ ⟨fun _ h => Option.some.inj h, fun _ h => no_some h⟩ hS (eby rfl (Below.refl _ _))
          · intro a u hS hr K hK
            obtain ⟨⟨vl0, e0, g0⟩, -⟩ := hr
            obtain rfl := g0.1 _ rfl
            clear g0
            rw [if_pos (want_none rfl)]
            unfold Oper.wp
            go_simp
            exact hK _ _ ⟨fun _ h => Option.some.inj h, fun _ h => no_some h⟩ hS (eby rfl (Below.refl _ _))
          · intro a u hS hr K hK
            obtain ⟨⟨vl0, e0, g0⟩, -⟩ := hr
            obtain rfl := g0.1 _ rfl
            clear g0
            rw [if_pos (want_none rfl)]
            have d1 := hS.mt.at_ (k := 1) rfl
            unfold Oper.wp
            go_simp
            exact hK _ _ ⟨fun _ h => Option.some.inj h, fun _ h => no_some h⟩ hS (eby rfl (Below.refl _ _))
          · intro a u hS hr K hK
            obtain ⟨⟨vl0, e0, g0⟩, -⟩ := hr
            obtain rfl := g0.1 _ rfl
            clear g0
            rw [if_pos (want_none rfl)]
            unfold Oper.wp
            go_simp
            exact hK _ _ ⟨fun _ h => Option.some.inj h, fun _ h => no_some h⟩ hS (eby rfl (Below.refl _ _))
          · intro a u hS hr K hK
            obtain ⟨⟨vl0, e0, g0⟩, ⟨vl1, e1, g1⟩, -⟩ := hr
            obtain rfl := g0.1 _ rfl
            clear g0
            obtain rfl := g1.1 _ rfl
            clear g1
            rw [if_pos (want_none rfl)]
            unfold Oper.wp
            go_simp
            exact hK _ _ ⟨fun _ h => Option.some.inj h, fun _ h => no_some h⟩ hS (eby rfl (Below.refl _ _))
          · intro a u hS hr K hK
            obtain ⟨⟨vl0, e0, g0⟩, -⟩ := hr
            obtain rfl := g0.1 _ rfl
            clear g0
            rw [if_pos (want_none rfl)]
            unfold Oper.wp
            go_simp
            exact hK _ _ ⟨fun _ h => Option.some.inj h, fun _ h => no_some h⟩ hS (eby rfl (Below.refl _ _))
          · intro a u hS hr K hK
            obtain ⟨⟨vl0, e0, g0⟩, ⟨vl1, e1, g1⟩, -⟩ := hr
            obtain rfl := g0.1 _ rfl
            clear g0
            obtain rfl := g1.1 _ rfl
            clear g1
            rw [if_pos (want_some rfl rfl rfl e1)]
            obtain ⟨c0, c1, c2, c3⟩ := hS.box.cells
            unfold Oper.wp
            go_simp
            exact hK _ _ ⟨fun _ h => Option.some.inj h, fun _ h => no_some h⟩ hS (eby rfl (Below.refl _ _))
          · intro a u hS hr K hK
            obtain ⟨⟨vl0, e0, g0⟩, ⟨vl1, e1, g1⟩, -⟩ := hr
            obtain rfl := g0.1 _ rfl
            clear g0
            obtain rfl := g1.1 _ rfl
            clear g1
            rw [if_pos (want_some rfl rfl rfl e1)]
            unfold Oper.wp
            go_simp
            exact hK _ _ ⟨fun _ h => Option.some.inj h, fun _ h => no_some h⟩ hS (eby rfl (Below.refl _ _))
          · intro a u hS hr K hK
            obtain ⟨⟨vl0, e0, g0⟩, ⟨vl1, e1, g1⟩, -⟩ := hr
            obtain rfl := g0.1 _ rfl
            clear g0
            obtain rfl := g1.1 _ rfl
            clear g1
            rw [if_pos (want_some rfl rfl rfl e1)]
            unfold Oper.wp
            go_simp
            exact hK _ _ ⟨fun _ h => Option.some.inj h, fun _ h => no_some h⟩ hS (eby rfl (Below.refl _ _))
          · intro a u hS hr K hK
            obtain ⟨⟨vl0, e0, g0⟩, ⟨vl1, e1, g1⟩, -⟩ := hr
            obtain rfl := g0.1 _ rfl
            clear g0
            obtain rfl := g1.1 _ rfl
            clear g1
            rw [if_pos (want_some rfl rfl rfl e1)]
            unfold Oper.wp
            go_simp
            exact hK _ _ ⟨fun _ h => Option.some.inj h, fun _ h => no_some h⟩ hS (eby rfl (Below.refl _ _))
          · intro a u hS hr K hK
            obtain ⟨⟨vl0, e0, g0⟩, ⟨vl1, e1, g1⟩, -⟩ := hr
            obtain rfl := g0.1 _ rfl
            clear g0
            obtain rfl := g1.1 _ rfl
            clear g1
            rw [if_pos (want_some rfl rfl rfl e1)]
            have d1 := hS.mt.at_ (k := 1) rfl
            unfold Oper.wp
            go_simp
            exact hK _ _ ⟨fun _ h => Option.some.inj h, fun _ h => no_some h⟩ hS (eby rfl (Below.refl _ _))
          · intro a u hS hr K hK
            obtain ⟨⟨vl0, e0, g0⟩, ⟨vl1, e1, g1⟩, -⟩ := hr
            obtain rfl := g0.1 _ rfl
            clear g0
            obtain rfl := g1.1 _ rfl
            clear g1
            rw [if_pos (want_some rfl rfl rfl e1)]
            unfold Oper.wp
            go_simp
            exact hK _ _ ⟨fun _ h => Option.some.inj h, fun _ h => no_some h⟩ hS (eby rfl (Below.refl _ _))
          · intro a u hS hr K hK
            obtain ⟨⟨vl0, e0, g0⟩, ⟨vl1, e1, g1⟩, ⟨vl2, e2, g2⟩, -⟩ := hr
            obtain rfl := g0.1 _ rfl
            clear g0
            obtain rfl := g1.1 _ rfl
            clear g1
            obtain rfl := g2.1 _ rfl
            clear g2
            rw [if_pos (want_some rfl rfl rfl e2)]
            unfold Oper.wp
            go_simp
            exact hK _ _ ⟨fun _ h => Option.some.inj h, fun _ h => no_some h⟩ hS (eby rfl (Below.refl _ _))
          · intro a u hS hr K hK
            obtain ⟨⟨vl0, e0, g0⟩, ⟨vl1, e1, g1⟩, ⟨vl2, e2, g2⟩, -⟩ := hr
            obtain rfl := g0.1 _ rfl
            clear g0
            obtain rfl := g1.1 _ rfl
            clear g1
            obtain rfl := g2.1 _ rfl
            clear g2
            rw [if_pos (want_some rfl rfl rfl e2)]
            unfold Oper.wp
            go_simp
            refine (hhas u).mono ?_
            rintro e u1 ⟨rfl, hb⟩
            exact hK _ _ ⟨fun _ h => Option.some.inj h, fun _ h => no_some h⟩ (hS.below hb) (eby rfl hb)
          · intro a u hS hr K hK
            obtain ⟨⟨vl0, e0, g0⟩, ⟨vl1, e1, g1⟩, -⟩ := hr
            obtain rfl := g0.1 _ rfl
            clear g0
            obtain rfl := g1.1 _ rfl
            clear g1
            rw [if_pos (want_none rfl)]
            unfold Oper.wp
            go_simp
            exact hK _ _ ⟨fun _ h => Option.some.inj h, fun _ h => no_some h⟩ hS (eby rfl (Below.refl _ _))
        intro a u6 hS6 hts hd hkn hf
        obtain ⟨v17, e17, g17⟩ := hf 0 _ 17 (by decide) rfl rfl (fun _ => rfl)
        obtain ⟨v18, e18, g18⟩ := hf 1 _ 18 (by decide) rfl rfl (fun _ => rfl)
        obtain ⟨v19, e19, g19⟩ := hf 2 _ 19 (by decide) rfl rfl (fun _ => rfl)
        obtain ⟨v20, e20, g20⟩ := hf 3 _ 20 (by decide) rfl rfl (fun _ => rfl)
        obtain ⟨v21, e21, g21⟩ := hf 4 _ 21 (by decide) rfl rfl (fun _ => rfl)
        obtain ⟨v22, e22, g22⟩ := hf 5 _ 22 (by decide) rfl rfl (fun _ => rfl)
        obtain ⟨v23, e23, g23⟩ := hf 6 _ 23 (by decide) rfl rfl (fun _ => rfl)
        obtain ⟨v24, e24, g24⟩ := hf 7 _ 24 (by decide) rfl rfl (fun _ => rfl)
        obtain ⟨v25, e25, g25⟩ := hf 8 _ 25 (by decide) rfl rfl (fun _ => rfl)
        obtain ⟨v26, e26, g26⟩ := hf 9 _ 26 (by decide) rfl rfl (fun _ => rfl)
        obtain ⟨v27, e27, g27⟩ := hf 10 _ 27 (by decide) rfl rfl (fun _ => rfl)
        obtain ⟨v28, e28, g28⟩ := hf 11 _ 28 (by decide) rfl rfl (fun _ => rfl)
        obtain ⟨v29, e29, g29⟩ := hf 12 _ 29 (by decide) rfl rfl (fun _ => rfl)
        obtain ⟨v30, e30, g30⟩ := hf 13 _ 30 (by decide) rfl rfl (fun _ => rfl)
        obtain ⟨v31, e31, g31⟩ := hf 14 _ 31 (by decide) rfl rfl (fun _ => rfl)
        obtain ⟨v32, e32, g32⟩ := hf 15 _ 32 (by decide) rfl rfl (fun _ => rfl)
        obtain ⟨v33, e33, g33⟩ := hf 16 _ 33 (by decide) rfl rfl (fun _ => rfl)
        have hA := act_putsH [(17, v17), (18, v18), (19, v19), (20, v20), (21, v21), (22, v22), (23, v23), (24, v24), (25, v25), (26, v26), (27, v27), (28, v28), (29, v29), (30, v30), (31, v31), (32, v32), (33, v33)] hts hd hkn (by kernel_rfl) (by simp [e17, e18, e19, e20, e21, e22, e23, e24, e25, e26, e27, e28, e29, e30, e31, e32, e33])
        clear hf hts hd hkn e17 e18 e19 e20 e21 e22 e23 e24 e25 e26 e27 e28 e29 e30 e31 e32 e33
        obtain rfl := g17.1 _ rfl
        clear g17
        obtain rfl := g18.1 _ rfl
        clear g18
        obtain rfl := g19.1 _ rfl
        clear g19
        obtain rfl := g20.1 _ rfl
        clear g20
        obtain rfl := g21.1 _ rfl
        clear g21
        obtain rfl := g22.1 _ rfl
        clear g22
        obtain rfl := g23.1 _ rfl
        clear g23
        obtain rfl := g24.1 _ rfl
        clear g24
        obtain rfl := g25.1 _ rfl
        clear g25
        obtain rfl := g26.1 _ rfl
        clear g26
        obtain rfl := g27.1 _ rfl
        clear g27
        obtain rfl := g28.1 _ rfl
        clear g28
        obtain rfl := g29.1 _ rfl
        clear g29
        obtain rfl := g30.1 _ rfl
        clear g30
        obtain rfl := g31.1 _ rfl
        clear g31
        obtain rfl := g32.1 _ rfl
        clear g32
        obtain rfl := g33.1 _ rfl
        clear g33
        subst hA
        simp only [List.foldl, List.setIfInBounds_toArray, List.set_cons_zero, List.set_cons_succ]
        simp only [List.drop_succ_cons, List.drop_zero]
        have PB6 := HPB.out.below hS6.bel
        have K6 := HKK.out.trans (Keeps.of_below (P := fun k => k = u.heap.size + 1 + 1 + 1) hS6.bel) (fun k _ h => h)
        cases hcb with
        | true =>
          have HNX : Hid (behB p (bs M.s) (L.take (i + 1)) = addB (behB p (bs M.s) (L.take i)) (x + 1)) := by
            show _ = _
            rw [HTK.out, if_pos ⟨hxb, rfl⟩]
          have hput := Pt.put_any u.heap.size u6 _ sv _ (x + 1) (by omega) PB6 (by have := HB5.out.size; have := HKK.out.size; have := hS6.bel.size; omega)
          rw [show ((x + 1 : Nat) : Int) = (x : Int) + 1 from rfl] at hput
          clear PB6 hS6 hhas SR
          go_wp2_with fail
          refine hput.mono ?_
          rintro e u7 ⟨rfl, sv7, P7, K7, L7⟩
          have HREL : Hid (PB u.heap.size u7 (u.heap.size + 1 + 1 + 1) sv7 (behB p (bs M.s) (L.take (i + 1))) ∧ Keeps (fun k => k = u.heap.size + 1 + 1 + 1) u5 u7 ∧ Lies u5 (.slice none 0 0) sv7) := by
            refine ⟨by rw [HNX.out]; exact P7, K6.trans K7 (fun k hk hn hp => ?_), lies_trans K6.size HLL.out L7⟩
            rcases hp with hp | hp
            · exact hn hp
            · rcases HLL.out with q | ⟨k2, q, q2⟩
              · rw [q] at hp; cases hp
              · rw [q] at hp; cases hp; omega
          clear hput P7 K7 L7 K6
          go_wp2
          exact ⟨⟨i + 1, sv7, rfl, by omega, HREL.out.1, HREL.out.2.1, HREL.out.2.2⟩, by simp [intOf]; omega⟩
        | false =>
          have HNX : Hid (behB p (bs M.s) (L.take (i + 1)) = behB p (bs M.s) (L.take i)) := by
            show _ = _
            rw [HTK.out, if_neg (fun q => by cases q.2)]
          have HREL : Hid (PB u.heap.size u6 (u.heap.size + 1 + 1 + 1) sv (behB p (bs M.s) (L.take (i + 1))) ∧ Keeps (fun k => k = u.heap.size + 1 + 1 + 1) u5 u6) := ⟨by rw [HNX.out]; exact PB6, K6⟩
          clear PB6 hS6 hhas SR K6
          go_wp2
          exact ⟨⟨i + 1, sv, rfl, by omega, HREL.out.1, HREL.out.2, HLL.out⟩, by simp [intOf]; omega⟩
      · have HNX : Hid (behB p (bs M.s) (L.take (i + 1)) = behB p (bs M.s) (L.take i)) := by
          show _ = _
          rw [HTK.out, if_neg (fun q => hxs (by rw [← bs_len]; exact q.1))]
        have hxi : (M.s.size : Int) ≤ (x : Int) := by omega
        refine wp_region_slotsH 17 (by decide) (by kernel_rfl) (by kernel_rfl) (fun _ _ => true) (BeS wr u.heap.size M.mq p M.cells) (BfG u.heap.size M.mq x p M.s 0 false) EbL (by kernel_rfl) (by kernel_rfl) (by kernel_rfl) (by kernel_rfl) ?_ (SR.below (bel_drew (Below.refl _ _))) [0, 4, 9] (by kernel_rfl) ?_ ?_ ?_
        · intro t dd v u u' _ _ h hE
          refine ⟨h.1, fun R hR => ?_⟩
          have h2 := h.2 R hR
          unfold BfGP at hR
          split at hR <;> first | (cases hR; trivial) | cases hR
        · intro u _
          refine ⟨⟨_, rfl, ?_⟩, ⟨_, rfl, ?_⟩, ⟨_, rfl, ?_⟩, trivial⟩ <;> exact ⟨fun _ h => Option.some.inj h, fun _ h => no_some h⟩
        · refine ⟨?_, ?_, ?_, ?_, ?_, ?_, ?_, ?_, ?_, ?_, ?_, ?_, ?_, ?_, ?_, ?_, ?_, trivial⟩
          · intro a u hS hr K hK
            obtain ⟨⟨vl0, e0, g0⟩, -⟩ := hr
            obtain rfl := g0.1 _ rfl
            clear g0
            rw [if_pos (want_none rfl)]
            unfold Oper.wp
            go_simp
            exact hK _ _ ⟨fun _ h => Option.some.inj h, fun _ h => no_some h⟩ hS (eby rfl (Below.refl _ _))
          · intro a u hS hr K hK
            obtain ⟨⟨vl0, e0, g0⟩, -⟩ := hr
            obtain rfl := g0.1 _ rfl
            clear g0
            rw [if_pos (want_none rfl)]
            unfold Oper.wp
            go_simp
            exact hK _ _ ⟨fun _ h => Option.some.inj h, fun _ h => no_some h⟩ hS (eby rfl (Below.refl _ _))
          · intro a u hS hr K hK
            obtain ⟨⟨vl0, e0, g0⟩, -⟩ := hr
            obtain rfl := g0.1 _ rfl
            clear g0
            rw [if_pos (want_none rfl)]
            unfold Oper.wp
            go_simp
            exact hK _ _ ⟨fun _ h => Option.some.inj h, fun _ h => no_some h⟩ hS (eby rfl (Below.refl _ _))
          · intro a u hS hr K hK
            obtain ⟨⟨vl0, e0, g0⟩, -⟩ := hr
            obtain rfl := g0.1 _ rfl
            clear g0
            rw [if_pos (want_none rfl)]
            unfold Oper.wp
            go_simp
            exact hK _ _ ⟨fun _ h => Option.some.inj h, fun _ h => no_some h⟩ hS (eby rfl (Below.refl _ _))
          · intro a u hS hr K hK
            obtain ⟨⟨vl0, e0, g0⟩, -⟩ := hr
            obtain rfl := g0.1 _ rfl
            clear g0
            rw [if_pos (want_none rfl)]
            have d1 := hS.mt.at_ (k := 1) rfl
            unfold Oper.wp
            go_simp
            exact hK _ _ ⟨fun _ h => Option.some.inj h, fun _ h => no_some h⟩ hS (eby rfl (Below.refl _ _))
          · intro a u hS hr K hK
            obtain ⟨⟨vl0, e0, g0⟩, -⟩ := hr
            obtain rfl := g0.1 _ rfl
            clear g0
            rw [if_pos (want_none rfl)]
            unfold Oper.wp
            go_simp
            exact hK _ _ ⟨fun _ h => Option.some.inj h, fun _ h => no_some h⟩ hS (eby rfl (Below.refl _ _))
          · intro a u hS hr K hK
            obtain ⟨⟨vl0, e0, g0⟩, ⟨vl1, e1, g1⟩, -⟩ := hr
            obtain rfl := g0.1 _ rfl
            clear g0
            obtain rfl := g1.1 _ rfl
            clear g1
            rw [if_pos (want_none rfl)]
            unfold Oper.wp
            go_simp
            exact hK _ _ ⟨fun _ h => Option.some.inj h, fun _ h => no_some h⟩ hS (eby rfl (Below.refl _ _))
          · intro a u hS hr K hK
            obtain ⟨⟨vl0, e0, g0⟩, -⟩ := hr
            obtain rfl := g0.1 _ rfl
            clear g0
            rw [if_pos (want_none rfl)]
            unfold Oper.wp
            go_simp
            exact hK _ _ ⟨fun _ h => Option.some.inj h, fun _ h => no_some h⟩ hS (eby rfl (Below.refl _ _))
          · intro a u hS hr K hK
            obtain ⟨⟨vl0, e0, g0⟩, ⟨vl1, e1, g1⟩, -⟩ := hr
            obtain rfl := g0.1 _ rfl
            clear g0
            obtain rfl := g1.1 _ rfl
            clear g1
            rw [if_neg (unwant rfl rfl rfl e1 (by decide))]
            exact hK _ _ ⟨fun _ h => no_some h, fun _ h => spec_ok h trivial⟩ hS (eby rfl (Below.refl _ _))
          · intro a u hS hr K hK
            obtain ⟨⟨vl0, e0, g0⟩, ⟨vl1, e1, g1⟩, -⟩ := hr
            obtain rfl := g0.1 _ rfl
            clear g0
            obtain rfl := g1.1 _ rfl
            clear g1
            rw [if_neg (unwant rfl rfl rfl e1 (by decide))]
            exact hK _ _ ⟨fun _ h => no_some h, fun _ h => spec_ok h trivial⟩ hS (eby rfl (Below.refl _ _))
          · intro a u hS hr K hK
            obtain ⟨⟨vl0, e0, g0⟩, ⟨vl1, e1, g1⟩, -⟩ := hr
            replace g0 := g0.2 _ rfl
            obtain rfl := g1.1 _ rfl
            clear g1
            rw [if_neg (unwant rfl rfl rfl e1 (by decide))]
            exact hK _ _ ⟨fun _ h => no_some h, fun _ h => spec_ok h trivial⟩ hS (eby rfl (Below.refl _ _))
          · intro a u hS hr K hK
            obtain ⟨⟨vl0, e0, g0⟩, ⟨vl1, e1, g1⟩, -⟩ := hr
            replace g0 := g0.2 _ rfl
            obtain rfl := g1.1 _ rfl
            clear g1
            rw [if_neg (unwant rfl rfl rfl e1 (by decide))]
            exact hK _ _ ⟨fun _ h => no_some h, fun _ h => spec_ok h trivial⟩ hS (eby rfl (Below.refl _ _))
          · intro a u hS hr K hK
            obtain ⟨⟨vl0, e0, g0⟩, ⟨vl1, e1, g1⟩, -⟩ := hr
            replace g0 := g0.2 _ rfl
            obtain rfl := g1.1 _ rfl
            clear g1
            rw [if_neg (unwant rfl rfl rfl e1 (by decide))]
            exact hK _ _ ⟨fun _ h => no_some h, fun _ h => spec_ok h trivial⟩ hS (eby rfl (Below.refl _ _))
          · intro a u hS hr K hK
            obtain ⟨⟨vl0, e0, g0⟩, ⟨vl1, e1, g1⟩, -⟩ := hr
            obtain rfl := g0.1 _ rfl
            clear g0
            obtain rfl := g1.1 _ rfl
            clear g1
            rw [if_neg (unwant rfl rfl rfl e1 (by decide))]
            exact hK _ _ ⟨fun _ h => no_some h, fun _ h => spec_ok h trivial⟩ hS (eby rfl (Below.refl _ _))
          · intro a u hS hr K hK
            obtain ⟨⟨vl0, e0, g0⟩, ⟨vl1, e1, g1⟩, ⟨vl2, e2, g2⟩, -⟩ := hr
            replace g0 := g0.2 _ rfl
            replace g1 := g1.2 _ rfl
            obtain rfl := g2.1 _ rfl
            clear g2
            rw [if_neg (unwant rfl rfl rfl e2 (by decide))]
            exact hK _ _ ⟨fun _ h => no_some h, fun _ h => spec_ok h trivial⟩ hS (eby rfl (Below.refl _ _))
          · intro a u hS hr K hK
            obtain ⟨⟨vl0, e0, g0⟩, ⟨vl1, e1, g1⟩, ⟨vl2, e2, g2⟩, -⟩ := hr
            replace g0 := g0.2 _ rfl
            replace g1 := g1.2 _ rfl
            obtain rfl := g2.1 _ rfl
            clear g2
            rw [if_neg (unwant rfl rfl rfl e2 (by decide))]
            exact hK _ _ ⟨fun _ h => no_some h, fun _ h => spec_ok h trivial⟩ hS (eby rfl (Below.refl _ _))
          · intro a u hS hr K hK
            obtain ⟨⟨vl0, e0, g0⟩, ⟨vl1, e1, g1⟩, -⟩ := hr
            obtain rfl := g0.1 _ rfl
            clear g0
            replace g1 := g1.2 _ rfl
            rw [if_pos (want_none rfl)]
            unfold Oper.wp
            go_simp
            exact hK _ _ ⟨fun _ h => Option.some.inj h, fun _ h => no_some h⟩ hS (eby rfl (Below.refl _ _))
        intro a u6 hS6 hts hd hkn hf
        obtain ⟨v17, e17, g17⟩ := hf 0 _ 17 (by decide) rfl rfl (fun _ => rfl)
        obtain ⟨v18, e18, g18⟩ := hf 1 _ 18 (by decide) rfl rfl (fun _ => rfl)
        obtain ⟨v19, e19, g19⟩ := hf 2 _ 19 (by decide) rfl rfl (fun _ => rfl)
        obtain ⟨v20, e20, g20⟩ := hf 3 _ 20 (by decide) rfl rfl (fun _ => rfl)
        obtain ⟨v21, e21, g21⟩ := hf 4 _ 21 (by decide) rfl rfl (fun _ => rfl)
        obtain ⟨v22, e22, g22⟩ := hf 5 _ 22 (by decide) rfl rfl (fun _ => rfl)
        obtain ⟨v23, e23, g23⟩ := hf 6 _ 23 (by decide) rfl rfl (fun _ => rfl)
        obtain ⟨v24, e24, g24⟩ := hf 7 _ 24 (by decide) rfl rfl (fun _ => rfl)
        obtain ⟨v25, e25, g25⟩ := hf 8 _ 25 (by decide) rfl rfl (fun _ => rfl)
        obtain ⟨v26, e26, g26⟩ := hf 9 _ 26 (by decide) rfl rfl (fun _ => rfl)
        obtain ⟨v27, e27, g27⟩ := hf 10 _ 27 (by decide) rfl rfl (fun _ => rfl)
        obtain ⟨v28, e28, g28⟩ := hf 11 _ 28 (by decide) rfl rfl (fun _ => rfl)
        obtain ⟨v29, e29, g29⟩ := hf 12 _ 29 (by decide) rfl rfl (fun _ => rfl)
        obtain ⟨v30, e30, g30⟩ := hf 13 _ 30 (by decide) rfl rfl (fun _ => rfl)
        obtain ⟨v31, e31, g31⟩ := hf 14 _ 31 (by decide) rfl rfl (fun _ => rfl)
        obtain ⟨v32, e32, g32⟩ := hf 15 _ 32 (by decide) rfl rfl (fun _ => rfl)
        obtain ⟨v33, e33, g33⟩ := hf 16 _ 33 (by decide) rfl rfl (fun _ => rfl)
        have hA := act_putsH [(17, v17), (18, v18), (19, v19), (20, v20), (21, v21), (22, v22), (23, v23), (24, v24), (25, v25), (26, v26), (27, v27), (28, v28), (29, v29), (30, v30), (31, v31), (32, v32), (33, v33)] hts hd hkn (by kernel_rfl) (by simp [e17, e18, e19, e20, e21, e22, e23, e24, e25, e26, e27, e28, e29, e30, e31, e32, e33])
        clear hf hts hd hkn e17 e18 e19 e20 e21 e22 e23 e24 e25 e26 e27 e28 e29 e30 e31 e32 e33
        obtain rfl := g17.1 _ rfl
        clear g17
        obtain rfl := g18.1 _ rfl
        clear g18
        obtain rfl := g19.1 _ rfl
        clear g19
        obtain rfl := g20.1 _ rfl
        clear g20
        obtain rfl := g21.1 _ rfl
        clear g21
        obtain rfl := g22.1 _ rfl
        clear g22
        obtain rfl := g23.1 _ rfl
        clear g23
        obtain rfl := g24.1 _ rfl
        clear g24
        replace g25 := g25.2 _ rfl
        replace g26 := g26.2 _ rfl
        replace g27 := g27.2 _ rfl
        replace g28 := g28.2 _ rfl
        replace g29 := g29.2 _ rfl
        replace g30 := g30.2 _ rfl
        replace g31 := g31.2 _ rfl
        replace g32 := g32.2 _ rfl
        obtain rfl := g33.1 _ rfl
        clear g33
        subst hA
        simp only [List.foldl, List.setIfInBounds_toArray, List.set_cons_zero, List.set_cons_succ]
        simp only [List.drop_succ_cons, List.drop_zero]
        have PB6 := HPB.out.below hS6.bel
        have K6 := HKK.out.trans (Keeps.of_below (P := fun k => k = u.heap.size + 1 + 1 + 1) hS6.bel) (fun k _ h => h)
        have HREL : Hid (PB u.heap.size u6 (u.heap.size + 1 + 1 + 1) sv (behB p (bs M.s) (L.take (i + 1))) ∧ Keeps (fun k => k = u.heap.size + 1 + 1 + 1) u5 u6) := ⟨by rw [HNX.out]; exact PB6, K6⟩
        clear PB6 hS6 SR K6
        go_wp2
        exact ⟨⟨i + 1, sv, rfl, by omega, HREL.out.1, HREL.out.2, HLL.out⟩, by simp [intOf]; omega⟩
    · have hiN : i = N := by omega
      subst hiN
      have PB9 := HPB.out
      rw [List.take_of_length_le (by rw [HLN.out]; exact Nat.le_refl _)] at PB9
      have R9 := PB9.1
      have RR : RowA wr (u.heap.size + 1 + 1) 58 #[.int .i64 0, .slice none 0 0] := row_keeps HR3.out HKK.out (by omega)
      have hpl9 := PB9.pl
      obtain ⟨A9, n9, c9, e9⟩ := pl_form hpl9
      have e9 := agg2_inj e9
      subst e9
      have rr9 := pl_range R9
      have HFIN : Hid (NewP u (behB p (bs M.s) L) (.returned (.agg #[.int .i64 0, .slice A9 n9 c9])) (wr.setRow (u.heap.size + 1 + 1) #[.int .i64 0, .slice A9 n9 c9])) := by
        have kb : Below u.heap.size u5 wr := HKK.out.below HB5.out.size (fun k hk => by omega)
        refine ⟨bel_setRow (HB5.out.trans kb) _ _ (by omega), _, rfl, hpl9.keep (by simp [World.setRow]) fun b hb => setRow_other wr _ b _ (hpl9.off RR rfl (fun x q => by cases q) hb), fun b hb => ?_⟩
        rcases HLL.out with q | ⟨k, q, q2⟩
        · rw [plB_own hb] at q; cases q
        · rw [plB_own hb] at q
          cases q
          have := HB5.out.size
          omega
      have HRF := hidd (RR.row #[.int .i64 0, .slice A9 n9 c9])
      clear PB9 hpl9
      go_wp2_with (first
        | refine wpList_load_mid rfl 58 (.tmp 7) rfl (u.heap.size + 1 + 1 + 1) 0 rfl [.int .i64 0, .slice A9 n9 c9] _ rr9 Tryd.underlying58 rfl (pl_info _ _) ?_
        | refine wpList_store_row rfl 58 (.tmp 6) (.tmp 38) rfl (u.heap.size + 1 + 1) #[.int .i64 0, .slice A9 n9 c9] rfl rfl 58 #[.int .i64 0, .slice none 0 0] RR (pl_info _ _) rfl (ones2 rfl rfl) ?_)
      exact ret_places Tryd.results64 rfl HRF.out rfl (by rw [HLe.out]; exact HFIN.out)
end Go.Proofs.YtcgondjekpcpgaaDoor.Sy.Lg.Be

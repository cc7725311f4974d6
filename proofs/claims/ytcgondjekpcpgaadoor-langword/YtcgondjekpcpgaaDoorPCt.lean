/- The matcher: a node walked. -/
import Derived.Test.YtcgondjekpcpgaaDoorPCr
namespace Go.Proofs.YtcgondjekpcpgaaDoor.Sy.Lg.Wl
open Go.RowKit Go.Proofs.YtcgondjekpcpgaaDoor.Sy.Ap Go.Proofs.YtcgondjekpcpgaaDoor.Sy.Ap.Wk Go.Proofs.YtcgondjekpcpgaaDoor.Sy.Lg.Oq
set_option maxRecDepth 100000
set_option linter.unusedVariables false

/-! ### By plain relations -/
theorem chain_snoc {R : Nat → Rel} (k : Nat) : ∀ (l : List Nat) (i j : Nat), chainR R (l ++ [k]) i j ↔ ∃ m, chainR R l i m ∧ R k m j
  | [], i, j => by
    show (∃ m, R k i m ∧ m = j) ↔ ∃ m, i = m ∧ R k m j
    constructor
    · rintro ⟨m, h1, rfl⟩; exact ⟨i, rfl, h1⟩
    · rintro ⟨m, rfl, h1⟩; exact ⟨j, h1, rfl⟩
  | x :: l, i, j => by
    show (∃ m, R x i m ∧ chainR R (l ++ [k]) m j) ↔ ∃ m, (∃ m', R x i m' ∧ chainR R l m' m) ∧ R k m j
    constructor
    · rintro ⟨m, h1, h2⟩
      obtain ⟨m2, h3, h4⟩ := (chain_snoc k l m j).1 h2
      exact ⟨m2, ⟨m, h1, h3⟩, h4⟩
    · rintro ⟨m2, ⟨m, h1, h3⟩, h4⟩
      exact ⟨m, h1, (chain_snoc k l m j).2 ⟨m2, h3, h4⟩⟩
theorem img_chain {R : Nat → Rel} {X : Nat → Prop} (k : Nat) (l : List Nat) (j : Nat) : img (chainR R (l ++ [k])) X j ↔ img (R k) (img (chainR R l) X) j := by
  constructor
  · rintro ⟨i, hi, h⟩
    obtain ⟨m, h1, h2⟩ := (chain_snoc k l i j).1 h
    exact ⟨m, ⟨i, hi, h1⟩, h2⟩
  · rintro ⟨m, ⟨i, hi, h1⟩, h2⟩
    exact ⟨i, hi, (chain_snoc k l i j).2 ⟨m, h1, h2⟩⟩
theorem img_nil {R : Nat → Rel} {X : Nat → Prop} (j : Nat) : img (chainR R []) X j ↔ X j := by
  constructor
  · rintro ⟨i, hi, rfl⟩; exact hi
  · intro h; exact ⟨j, h, rfl⟩
theorem take_next {l : List Nat} {i : Nat} (h : i < l.length) : l.take (i + 1) = l.take i ++ [l.getD i 0] := by
  rw [List.getD_eq_getElem?_getD, List.getElem?_eq_getElem h, List.take_succ_eq_append_getElem h]; rfl
/-- What one knows of the node k. -/
structure NodeAt (M : MC) (k : Nat) (g : Gd) (n : Nd) (kA : Option Addr) : Prop where
  lt : k < M.n
  get : M.ns[k]? = some n
  gn : GN1 g n
  few : n.l.length ≤ 1024
  kid : ∀ i, i < n.l.length → KidAt M kA i (n.l.getD i 0)
section
variable {M : MC} {k : Nat} {g : Gd} {n : Nd} {kA : Option Addr}
theorem NodeAt.eq (hM : M.Ok) (h : NodeAt M k g n kA) (i j : Nat) : M.R k i j ↔ node1 (bs M.s) n (Mt M.ns (bs M.s)) i j := Mt_eq hM.tree.low _ _ h.get i j
theorem NodeAt.low (hM : M.Ok) (h : NodeAt M k g n kA) : ∀ c ∈ n.l, c < k := (hM.tree.low k n h.get).2
theorem R_in (hM : M.Ok) (k i j : Nat) (h : M.R k i j) (hi : i ≤ M.s.size) : j ≤ M.s.size := by
  have := (Mt_in hM.tree.low (bs M.s) k i j h).2
  rw [bs_len] at this
  exact this hi
theorem NodeAt.shp (hM : M.Ok) (h : NodeAt M k g n kA) : shapeB n = true := hM.tree.shp n (List.mem_of_getElem? h.get)
theorem NodeAt.len (h : NodeAt M k g n kA) : g.l.length = n.l.length := by rw [h.gn.l, List.length_map]
theorem chain_in (hM : M.Ok) : ∀ (l : List Nat) (i j : Nat), chainR (Mt M.ns (bs M.s)) l i j → i ≤ M.s.size → j ≤ M.s.size
  | [], i, j, h, hi => by cases h; exact hi
  | x :: l, i, j, ⟨m, h1, h2⟩, hi => chain_in hM l m j h2 (R_in hM x i m h1 hi)
end
end Go.Proofs.YtcgondjekpcpgaaDoor.Sy.Lg.Wl

namespace Go.Proofs.YtcgondjekpcpgaaDoor.Sy.Lg.Wl
open Go.RowKit Go.Proofs.YtcgondjekpcpgaaDoor.Sy.Ap Go.Proofs.YtcgondjekpcpgaaDoor.Sy.Ap.Wk Go.Proofs.YtcgondjekpcpgaaDoor.Sy.Lg.Oq
set_option maxRecDepth 100000
set_option linter.unusedVariables false

theorem at_lt (s : ByteArray) (i : Nat) (h : i < (bs s).length) : at_ (bs s) i < 256 := by
  have hm : at_ (bs s) i ∈ bs s := by unfold at_; rw [List.getD_eq_getElem?_getD, List.getElem?_eq_getElem h]; exact List.getElem_mem h
  exact bs_lt s _ hm
def WalkC (M : MC) (k : Nat) (g : Gd) (kA : Option Addr) (mm kc : Nat) : Prop := ∀ (F : Nat → Prop) (u : World) (v : Value) (X : Nat → Prop), Inp M F u v X →
  Calls Tryd.prog 47 #[.pointer (some ⟨M.mq, 0, none⟩), .agg #[.int .u8 g.op, .int .u64 (W g.s 0), .int .u64 (W g.s 1), .int .u64 (W g.s 2), .int .u64 (W g.s 3), .slice kA mm kc, .int .i64 g.lo, .int .i64 g.hi, .string g.nm], v] u (RetQ M F u (img (M.R k) X))
set_option maxHeartbeats 1000000 in
/-- Nothing, or what is none of the four. -/
theorem walk_none {M : MC} (hM : M.Ok) {k : Nat} {g : Gd} {n : Nd} {kA : Option Addr} (hN : NodeAt M k g n kA) (mm kc : Nat) (h2 : n.op ≠ 2) (h3 : n.op ≠ 3) (h4 : n.op ≠ 4) (h5 : n.op ≠ 5) : WalkC M k g kA mm kc := by
  intro F u v X h
  have ho := hN.gn.op
  have b2 : (g.op == 2) = false := by simp; omega
  have b3 : (g.op == 3) = false := by simp; omega
  have b4 : (g.op == 4) = false := by simp; omega
  have b5 : (g.op == 5) = false := by simp; omega
  have c2 : decide (g.op = 2) = false := by simp; omega
  have c3 : decide (g.op = 3) = false := by simp; omega
  have c4 : decide (g.op = 4) = false := by simp; omega
  have c5 : decide (g.op = 5) = false := by simp; omega
  have HY : Hid (∀ j, X j ↔ img (M.R k) X j) := fun j => by
    have e : ∀ i, M.R k i j ↔ i = j := fun i => by
      rw [hN.eq hM]
      unfold node1
      rw [if_neg h2, if_neg h3, if_neg h4, if_neg h5]
    constructor
    · intro hj; exact ⟨j, hj, (e j).2 rfl⟩
    · rintro ⟨i, hi, q⟩
      have := (e i).1 q
      exact this ▸ hi
  clear ho h2 h3 h4 h5
  obtain ⟨A9, n9, c9, rfl⟩ := h.pl.form
  have hfl := h.fl
  have F0 := FS.start h
  have hB := F0.lo
  have hX := h.le
  clear h
  go_enter Tryd.func47, Tryd.ntmps47
  go_upto_region 1 with fail
  have F1 := F0.three 43 (by decide) (by decide) (ndC g kA mm kc) #[.int .i64 0, .slice A9 n9 c9] #[.int .i64 0, .slice none 0 0]
  generalize ((u.alloc (.cells (ndC g kA mm kc) 43)).alloc (.cells #[.int .i64 0, .slice A9 n9 c9] 58)).alloc (.cells #[.int .i64 0, .slice none 0 0] 58) = u1 at *
  have d0 : u1.cell? ⟨u.heap.size, 0, none⟩ = some (.int .u8 g.op) := F1.r0.at_ rfl
  clear F0
  have HF1 := hidd F1
  clear F1
  have R2 := HF1.out.r2
  have rr1 := pl_range HF1.out.r1
  have HFIN : Hid (RetQ M F u (img (M.R k) X) (.returned (.agg #[.int .i64 0, .slice A9 n9 c9])) (u1.setRow (u.heap.size + 1 + 1) #[.int .i64 0, .slice A9 n9 c9])) := HF1.out.done (by omega) (by simp; omega) (by simp) rfl HY.out
  have HRF := hidd (R2.row #[.int .i64 0, .slice A9 n9 c9])
  go_wp2_with (first
    | refine wpList_load_mid rfl 58 (.tmp 5) rfl (u.heap.size + 1) 0 rfl [.int .i64 0, .slice A9 n9 c9] _ rr1 Tryd.underlying58 rfl (pl_info _ _) ?_
    | refine wpList_store_row rfl 58 (.tmp 6) (.tmp 61) rfl (u.heap.size + 1 + 1) #[.int .i64 0, .slice A9 n9 c9] rfl rfl 58 #[.int .i64 0, .slice none 0 0] R2 (pl_info _ _) rfl (ones2 rfl rfl) ?_)
  exact ret_places Tryd.results47 rfl HRF.out rfl HFIN.out
set_option maxHeartbeats 2000000 in
theorem walk_bytes {M : MC} (hM : M.Ok) {k : Nat} {g : Gd} {n : Nd} {kA : Option Addr} (hN : NodeAt M k g n kA) (mm kc : Nat) (h2 : n.op = 2) : WalkC M k g kA mm kc := by
  intro F u v X h
  have hop : Hid (g.op = 2) := by have ho := hN.gn.op; rw [h2] at ho; exact ho
  have hs := hN.gn.s
  obtain ⟨A9, n9, c9, rfl⟩ := h.pl.form
  have hfl := h.fl
  have F0 := FS.start h
  have hB := F0.lo
  have hX := h.le
  clear h
  go_enter Tryd.func47, Tryd.ntmps47
  go_upto_region 1 with fail
  have F1 := F0.three 43 (by decide) (by decide) (ndC g kA mm kc) #[.int .i64 0, .slice A9 n9 c9] #[.int .i64 0, .slice none 0 0]
  generalize ((u.alloc (.cells (ndC g kA mm kc) 43)).alloc (.cells #[.int .i64 0, .slice A9 n9 c9] 58)).alloc (.cells #[.int .i64 0, .slice none 0 0] 58) = u1 at *
  have d0 : u1.cell? ⟨u.heap.size, 0, none⟩ = some (.int .u8 g.op) := F1.r0.at_ rfl
  clear F0
  rw [hop.out] at d0
  obtain ⟨cs, ms, hm⟩ := F1.mi
  obtain ⟨pp, hp, hpx⟩ := F1.pl
  have hbe := Be.behind_any hM hm g.s pp _ hp
  have d1 : u1.cell? ⟨u.heap.size, 1, none⟩ = some (.int .u64 (W g.s 0)) := F1.r0.at_ rfl
  have d2 : u1.cell? ⟨u.heap.size, 2, none⟩ = some (.int .u64 (W g.s 1)) := F1.r0.at_ rfl
  have d3 : u1.cell? ⟨u.heap.size, 3, none⟩ = some (.int .u64 (W g.s 2)) := F1.r0.at_ rfl
  have d4 : u1.cell? ⟨u.heap.size, 4, none⟩ = some (.int .u64 (W g.s 3)) := F1.r0.at_ rfl
  have rr1 := pl_range F1.r1
  have HF1 := hidd F1
  have hfew := hM.few
  have HY : Hid (∀ j, Be.behB g.s (bs M.s) (bitsL pp) j = true ↔ img (M.R k) X j) := fun j => by
    rw [Be.beh_img (by rw [bs_len]; exact hfew) hpx hp.1]
    have e : ∀ i, M.R k i j ↔ i < (bs M.s).length ∧ n.s (at_ (bs M.s) i) = true ∧ j = i + 1 := fun i => by
      rw [hN.eq hM]
      unfold node1
      rw [if_pos h2]
      exact Iff.rfl
    constructor
    · rintro ⟨i, q1, q2, q3, q4⟩
      refine ⟨i, q1, (e i).2 ⟨q2, ?_, q4⟩⟩
      rw [← hs _ (at_lt M.s i q2)]
      exact q3
    · rintro ⟨i, q1, q⟩
      obtain ⟨q2, q3, q4⟩ := (e i).1 q
      refine ⟨i, q1, q2, ?_, q4⟩
      rw [hs _ (at_lt M.s i q2)]
      exact q3
  clear F1 hm hp hpx
  go_wp2_with (refine wpList_load_mid rfl 58 (.tmp 5) rfl (u.heap.size + 1) 0 rfl [.int .i64 0, .slice A9 n9 c9] _ rr1 Tryd.underlying58 rfl (pl_info _ _) ?_)
  refine hbe.mono ?_
  rintro e u2 ⟨b2, v2, rfl, hp2, hn2⟩
  obtain ⟨A8, n8, c8, rfl⟩ := pl_form hp2
  have F2 := (HF1.out.below b2).turn (v' := .agg #[.int .i64 0, .slice A8 n8 c8]) ⟨_, hp2, HY.out⟩ (fun b hb hf => by
    have h1 := hn2 b hb
    have h2 := hfl b hf
    have h3 := HF1.out.keep.size
    omega)
  have R2 := F2.r2
  have HFIN : Hid (RetQ M F u (img (M.R k) X) (.returned (.agg #[.int .i64 0, .slice A8 n8 c8])) (u2.setRow (u.heap.size + 1 + 1) #[.int .i64 0, .slice A8 n8 c8])) := F2.done (by omega) (by simp; omega) (by simp) rfl (fun j => Iff.rfl)
  have HRF := hidd (R2.row #[.int .i64 0, .slice A8 n8 c8])
  clear hbe F2 hp2 hn2
  go_wp2_with (refine wpList_store_row rfl 58 (.tmp 6) (.tmp 20) rfl (u.heap.size + 1 + 1) #[.int .i64 0, .slice A8 n8 c8] rfl rfl 58 #[.int .i64 0, .slice none 0 0] R2 (pl_info _ _) rfl (ones2 rfl rfl) ?_)
  exact ret_places Tryd.results47 rfl HRF.out rfl HFIN.out
set_option maxHeartbeats 2000000 in
theorem walk_cat {M : MC} (hM : M.Ok) {k : Nat} {g : Gd} {n : Nd} {kA : Option Addr} (hN : NodeAt M k g n kA) (mm kc : Nat) (hmm : n.l.length = mm) (hE : ∀ c, c < k → EndsC M c) (h3 : n.op = 3) : WalkC M k g kA mm kc := by
  intro F u v X h
  have hop : Hid (g.op = 3) := by have ho := hN.gn.op; rw [h3] at ho; exact ho
  obtain ⟨A9, n9, c9, rfl⟩ := h.pl.form
  have hfl := h.fl
  have F0 := FS.start h
  have hB := F0.lo
  have hX := h.le
  clear h
  go_enter Tryd.func47, Tryd.ntmps47
  go_upto_region 1 with fail
  have F1 := F0.three 43 (by decide) (by decide) (ndC g kA mm kc) #[.int .i64 0, .slice A9 n9 c9] #[.int .i64 0, .slice none 0 0]
  generalize ((u.alloc (.cells (ndC g kA mm kc) 43)).alloc (.cells #[.int .i64 0, .slice A9 n9 c9] 58)).alloc (.cells #[.int .i64 0, .slice none 0 0] 58) = u1 at *
  have d0 : u1.cell? ⟨u.heap.size, 0, none⟩ = some (.int .u8 g.op) := F1.r0.at_ rfl
  clear F0
  rw [hop.out] at d0
  have hm5 : u1.cell? ⟨u.heap.size, 5, none⟩ = some (.slice kA mm kc) := F1.r0.at_ rfl
  have HF1 := hidd F1
  have HX := hidd hX
  have HFL := hidd hfl
  have HE := hidd hE
  have HN := hidd hN
  have HMM := hidd hmm
  have hml : mm ≤ 1024 := by rw [← hmm]; exact hN.few
  clear F1 hX hfl hE hN hmm
  go_wp2
  go_loopw [26] (fun s26 wr => ∃ (i : Nat) (A9 : Option Addr) (n9 c9 : Nat), s26 = .int .i64 (i : Int) ∧ i ≤ mm ∧ FS M F u [(u.heap.size, 43, ndC g kA mm kc), (u.heap.size + 1, 58, #[.int .i64 0, .slice A9 n9 c9]), (u.heap.size + 1 + 1, 58, #[.int .i64 0, .slice none 0 0])] (.agg #[.int .i64 0, .slice A9 n9 c9]) (img (chainR (Mt M.ns (bs M.s)) (n.l.take i)) X) wr) (fun s26 _ => mm - (intOf s26).toNat)
  case atStart => exact ⟨0, A9, n9, c9, rfl, Nat.zero_le _, HF1.out.turn (HF1.out.pl.congr fun j => (img_nil j).symm) HF1.out.off⟩
  case round =>
    clear HF1 hm5 d0
    obtain ⟨i, A9, n9, c9, rfl, hi, hf⟩ := hrel
    by_cases hlt : i < mm
    · obtain ⟨b, o, rfl, hkb, hkc⟩ := HN.out.kid i (by rw [HMM.out]; exact hlt)
      have hcl := hf.kid hkb hkc
      have hii : (i : Int) < (mm : Int) := by omega
      have hmem : n.l.getD i 0 ∈ n.l := by
        have : i < n.l.length := by rw [HMM.out]; exact hlt
        rw [List.getD_eq_getElem?_getD, List.getElem?_eq_getElem this]
        exact List.getElem_mem this
      have hen := HE.out _ (HN.out.low hM _ hmem) F wr _ _ (hf.inp HFL.out (fun j ⟨x, h1, h2⟩ => chain_in hM _ x j h2 (HX.out x h1)))
      have HTK : Hid (n.l.take (i + 1) = n.l.take i ++ [n.l.getD i 0]) := take_next (by rw [HMM.out]; exact hlt)
      have rr1 := pl_range hf.r1
      have HF := hidd hf
      clear hmem hf
      generalize n.l.getD i 0 = x at *
      go_wp2_with (refine wpList_load_mid rfl 58 (.tmp 5) rfl (u.heap.size + 1) 0 rfl [.int .i64 0, .slice A9 n9 c9] _ rr1 Tryd.underlying58 rfl (pl_info _ _) ?_)
      refine hen.mono ?_
      rintro e w2 ⟨v2, rfl, hm2, hk2, hp2, ho2⟩
      obtain ⟨A1, n1, c1, rfl⟩ := hp2.form
      have F2 := (HF.out.step hm2 hk2).turn hp2 ho2
      have R5 := F2.r1
      have F3 := ((F2.sub (L' := [(u.heap.size + 1, 58, #[.int .i64 0, .slice A9 n9 c9]), (u.heap.size, 43, ndC g (some ⟨b, o, none⟩) mm kc), (u.heap.size + 1 + 1, 58, #[.int .i64 0, .slice none 0 0])]) (fun x hx => by simp at hx ⊢; rcases hx with e | e | e <;> simp [e])).setRow (c' := #[.int .i64 0, .slice A1 n1 c1]) (by omega) (fun x hx => by simp at hx; rcases hx with e | e <;> (subst e; simp)) rfl)
      have HF3 : Hid (FS M F u [(u.heap.size, 43, ndC g (some ⟨b, o, none⟩) mm kc), (u.heap.size + 1, 58, #[.int .i64 0, .slice A1 n1 c1]), (u.heap.size + 1 + 1, 58, #[.int .i64 0, .slice none 0 0])] (.agg #[.int .i64 0, .slice A1 n1 c1]) (img (chainR (Mt M.ns (bs M.s)) (n.l.take (i + 1))) X) (w2.setRow (u.heap.size + 1) #[.int .i64 0, .slice A1 n1 c1])) := by
        have f4 := F3.sub (L' := [(u.heap.size, 43, ndC g (some ⟨b, o, none⟩) mm kc), (u.heap.size + 1, 58, #[.int .i64 0, .slice A1 n1 c1]), (u.heap.size + 1 + 1, 58, #[.int .i64 0, .slice none 0 0])]) (fun x hx => by simp at hx ⊢; rcases hx with e | e | e <;> simp [e])
        refine f4.turn (f4.pl.congr fun j => ?_) f4.off
        rw [HTK.out, img_chain]
        exact Iff.rfl
      clear hen rr1 F2 F3 hm2 hk2 hp2 ho2
      go_wp2_with (refine wpList_store_row rfl 58 (.tmp 5) (.tmp 33) rfl (u.heap.size + 1) #[.int .i64 0, .slice A1 n1 c1] rfl rfl 58 #[.int .i64 0, .slice A9 n9 c9] R5 (pl_info _ _) rfl (ones2 rfl rfl) ?_)
      exact ⟨⟨i + 1, A1, n1, c1, rfl, by omega, HF3.out⟩, by simp [intOf]; omega⟩
    · have HY : Hid (∀ j, img (chainR (Mt M.ns (bs M.s)) (n.l.take i)) X j ↔ img (M.R k) X j) := fun j => by
        rw [List.take_of_length_le (by rw [HMM.out]; omega)]
        have e : ∀ i, M.R k i j ↔ chainR (Mt M.ns (bs M.s)) n.l i j := fun i => by
          rw [HN.out.eq hM]
          unfold node1
          rw [if_neg (by omega), if_pos h3]
        constructor
        · rintro ⟨x, q1, q2⟩; exact ⟨x, q1, (e x).2 q2⟩
        · rintro ⟨x, q1, q2⟩; exact ⟨x, q1, (e x).1 q2⟩
      have him : i = mm := by omega
      have HF := hidd hf
      clear hf h3
      subst him
      have R2 := HF.out.r2
      have rr1 := pl_range HF.out.r1
      have HFIN : Hid (RetQ M F u (img (M.R k) X) (.returned (.agg #[.int .i64 0, .slice A9 n9 c9])) (wr.setRow (u.heap.size + 1 + 1) #[.int .i64 0, .slice A9 n9 c9])) := HF.out.done (by omega) (by simp; omega) (by simp) rfl HY.out
      have HRF := hidd (R2.row #[.int .i64 0, .slice A9 n9 c9])
      go_wp2_with (first
        | refine wpList_load_mid rfl 58 (.tmp 5) rfl (u.heap.size + 1) 0 rfl [.int .i64 0, .slice A9 n9 c9] _ rr1 Tryd.underlying58 rfl (pl_info _ _) ?_
        | refine wpList_store_row rfl 58 (.tmp 6) (.tmp 35) rfl (u.heap.size + 1 + 1) #[.int .i64 0, .slice A9 n9 c9] rfl rfl 58 #[.int .i64 0, .slice none 0 0] R2 (pl_info _ _) rfl (ones2 rfl rfl) ?_)
      exact ret_places Tryd.results47 rfl HRF.out rfl HFIN.out
end Go.Proofs.YtcgondjekpcpgaaDoor.Sy.Lg.Wl

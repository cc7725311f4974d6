/- M4: what were Tk Tl Tm Tn To Tp Tq Tr Ts Tt Tu Tv Tw. -/
import Derived.Test.YtahhiajliomcfaaPM3
import Derived.Test.YtahhiajliomcfaaPRr
import Derived.Test.YtahhiajliomcfaaPM2
import Derived.Deep.AppendLies

/- The landed parser's nodes in memory; a node more, and a row's or an alternative's node. -/
namespace Go.Proofs.Ytahhiajliomcfaa.Sy
open Go.RowKit
set_option maxRecDepth 100000

/-- A node and where its kids lie. -/
abbrev NR := Gd × Option Addr × Nat
/-- The kids of a node lie apart from the parser and from its nodes. -/
def Kid (w : World) (b : Nat) (v : Value) (x : NR) : Prop :=
  x.1.l ≠ [] → ∃ q off, x.2.1 = some ⟨q, off, none⟩ ∧ q < w.heap.size ∧ q ≠ b ∧ v.ownBlock ≠ some q ∧ ∀ i, i < x.1.l.length → w.cell? ⟨q, off + i, none⟩ = some (.int .i64 (x.1.l.getD i 0))
/-- What a call may turn: the parser, and the row of its nodes. -/
structure Fr (b : Nat) (v v' : Value) (w w' : World) : Prop where
  os : w'.os = w.os
  tape : w'.tape = w.tape
  output : w'.output = w.output
  size : w.heap.size ≤ w'.heap.size
  block : ∀ k, k < w.heap.size → k ≠ b → v.ownBlock ≠ some k → w'.heap[k]? = w.heap[k]?
  own : ∀ k, v'.ownBlock = some k → v.ownBlock = some k ∨ w.heap.size ≤ k
section
variable {w w' w2 : World} {b : Nat} {v v' v2 : Value} {s : ByteArray} {i er pl d : Int} {l l' l2 : List NR}
theorem Fr.refl (b : Nat) (v : Value) (w : World) : Fr b v v w w := ⟨rfl, rfl, rfl, Nat.le_refl _, fun _ _ _ _ => rfl, fun _ h => .inl h⟩
theorem Fr.trans (a : Fr b v v' w w') (c : Fr b v' v2 w' w2) : Fr b v v2 w w2 := by
  refine ⟨c.os.trans a.os, c.tape.trans a.tape, c.output.trans a.output, Nat.le_trans a.size c.size, fun k hk h1 h2 => ?_, fun k hk => ?_⟩
  · refine (c.block k (Nat.lt_of_lt_of_le hk a.size) h1 fun e => ?_).trans (a.block k hk h1 h2)
    rcases a.own k e with h | h
    · exact h2 h
    · omega
  · rcases c.own k hk with h | h
    · exact a.own k h
    · exact .inr (Nat.le_trans a.size h)
theorem Fr.of (a : Touch b b w w') (v : Value) : Fr b v v w w' := ⟨a.os, a.tape, a.output, a.size, fun k hk h1 _ => a.block k hk h1 h1, fun _ h => .inl h⟩
theorem Kid.fr {x : NR} (h : Kid w b v x) (a : Fr b v v' w w') : Kid w' b v' x := fun hx => by
  obtain ⟨q, off, h1, h2, h3, h4, h5⟩ := h hx
  refine ⟨q, off, h1, Nat.lt_of_lt_of_le h2 a.size, h3, fun e => ?_, fun i hi => (World.cell?_of_block (a.block q h2 h3 h4)).trans (h5 i hi)⟩
  rcases a.own q e with h | h
  · exact h4 h
  · omega
theorem node_info : (Try.prog.info? 42).map (fun i => (i.zero, i.size, i.bytes)) = some (some (.agg zeroC), 9, 96) := by kernel_rfl
theorem nodesC_snoc (l : List NR) (x : NR) : nodesC l ++ gdL x.1 x.2.1 x.2.2 = nodesC (l ++ [x]) := by simp [nodesC]
theorem gdL_ones (g : Gd) (A : Option Addr) (c : Nat) : ∀ u ∈ gdL g A c, u.oneCell' = true := by
  intro u hu
  simp only [gdL, List.mem_cons, List.not_mem_nil, or_false] at hu
  rcases hu with rfl | rfl | rfl | rfl | rfl | rfl | rfl | rfl | rfl <;> rfl

end
namespace Ad
/-- The new slice of nodes. -/
def OwnP (w : World) (v : Value) (l : List NR) (z : Value) (u : World) : Prop := u.ownsRow 0 42 9 z l.length (nodesC l) ∧ (z.ownBlock = v.ownBlock ∨ ∃ k, z.ownBlock = some k ∧ w.heap.size ≤ k)
def n12 (d : Option Nat) : Bool := !(d == some 12)
section
variable {w u u' : World} {b : Nat} {s : ByteArray} {i er pl d : Int} {v : Value} {l : List NR} {x : Gd} {A : Option Addr} {c B : Nat} {a : Act}
theorem grown_below {row : Option Nat} (h : w.grownBy u row) (hb : Below u.heap.size u u') : w.grownBy u' row :=
  ⟨hb.os.trans h.os, hb.tape.trans h.tape, hb.output.trans h.output, Nat.le_trans h.size hb.size, fun k hk hr => (hb.block k (Nat.lt_of_lt_of_le hk h.size)).trans (h.block k hk hr)⟩
end
def Eb (v : Value) (d : Option Nat) (u u' : World) : Prop := if n12 d = true then Below u.heap.size u u' else u.grownBy u' v.ownBlock
theorem eby {v : Value} {d : Option Nat} {u u' : World} (hd : n12 d = true) (h : Below u.heap.size u u') : Eb v d u u' := by
  unfold Eb; rw [if_pos hd]; exact h
theorem ebw {v : Value} {d : Option Nat} {u u' : World} (hd : n12 d = false) (h : u.grownBy u' v.ownBlock) : Eb v d u u' := by
  unfold Eb; rw [if_neg (by rw [hd]; exact Bool.false_ne_true)]; exact h
/-- A new row of one node. -/
def NRow (w : World) (vv : Value) (x : Gd) (A : Option Addr) (c : Nat) (z : Value) (u : World) : Prop := ∃ g, z = .slice (some ⟨g, 0, none⟩) 1 1 ∧ vv.ownBlock ≠ some g ∧ w.heap.size ≤ g ∧ RowA u g 42 (gdL x A c).toArray

theorem own_not {v' : Value} {u1 : World} {n : Nat} {xs : List Value} (h : u1.ownsRow 0 42 9 v' n xs) : v' ≠ undef := fun e => by
  obtain ⟨A1, c1, h2⟩ := own_form h
  rw [h2] at e
  cases e
theorem undef12 {w : World} {v0 v1 z : Value} (h : (#[v0, v1, undef, .pointer (some ⟨w.heap.size, 0, none⟩), .int .i64 0, undef, undef, undef, undef, undef, undef, undef, undef, undef, undef, undef, undef, undef, undef, undef, undef] : Array Value)[12]? = some z) : z = undef := (Option.some.inj h).symm

theorem fr_store {w u : World} {b : Nat} {v z : Value} (hg : w.grownBy u v.ownBlock) (hat : z.ownBlock = v.ownBlock ∨ ∃ k, z.ownBlock = some k ∧ w.heap.size ≤ k) (y : Value) : Fr b v z w (u.setCell ⟨b, 4, none⟩ y) := by
  refine ⟨hg.os, hg.tape, hg.output, by simpa [World.setCell] using hg.size, fun k hk h1 h2 => (Below.heap_setCell _ _ _ _ h1).trans (hg.block k hk (fun e => h2 e.symm)), fun k hk => ?_⟩
  rcases hat with h | ⟨q, h, h3⟩
  · exact .inl (h ▸ hk)
  · rw [h] at hk
    cases hk
    exact .inr h3
theorem own_far {u : World} {base : Nat} {e : TypeId} {sz n : Nat} {z : Value} {xs : List Value} (h : u.ownsRow base e sz z n xs) {a : Addr} (hb : z.ownBlock ≠ some a.block) (y : Value) : (u.setCell a y).ownsRow base e sz z n xs := by
  obtain ⟨h1, h2⟩ := h
  refine ⟨h1, ?_⟩
  rcases h2 with h2 | ⟨g, cap, cur, hv, hg, hh, r⟩
  · exact .inl h2
  · exact .inr ⟨g, cap, cur, hv, hg, (Below.heap_setCell _ _ _ _ (fun q => hb (by rw [hv, ← q]; rfl))).trans hh, r⟩

end Ad
section
end

end Go.Proofs.Ytahhiajliomcfaa.Sy

/- The landed parser's local rows of kids; a row's or an alternative's node; a node of a set. -/
namespace Go.Proofs.Ytahhiajliomcfaa.Sy
open Go.RowKit
set_option maxRecDepth 100000

/-- What a call has turned, and which nodes came. -/
structure Goes (b : Nat) (v0 : Value) (l0 : List NR) (v : Value) (l : List NR) (w0 w : World) : Prop where
  fr : Fr b v0 v w0 w
  new : ∃ m, l = l0 ++ m ∧ ∀ x ∈ m, ∀ a, x.2.1 = some a → x.1.l ≠ [] → w0.heap.size ≤ a.block
section
variable {w0 w w' : World} {b : Nat} {v0 v v' rv : Value} {s : ByteArray} {i er pl d : Int} {l0 l l' : List NR} {xs : List Nat}
theorem Goes.refl (b : Nat) (v : Value) (l : List NR) (w : World) : Goes b v l v l w w := ⟨Fr.refl _ _ _, [], by simp, by simp⟩
theorem Goes.trans (a : Goes b v0 l0 v l w0 w) (c : Goes b v l v' l' w w') : Goes b v0 l0 v' l' w0 w' := by
  obtain ⟨m, h1, h2⟩ := a.new
  obtain ⟨m', h3, h4⟩ := c.new
  refine ⟨a.fr.trans c.fr, m ++ m', by rw [h3, h1, List.append_assoc], fun x hx y hy hl => ?_⟩
  rcases List.mem_append.1 hx with h | h
  · exact h2 x h y hy hl
  · exact Nat.le_trans a.fr.size (h4 x h y hy hl)
theorem Goes.read (a : Goes b v0 l0 v l w0 w) (T : Touch b b w w') : Goes b v0 l0 v l w0 w' := ⟨a.fr.trans (Fr.of T v), a.new⟩
theorem Goes.add (a : Goes b v0 l0 v l w0 w) {x : NR} (f : Fr b v v' w w') (h : ∀ y, x.2.1 = some y → x.1.l ≠ [] → w0.heap.size ≤ y.block) : Goes b v0 l0 v' (l ++ [x]) w0 w' := by
  obtain ⟨m, h1, h2⟩ := a.new
  refine ⟨a.fr.trans f, m ++ [x], by rw [h1, List.append_assoc], fun y hy z hz hl => ?_⟩
  rcases List.mem_append.1 hy with h3 | h3
  · exact h2 y h3 z hz hl
  · rw [List.mem_singleton] at h3
    subst h3
    exact h z hz hl
theorem own_fr {base : Nat} {e : TypeId} {sz n : Nat} {ys : List Value} (h : w.ownsRow base e sz rv n ys) (f : Fr b v v' w w') (h1 : rv.ownBlock ≠ some b) (h2 : ∀ k, rv.ownBlock = some k → v.ownBlock ≠ some k) : w'.ownsRow base e sz rv n ys := by
  have hlt := h.lt
  obtain ⟨h3, h4⟩ := h
  refine ⟨h3, ?_⟩
  rcases h4 with h4 | ⟨g, cap, cur, hv, hg, hh, r⟩
  · exact .inl h4
  · have e : rv.ownBlock = some g := by rw [hv]; rfl
    exact .inr ⟨g, cap, cur, hv, hg, (f.block g (hlt g e).2 (fun q => h1 (q ▸ e)) (h2 g e)).trans hh, r⟩

theorem cat_lit (op : Int) (ys : List Int) (A : Option Addr) (c : Nat) : (gdL (catG op ys) A c).toArray = #[.int .u8 op, .int .u64 0, .int .u64 0, .int .u64 0, .int .u64 0, .slice A ys.length c, .int .i64 0, .int .i64 0, .string { data := #[] }] := by
  simp only [gdL, catG, W_zero]
theorem i64s_kid {n cap : Nat} (xs : List Nat) (g : Nat) (h : w.ownsRow 0 3 1 (.slice (some ⟨g, 0, none⟩) n cap) n (i64s xs)) (hn : n = xs.length) : ∀ j, j < (xs.map fun k : Nat => (k : Int)).length → w.cell? ⟨g, 0 + j, none⟩ = some (.int .i64 ((xs.map fun k : Nat => (k : Int)).getD j 0)) := by
  intro j hj
  rw [List.length_map] at hj
  have := h.cellAt j (by omega)
  rw [i64s_at xs j hj] at this
  rw [Nat.zero_add, List.getD_eq_getElem?_getD, List.getElem?_map, List.getElem?_eq_getElem hj]
  rw [List.getD_eq_getElem?_getD, List.getElem?_eq_getElem hj] at this
  exact this

/-- A node of a set. -/
def setG (q : Nat → Bool) : Gd := ⟨2, q, [], 0, 0, ⟨#[]⟩⟩
end

end Go.Proofs.Ytahhiajliomcfaa.Sy

/- The landed parser: a class. -/
namespace Go.Proofs.Ytahhiajliomcfaa.Sy
open Go.RowKit
set_option maxRecDepth 100000

def classR (t : List Nat) (i : Nat) : Except Bad (Nd × Nat) := match class_ t i with | .error e => .error e | .ok (p, j) => .ok (ndBytes p, j)

section
variable {w w' : World} {b : Nat} {s : ByteArray} {er pl : Int} {v : Value} {d : Int}
theorem set_none (p : Nat → Bool) (w : World) : (binOp .eql 40 (.agg #[.int .u64 (W (p) 0), .int .u64 (W (p) 1), .int .u64 (W (p) 2), .int .u64 (W (p) 3)]) (.agg #[.int .u64 0, .int .u64 0, .int .u64 0, .int .u64 0])).run Try.prog w = .ok (.bool (emptyS p)) w := by
  have := set_eql p noB w
  rw [W_zero, W_zero, W_zero, W_zero, eqB_empty] at this
  exact this

end

end Go.Proofs.Ytahhiajliomcfaa.Sy

/- The landed parser: a class. -/
namespace Go.Proofs.Ytahhiajliomcfaa.Sy
open Go.RowKit
set_option maxRecDepth 100000
set_option linter.unusedVariables false

section
variable {w w' : World} {b : Nat} {s : ByteArray} {v : Value} {d : Int} {l : List NR}
end

end Go.Proofs.Ytahhiajliomcfaa.Sy

/- The landed parser: a name, and how often something is repeated. -/
namespace Go.Proofs.Ytahhiajliomcfaa.Sy
open Go.RowKit
set_option maxRecDepth 100000
set_option linter.unusedVariables false

set_option maxHeartbeats 400000 in
theorem pletter_any (c : Nat) (w : World) : Calls Try.prog 90 #[.int .u8 (c : Int)] w fun e w' => e = .returned (.bool (letterB c)) ∧ w' = w := by
  by_cases h1 : 97 ≤ c
  · have h1i : (97 : Int) ≤ (c : Int) := by omega
    by_cases h2 : c ≤ 122
    · have h2i : (c : Int) ≤ 122 := by omega
      have HV : Hid (letterB c = true) := by show _ = _; simp [letterB]; omega
      go_enter Try.func90, Try.ntmps90
      go_wp2
      go_ret
      exact ⟨by rw [HV.out]; rfl, rfl⟩
    · have h2i : ¬ (c : Int) ≤ 122 := by omega
      have h3i : (65 : Int) ≤ (c : Int) := by omega
      have h4i : ¬ (c : Int) ≤ 90 := by omega
      have h5i : ((c : Int) == 95) = false := by simp; omega
      have HV : Hid (letterB c = false) := by show _ = _; simp [letterB]; omega
      go_enter Try.func90, Try.ntmps90
      go_wp2
      go_ret
      exact ⟨by rw [HV.out]; rfl, rfl⟩
  · have h1i : ¬ (97 : Int) ≤ (c : Int) := by omega
    by_cases h3 : 65 ≤ c
    · have h3i : (65 : Int) ≤ (c : Int) := by omega
      by_cases h4 : c ≤ 90
      · have h4i : (c : Int) ≤ 90 := by omega
        have HV : Hid (letterB c = true) := by show _ = _; simp [letterB]; omega
        go_enter Try.func90, Try.ntmps90
        go_wp2
        go_ret
        exact ⟨by rw [HV.out]; rfl, rfl⟩
      · have h4i : ¬ (c : Int) ≤ 90 := by omega
        by_cases h5 : c = 95
        · subst h5
          go_enter Try.func90, Try.ntmps90
          go_wp2
          go_ret
          exact ⟨rfl, rfl⟩
        · have h5i : ((c : Int) == 95) = false := by simp; omega
          have HV : Hid (letterB c = false) := by show _ = _; simp [letterB]; omega
          go_enter Try.func90, Try.ntmps90
          go_wp2
          go_ret
          exact ⟨by rw [HV.out]; rfl, rfl⟩
    · have h3i : ¬ (65 : Int) ≤ (c : Int) := by omega
      have h5i : ((c : Int) == 95) = false := by simp; omega
      have HV : Hid (letterB c = false) := by show _ = _; simp [letterB]; omega
      go_enter Try.func90, Try.ntmps90
      go_wp2
      go_ret
      exact ⟨by rw [HV.out]; rfl, rfl⟩

theorem digit_not_letter {c : Nat} (h : digitB c = true) : letterB c = false := by
  unfold digitB at h
  unfold letterB
  simp at h ⊢
  omega
set_option maxHeartbeats 1000000 in
theorem pname_same (s : ByteArray) (w : World) (hs : s.size ≤ maxLen) : Calls Try.prog 81 #[.string s] w fun e w' => e = .returned (.bool (nameB (bs s))) ∧ w' = w := by
  unfold maxLen at hs
  have hbl := bs_len s
  by_cases h1 : s.size < 1
  · have HV : Hid (nameB (bs s) = false) := by show _ = _; unfold nameB; rw [hbl, decide_eq_false (by omega)]; rfl
    have h1i : (s.size : Int) < 1 := by omega
    clear hbl
    go_enter Try.func81, Try.ntmps81
    go_wp2
    go_ret
    exact ⟨by rw [HV.out]; rfl, rfl⟩
  · have h1i : ¬ (s.size : Int) < 1 := by omega
    by_cases h2 : 32 < s.size
    · have HV : Hid (nameB (bs s) = false) := by show _ = _; unfold nameB; rw [hbl, decide_eq_false (show ¬ s.size ≤ 32 from by omega)]; simp
      have h2i : decide ((32 : Int) < (s.size : Int)) = true := decide_eq_true (by omega)
      clear hbl
      go_enter Try.func81, Try.ntmps81
      go_wp2
      go_ret
      exact ⟨by rw [HV.out]; rfl, rfl⟩
    · have h2i : decide ((32 : Int) < (s.size : Int)) = false := decide_eq_false (by omega)
      have h0 : 0 < s.size := by omega
      have h0i : (0 : Int) < (s.size : Int) := by omega
      have hd0 := fun w => pdigit_any (s[0].toNat) w
      have ha0 := at_bs s 0 h0
      cases hq : digitB s[0].toNat with
      | true =>
        rw [hq] at hd0
        have HV : Hid (nameB (bs s) = false) := name_not (j := 0) (by rw [hbl]; exact h0) (by unfold okAt; rw [ha0, digit_not_letter hq]; rfl)
        clear hbl hq ha0
        go_enter Try.func81, Try.ntmps81
        go_wp2_with fail
        refine (hd0 _).mono ?_
        rintro e w1 ⟨rfl, rfl⟩
        go_wp2
        go_ret
        exact ⟨by rw [HV.out]; rfl, rfl⟩
      | false =>
        rw [hq] at hd0
        have HQ := hidd hq
        have HA := hidd ha0
        have HBL := hidd hbl
        clear hq ha0 hbl
        go_enter Try.func81, Try.ntmps81
        go_wp2_with fail
        refine (hd0 _).mono ?_
        rintro e w1 ⟨rfl, rfl⟩
        clear hd0
        go_wp2
        go_loopw [19] (fun i wr => wr = w1 ∧ ∃ k : Nat, k ≤ s.size ∧ i = .int .i64 k ∧ ∀ j, j < k → okAt (bs s) j = true) (fun i _ => s.size - (intOf i).toNat)
        case atStart => exact ⟨rfl, 0, Nat.zero_le _, rfl, fun j hj => by omega⟩
        case round =>
          obtain ⟨rfl, k, hk0, rfl, hok⟩ := hrel
          by_cases hlt : k < s.size
          · have hki : (k : Int) < (s.size : Int) := by omega
            have hak := at_bs s k hlt
            have hl1 := fun w => pletter_any (s[k].toNat) w
            have hd1 := fun w => pdigit_any (s[k].toNat) w
            have HNX : Hid (okAt (bs s) k = true → ∀ j, j < k + 1 → okAt (bs s) j = true) := fun h j hj => by
              rcases Nat.lt_or_ge j k with h2 | h2
              · exact hok j h2
              · rw [show j = k from by omega]; exact h
            have HNO : Hid (okAt (bs s) k = false → nameB (bs s) = false) := fun h => name_not (by rw [HBL.out]; exact hlt) h
            have HOK : Hid (okAt (bs s) k = (letterB s[k].toNat || digitB s[k].toNat)) := by
              show _ = _
              unfold okAt
              rw [hak]
              by_cases hz : k = 0
              · subst hz
                rw [HQ.out]
                simp
              · rw [decide_eq_true (by omega), Bool.true_and]
            clear hok hak
            generalize letterB s[k].toNat = lt at *
            generalize digitB s[k].toNat = dg at *
            go_wp2_with fail
            refine (hd1 _).mono ?_
            rintro e w2 ⟨rfl, rfl⟩
            cases dg with
            | true =>
              go_wp2
              exact ⟨⟨trivial, k + 1, by omega, rfl, HNX.out (by rw [HOK.out]; simp)⟩, by simp [intOf]; omega⟩
            | false =>
              go_wp2_with fail
              refine (hl1 _).mono ?_
              rintro e w2 ⟨rfl, rfl⟩
              cases lt with
              | true =>
                go_wp2
                exact ⟨⟨trivial, k + 1, by omega, rfl, HNX.out (by rw [HOK.out]; rfl)⟩, by simp [intOf]; omega⟩
              | false =>
                go_wp2
                go_ret
                exact ⟨by rw [HNO.out (by rw [HOK.out]; rfl)]; rfl, rfl⟩
          · have hk : k = s.size := by omega
            subst hk
            have HV := hidd (name_all (s := bs s) (fun j hj => hok j (by rw [HBL.out] at hj; exact hj)))
            rw [HBL.out, decide_eq_true (show 1 ≤ s.size from h0), decide_eq_true (show s.size ≤ 32 from by omega)] at HV
            clear hok
            go_wp2
            go_ret
            exact ⟨by rw [HV.out]; rfl, rfl⟩
def nameR (t : List Nat) (i : Nat) : Except Bad (Nd × Nat) := match name_ t i with | .error e => .error e | .ok (nm, j) => .ok (ndRef nm, j)
theorem ref_lit (q : ByteArray) : (gdL (refG q) none 0).toArray = #[.int .u8 6, .int .u64 0, .int .u64 0, .int .u64 0, .int .u64 0, .slice none 0 0, .int .i64 0, .int .i64 0, .string q] := by
  simp only [gdL, refG, W_zero, List.length_nil]
section
variable {w w' : World} {b : Nat} {s : ByteArray} {v : Value} {d : Int} {l : List NR}
end

end Go.Proofs.Ytahhiajliomcfaa.Sy

/- The landed parser: how often, and an atom that is no parenthesis. -/
namespace Go.Proofs.Ytahhiajliomcfaa.Sy
open Go.RowKit
set_option maxRecDepth 100000
set_option linter.unusedVariables false

section
variable {w w' : World} {b : Nat} {s : ByteArray} {er pl : Int} {v : Value} {d : Int} {l : List NR}

end

end Go.Proofs.Ytahhiajliomcfaa.Sy

/- The landed parser: an atom that is no parenthesis. -/
namespace Go.Proofs.Ytahhiajliomcfaa.Sy
open Go.RowKit
set_option maxRecDepth 100000
set_option linter.unusedVariables false

section
variable {w w' w1 : World} {b : Nat} {s : ByteArray} {er pl : Int} {v : Value} {d : Int} {l : List NR}
theorem lone_cls {t : List Nat} {i : Nat} (h : at_ t i = 91) : lone t i = classR t i := by unfold lone classR; rw [if_pos h]; cases class_ t i <;> rfl
theorem lone_name {t : List Nat} {i : Nat} (h : at_ t i = 123) (h2 : dig t (i + 1) = false) : lone t i = nameR t i := by unfold lone nameR; rw [if_neg (by rw [h]; decide), if_neg (by rw [h]; decide), if_pos ⟨h, h2⟩]; cases name_ t i <;> rfl
end

end Go.Proofs.Ytahhiajliomcfaa.Sy

/- The landed parser: parentheses, an item, a row, an alternative. -/
namespace Go.Proofs.Ytahhiajliomcfaa.Sy
open Go.RowKit
set_option maxRecDepth 100000
set_option linter.unusedVariables false

section
variable {w w' w1 : World} {b : Nat} {s : ByteArray} {v v1 : Value} {l l1 : List NR} {i : Nat} {ns : List Nd} {st : List (List Nat × List Nat)} {aa I : List Nat}
theorem gn_snoc {gs : List Gd} {ns : List Nd} {g : Gd} {n : Nd} (h : GN gs ns) (h1 : GN1 g n) : GN (gs ++ [g]) (ns ++ [n]) := by
  refine ⟨by simp [h.1], fun i hi => ?_⟩
  rw [List.length_append, List.length_singleton] at hi
  rcases Nat.lt_or_ge i gs.length with h2 | h2
  · have e1 : (gs ++ [g]).getD i gd0 = gs.getD i gd0 := by rw [List.getD_eq_getElem?_getD, List.getD_eq_getElem?_getD, List.getElem?_append_left h2]
    have e2 : (ns ++ [n]).getD i nd0 = ns.getD i nd0 := by rw [List.getD_eq_getElem?_getD, List.getD_eq_getElem?_getD, List.getElem?_append_left (by rw [← h.1]; exact h2)]
    rw [e1, e2]
    exact h.2 i h2
  · have hi2 : i = gs.length := by omega
    subst hi2
    have e1 : (gs ++ [g]).getD gs.length gd0 = g := by simp [List.getD_eq_getElem?_getD]
    have e2 : (ns ++ [n]).getD gs.length nd0 = n := by rw [h.1]; simp [List.getD_eq_getElem?_getD]
    rw [e1, e2]
    exact h1
theorem gn_map {l : List NR} {ns : List Nd} {x : NR} {n : Nd} (h : GN (l.map (·.1)) ns) (h1 : GN1 x.1 n) : GN ((l ++ [x]).map (·.1)) (ns ++ [n]) := by
  rw [List.map_append]
  exact gn_snoc h h1
end

end Go.Proofs.Ytahhiajliomcfaa.Sy

/- The landed parser: parentheses. -/
namespace Go.Proofs.Ytahhiajliomcfaa.Sy
open Go.RowKit
set_option maxRecDepth 100000
set_option linter.unusedVariables false

section
variable {w w' w1 : World} {b : Nat} {s : ByteArray} {v v1 : Value} {l l1 : List NR} {i : Nat} {ns : List Nd} {st : List (List Nat × List Nat)} {aa I : List Nat}

end

end Go.Proofs.Ytahhiajliomcfaa.Sy

/- The landed parser: an item. -/
namespace Go.Proofs.Ytahhiajliomcfaa.Sy
open Go.RowKit
set_option maxRecDepth 100000
set_option linter.unusedVariables false

section
variable {w w' w1 : World} {b : Nat} {s : ByteArray} {v v1 : Value} {l l1 : List NR} {i : Nat} {ns : List Nd} {st : List (List Nat × List Nat)} {aa I : List Nat}
theorem rep_lt {t : List Nat} {j : Nat} (h : repAt t j = true) : j < t.length := by
  unfold repAt at h
  simp only [Bool.or_eq_true, Bool.and_eq_true] at h
  rcases h with ((h | h) | h) | ⟨h, _⟩ <;> exact (is_lt h).1
theorem rep_lit (k lo hi : Int) (A : Option Addr) (c : Nat) : (gdL (repG k lo hi) A c).toArray = #[.int .u8 5, .int .u64 0, .int .u64 0, .int .u64 0, .int .u64 0, .slice A 1 c, .int .i64 lo, .int .i64 hi, .string { data := #[] }] := by
  simp only [gdL, repG, W_zero, List.length_cons, List.length_nil, Nat.zero_add]
theorem Goes.into (f : Fr b v v w w1) {v' : Value} {l' : List NR} {w2 : World} (g : Goes b v l v' l' w1 w2) : Goes b v l v' l' w w2 := by
  obtain ⟨m, h5, h6⟩ := g.new
  exact ⟨f.trans g.fr, m, h5, fun x hx a ha hne => Nat.le_trans f.size (h6 x hx a ha hne)⟩

end

end Go.Proofs.Ytahhiajliomcfaa.Sy

/- The landed parser: a row. -/
namespace Go.Proofs.Ytahhiajliomcfaa.Sy
open Go.RowKit
set_option maxRecDepth 100000
set_option linter.unusedVariables false

section
variable {w w' w1 : World} {b : Nat} {s : ByteArray} {v v1 : Value} {l l1 : List NR} {i : Nat} {ns : List Nd} {st : List (List Nat × List Nat)} {aa I : List Nat}
def emptyG : Gd := ⟨1, noB, [], 0, 0, ⟨#[]⟩⟩
theorem gn_empty : GN1 emptyG ndEmpty := ⟨rfl, fun _ _ => rfl, rfl, rfl, rfl, rfl⟩
theorem empty_lit : (gdL emptyG none 0).toArray = #[.int .u8 1, .int .u64 0, .int .u64 0, .int .u64 0, .int .u64 0, .slice none 0 0, .int .i64 0, .int .i64 0, .string { data := #[] }] := by
  simp only [gdL, emptyG, W_zero, List.length_nil]
theorem mkRow_many {ns : List Nd} {xs : List Nat} (h : 2 ≤ xs.length) : mkRow ns xs = (ns ++ [ndCat xs], ns.length) := by
  match xs, h with
  | x :: y :: r, _ => rfl
theorem mkAlt_lots {ns : List Nd} {xs : List Nat} (h : 2 ≤ xs.length) : mkAlt ns xs = (ns ++ [ndAlt xs], ns.length) := by
  match xs, h with
  | x :: y :: r, _ => rfl
theorem gn_len {l : List NR} {ns : List Nd} (h : GN (l.map (·.1)) ns) : ns.length = l.length := by have := h.1; rw [List.length_map] at this; exact this.symm
theorem int_news (w : World) (k : Int) : ∀ j u, ([.int .i64 k] : List Value)[j]? = some u → (w.alloc (.cells #[.int .i64 k] 3)).cell? ((⟨w.heap.size, 0, none⟩ : Addr).add j) = some u :=
  World.news_of_block (heap_alloc_new w _)

end

end Go.Proofs.Ytahhiajliomcfaa.Sy

/- The landed parser: an alternative. -/
namespace Go.Proofs.Ytahhiajliomcfaa.Sy
open Go.RowKit
set_option maxRecDepth 100000
set_option linter.unusedVariables false

section
variable {w w' w1 : World} {b : Nat} {s : ByteArray} {v v1 : Value} {l l1 : List NR} {i : Nat} {ns : List Nd} {st : List (List Nat × List Nat)} {aa I : List Nat}
def one_if (xs : List Nat) : Nat := if xs = [] then 0 else 1
end

end Go.Proofs.Ytahhiajliomcfaa.Sy

/- The landed Parse keeps what it owes. -/
namespace Go.Proofs.Ytahhiajliomcfaa.Sy
open Go.RowKit
set_option maxRecDepth 100000
set_option linter.unusedVariables false

section
variable {w w' w1 : World} {b : Nat} {s : ByteArray} {v v1 : Value} {l l1 : List NR}

theorem fr_below {w0 : World} {o : Obj} (f : Fr w0.heap.size (.slice none 0 0) v1 (w0.alloc o) w') : Below w0.heap.size w0 w' := by
  have hz : (w0.alloc o).heap.size = w0.heap.size + 1 := World.size_alloc ..
  have hb : Below w0.heap.size w0 (w0.alloc o) := (Below.refl _ _).alloc (Nat.le_refl _) o
  refine ⟨f.os.trans hb.os, f.tape.trans hb.tape, f.output.trans hb.output, by have := f.size; omega, fun k hk => (f.block k (by omega) (by omega) nofun).trans (hb.block k hk)⟩
theorem parse_run {t : List Nat} (h : t.length ≤ 1024) : parse t = match run t start with | .error e => .error e | .ok ns => if 1024 < ns.length then .error (3, 0) else .ok ns := by
  unfold parse
  rw [if_neg (by omega)]
  cases run t start <;> rfl

end

end Go.Proofs.Ytahhiajliomcfaa.Sy

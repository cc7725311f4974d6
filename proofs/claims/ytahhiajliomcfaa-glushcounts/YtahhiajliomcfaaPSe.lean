/- Maps keyed by strings, told by a function; Defs in memory; what names stand for (the landed meanings, Right). -/
import Derived.Test.YtahhiajliomcfaaPM3
import Derived.Test.YtahhiajliomcfaaPM4
import Derived.Test.YtahhiajliomcfaaPSc
import Derived.Maps.OwnSet
namespace Go.Proofs.Ytahhiajliomcfaa.Sy
open Go.RowKit
set_option maxRecDepth 100000
set_option linter.unusedVariables false

/-! ### Maps -/
def heldE (v : Value) : Option (DataW Value × List MemPlace) := some (.held v, [])
def keyS (s : ByteArray) : Lit := .string s.data.toList
/-- Block b is a map that has these values at these keys, and no others. -/
def MapV (w : World) (b n : Nat) (f : ByteArray → Option Value) : Prop :=
  ∃ D : DataW Value, w.ownsMap Try.prog 9 heldE b n D ∧ ∀ s : ByteArray, Maps.has D (keyS s) = (f s).isSome ∧ ∀ v z, f s = some v → D.atKey (keyS s) z = .held v
section
variable {w w' : World} {b n : Nat} {f : ByteArray → Option Value}
theorem MapV.lt (h : MapV w b n f) : b < w.heap.size := by
  obtain ⟨D, h, _⟩ := h
  exact h.lt
theorem MapV.blk (h : MapV w b n f) : ∃ es clock, w.heap[b]? = some (.map es clock) := by
  obtain ⟨D, ⟨es, clock, h, _⟩, _⟩ := h
  exact ⟨es, clock, h⟩
theorem MapV.keep (h : MapV w b n f) (hb : w'.heap[b]? = w.heap[b]?) : MapV w' b n f := by
  obtain ⟨D, ⟨es, clock, h1, h2⟩, h3⟩ := h
  exact ⟨D, ⟨es, clock, hb.trans h1, h2⟩, h3⟩
theorem MapV.below {B : Nat} (h : MapV w b n f) (hb : Below B w w') (hB : b < B) : MapV w' b n f := h.keep (hb.block b hB)
theorem MapV.alloc (h : MapV w b n f) (o : Obj) : MapV (w.alloc o) b n f := h.keep (Below.heap_alloc w o b h.lt)
theorem MapV.congr {g : ByteArray → Option Value} (h : MapV w b n f) (e : ∀ s, f s = g s) : MapV w b n g := by
  have : f = g := funext e
  exact this ▸ h
end
section
variable {w : World} {ops : Array Oper} {rest : List Oper} {o : Oper} {a : Act} {Q : Exit → Act → World → Prop}
end

/-! ### Defs in memory -/
abbrev DG := ByteArray × List Gd
def dg0 : DG := (ByteArray.empty, [])
def dfL (d : DG) (A : Option Addr) (c : Nat) : List Value := [.string d.1, .slice A d.2.length c]
/-- A Def lies in block b from off on. -/
def DfC (w : World) (B b off : Nat) (d : DG) : Prop := ∃ A c, Nds w B A d.2 ∧ w.rangeAt b off (dfL d A c) ∧ d.2.length ≤ c
/-- The slice at A reads as the Defs ds. -/
def Dfs (w : World) (B : Nat) (A : Option Addr) (ds : List DG) : Prop :=
  ds ≠ [] → ∃ b off, A = some ⟨b, off, none⟩ ∧ b < B ∧ ∀ i, i < ds.length → DfC w B b (off + i * 2) (ds.getD i dg0)
section
variable {w w' : World} {B B' : Nat} {A : Option Addr} {ds : List DG}
theorem Dfs.keep (h : Dfs w B A ds) (hc : ∀ p : Addr, p.block < B → w'.cell? p = w.cell? p) : Dfs w' B A ds := fun hx => by
  obtain ⟨b, off, e, hb, ha⟩ := h hx
  refine ⟨b, off, e, hb, fun i hi => ?_⟩
  obtain ⟨A1, c1, h1, h2, h3⟩ := ha i hi
  exact ⟨A1, c1, h1.keep hc, fun j v hv => (hc _ hb).trans (h2 j v hv), h3⟩
theorem Dfs.below (h : Dfs w B A ds) (hb : Below B w w') : Dfs w' B A ds := h.keep fun _ hp => hb.cell hp
theorem Dfs.more (h : Dfs w B A ds) (hB : B ≤ B') : Dfs w B' A ds := fun hx => by
  obtain ⟨b, off, e, hb, ha⟩ := h hx
  exact ⟨b, off, e, by omega, fun i hi => by
    obtain ⟨A1, c1, h1, h2, h3⟩ := ha i hi
    exact ⟨A1, c1, h1.more hB, h2, h3⟩⟩
theorem Dfs.at_ (h : Dfs w B A ds) {k : Nat} (hk : k < ds.length) : ∃ b off, A = some ⟨b, off, none⟩ ∧ b < B ∧ DfC w B b (off + k * 2) (ds.getD k dg0) := by
  obtain ⟨b, off, e, hb, ha⟩ := h (fun e => by subst e; simp at hk)
  exact ⟨b, off, e, hb, ha k hk⟩
end
/-- P6.1's Right. -/
def RightDs (ds : List DG) : Prop := (∀ d ∈ ds, nameB (bs d.1) = true ∧ RightG d.2) ∧ ds.Pairwise fun a b => a.1 ≠ b.1
theorem RightDs.take {ds : List DG} (h : RightDs ds) (k : Nat) : RightDs (ds.take k) :=
  ⟨fun d hd => h.1 d (List.mem_of_mem_take hd), h.2.sublist (List.take_sublist _ _)⟩
theorem RightDs.snoc {ds : List DG} {d : DG} (h : RightDs ds) (h1 : nameB (bs d.1) = true) (h2 : RightG d.2) (h3 : ∀ x ∈ ds, x.1 ≠ d.1) : RightDs (ds ++ [d]) := by
  refine ⟨fun x hx => ?_, List.pairwise_append.2 ⟨h.2, List.pairwise_singleton _ _, fun a ha b hb => ?_⟩⟩
  · rcases List.mem_append.1 hx with q | q
    · exact h.1 x q
    · obtain rfl := List.mem_singleton.1 q
      exact ⟨h1, h2⟩
  · obtain rfl := List.mem_singleton.1 hb
    exact h3 a ha
/-- A map of what these names stand for. -/
structure MapT (w : World) (b n B : Nat) (ds : List DG) (f : ByteArray → Option Value) : Prop where
  map : MapV w b n f
  none : ∀ s, f s = none ↔ ∀ d ∈ ds, d.1 ≠ s
  some : ∀ s v, f s = some v → ∃ d ∈ ds, d.1 = s ∧ ∃ A c, v = .slice A d.2.length c ∧ Nds w B A d.2 ∧ d.2.length ≤ c
theorem MapT.keep {w w' : World} {b n B : Nat} {ds : List DG} {f : ByteArray → Option Value} (h : MapT w b n B ds f) (hb : w'.heap[b]? = w.heap[b]?) (hc : ∀ p : Addr, p.block < B → w'.cell? p = w.cell? p) : MapT w' b n B ds f :=
  ⟨h.map.keep hb, h.none, fun s v hv => by
    obtain ⟨d, h1, h2, A, c, h3, h4, h5⟩ := h.some s v hv
    exact ⟨d, h1, h2, A, c, h3, h4.keep hc, h5⟩⟩
theorem MapT.put {w w' : World} {b n B : Nat} {ds : List DG} {f : ByteArray → Option Value} {d : DG} {A : Option Addr} {c : Nat} (h : MapT w b n B ds f) (hm : MapV w' b (n + 1) (fun k => if k = d.1 then Option.some (.slice A d.2.length c) else f k)) (hc : ∀ p : Addr, p.block < B → w'.cell? p = w.cell? p) (hN : Nds w B A d.2) (hca : d.2.length ≤ c) : MapT w' b (n + 1) B (ds ++ [d]) (fun k => if k = d.1 then Option.some (.slice A d.2.length c) else f k) := by
  refine ⟨hm, fun s => ?_, fun s v hv => ?_⟩
  · by_cases hs : s = d.1
    · subst hs
      simp only [if_true]
      exact ⟨fun q => (by cases q), fun q => absurd rfl (q d (by simp))⟩
    · simp only [if_neg hs]
      rw [h.none]
      constructor
      · intro q x hx
        rcases List.mem_append.1 hx with r | r
        · exact q x r
        · obtain rfl := List.mem_singleton.1 r
          exact fun e => hs e.symm
      · exact fun q x hx => q x (List.mem_append_left _ hx)
  · by_cases hs : s = d.1
    · subst hs
      simp at hv
      exact ⟨d, by simp, rfl, A, c, hv.symm, hN.keep hc, hca⟩
    · simp only [if_neg hs] at hv
      obtain ⟨x, h1, h2, A1, c1, h3, h4, h5⟩ := h.some s v hv
      exact ⟨x, List.mem_append_left _ h1, h2, A1, c1, h3, h4.keep hc, h5⟩
end Go.Proofs.Ytahhiajliomcfaa.Sy

namespace Go.Proofs.Ytahhiajliomcfaa.Sy
open Go.RowKit
set_option maxRecDepth 100000
set_option linter.unusedVariables false

theorem name_short {n : Nd} (h : shapeB n = true) : n.name.length ≤ 32 := by
  unfold shapeB nameB at h
  repeat' split at h
  all_goals first
    | (simp only [Bool.and_eq_true, beq_iff_eq, decide_eq_true_eq] at h; first | omega | (simp only [h]; decide))
    | cases h
theorem gn_small {gs : List Gd} {ns : List Nd} (hg : GN gs ns) (hs : Shp ns) (hf : ∀ g ∈ gs, g.l.length ≤ 1000000) : ∀ g ∈ gs, g.nm.size ≤ maxLen ∧ g.l.length ≤ maxLen := by
  intro g hgm
  have h2 := hf g hgm
  obtain ⟨i, hi, rfl⟩ := List.getElem_of_mem hgm
  have h1 := (hg.2 i hi).nm
  have hi2 : i < ns.length := by rw [← hg.1]; exact hi
  rw [List.getD_eq_getElem?_getD, List.getElem?_eq_getElem hi, List.getD_eq_getElem?_getD, List.getElem?_eq_getElem hi2] at h1
  simp only [Option.getD_some] at h1
  have h3 := name_short (hs _ (List.getElem_mem hi2))
  rw [← h1, bs_len] at h3
  unfold maxLen
  omega

end Go.Proofs.Ytahhiajliomcfaa.Sy

namespace Go.Proofs.Ytahhiajliomcfaa.Sy
open Go.RowKit
set_option maxRecDepth 100000
set_option linter.unusedVariables false

/-- Each node's kids. -/
def kidsOf (gs : List Gd) (i : Nat) : List Int := (gs.getD i gd0).l
def WalkR (gs : List Gd) (n f at' : Nat) (seen : List Nat) (base : Nat) (w : World) (e : Ending) (w' : World) : Prop :=
  (∃ v' out, e = .returned (.tuple #[v', .bool true]) ∧ walkF (kidsOf gs) n f at' seen = some out ∧ out.length ≤ n + at' + 1 ∧ w'.ownsRow base 3 1 v' out.length (i64s out) ∧ Below base w w') ∨
  (∃ v', e = .returned (.tuple #[v', .bool false]) ∧ walkF (kidsOf gs) n f at' seen = none ∧ Below base w w')
theorem kidsF_cons {K : Nat → List Int} {n f a i : Nat} {xs : List Int} {sn : List Nat} {x : Int} (hi : i < xs.length) (hx : xs.getD i 0 = x) : kidsF K n f a (xs.drop i) sn = kidsF K n f a (x :: xs.drop (i + 1)) sn := by
  rw [List.drop_eq_getElem_cons hi]
  rw [List.getD_eq_getElem?_getD, List.getElem?_eq_getElem hi, Option.getD_some] at hx
  rw [hx]
theorem kidsF_bad {K : Nat → List Int} {n f a i : Nat} {xs : List Int} {sn : List Nat} {x : Int} (hi : i < xs.length) (hx : xs.getD i 0 = x) (h : x < 0 ∨ (a : Int) ≤ x) : kidsF K n f a (xs.drop i) sn = none := by
  rw [kidsF_cons hi hx, kidsF, if_pos h]
theorem kidsF_none {K : Nat → List Int} {n f a i k : Nat} {xs : List Int} {sn : List Nat} (hi : i < xs.length) (hx : xs.getD i 0 = (k : Int)) (h : k < a) (hw : walkF K n f k sn = none) : kidsF K n f a (xs.drop i) sn = none := by
  rw [kidsF_cons hi hx, kidsF, if_neg (by omega), Int.toNat_natCast, hw]
theorem kidsF_some {K : Nat → List Int} {n f a i k : Nat} {xs : List Int} {sn s' : List Nat} (hi : i < xs.length) (hx : xs.getD i 0 = (k : Int)) (h : k < a) (hw : walkF K n f k sn = some s') : kidsF K n f a (xs.drop i) sn = kidsF K n f a (xs.drop (i + 1)) s' := by
  rw [kidsF_cons hi hx, kidsF, if_neg (by omega), Int.toNat_natCast, hw]
theorem walkF_step {K : Nat → List Int} {n f a : Nat} {seen : List Nat} (h : ¬ n ≤ seen.length) : walkF K n (f + 1) a seen = (kidsF K n f a (K a) seen).map (· ++ [a]) := by rw [walkF, if_neg h]
theorem walkF_full {K : Nat → List Int} {n f a : Nat} {seen : List Nat} (h : n ≤ seen.length) : walkF K n (f + 1) a seen = none := by rw [walkF, if_pos h]
theorem own_least {w : World} {base : Nat} {e : TypeId} {sz n : Nat} {v : Value} {xs : List Value} (h : w.ownsRow base e sz v n xs) : ∀ k, v.ownBlock = some k → base ≤ k := fun k hk => by
  rcases h.2 with ⟨rfl, _⟩ | ⟨g, cap, cur, rfl, hg, _⟩
  · cases hk
  · cases hk; exact hg
theorem bel_own2 {B : Nat} {w u u' : World} {row : Option Nat} (h : Below B w u) (hg : u.grownBy u' row) (hr : ∀ k, row = some k → B ≤ k) (hB : B ≤ w.heap.size) : Below B w u' := bel_own h hg hr hB
/-- How the loop over the kids stands. -/
structure WkL (gs : List Gd) (n f a : Nat) (seen : List Nat) (base : Nat) (A : Option Addr) (w : World) (v : Value) (i : Nat) (wr : World) : Prop where
  le : i ≤ (kidsOf gs a).length
  ex : ∃ sn, kidsF (kidsOf gs) n f a (kidsOf gs a) seen = kidsF (kidsOf gs) n f a ((kidsOf gs a).drop i) sn ∧ sn.length ≤ n + a ∧ wr.ownsRow base 3 1 v sn.length (i64s sn)
  bel : Below base w wr
  sz : base ≤ wr.heap.size

set_option maxHeartbeats 1000000 in
theorem walk_any {A : Option Addr} {c n base : Nat} {gs : List Gd} (hlen : gs.length = n) (hn2 : n ≤ 1100) (hks : ∀ g ∈ gs, g.l.length ≤ maxLen) : ∀ (f a : Nat), a < n → a < f → ∀ (seen : List Nat) (v : Value) (w : World), Nds w base A gs → seen.length ≤ 5000 → base ≤ w.heap.size → w.ownsRow base 3 1 v seen.length (i64s seen) →
    Calls Try.prog 54 #[.slice A n c, .int .i64 (a : Int), v] w fun e w' => WalkR gs n f a seen base w e w'
  | 0, a, _, h, _, _, _, _, _, _, _ => absurd h (Nat.not_lt_zero _)
  | f + 1, a, han, haf, seen, v, w, hx, hsn, hB, hown => by
    have ih := fun (k : Nat) (h1 : k < a) => walk_any (A := A) (c := c) (base := base) hlen hn2 hks f k (by omega) (by omega)
    obtain ⟨b1, o1, rfl, hb1, A3, c3, i1, r1⟩ := hx.at_ (k := a) (by rw [hlen]; exact han)
    have hkl : (kidsOf gs a).length ≤ maxLen := hks _ (by rw [List.getD_eq_getElem?_getD, List.getElem?_eq_getElem (by rw [hlen]; exact han)]; exact List.getElem_mem _)
    change Its w base A3 (kidsOf gs a) at i1
    have r5 : w.cell? ⟨b1, o1 + a * 9 + 5, none⟩ = some (.slice A3 (kidsOf gs a).length c3) := r1 5 _ rfl
    obtain ⟨y, hy⟩ : ∃ y, (kidsOf gs a).length = y := ⟨_, rfl⟩
    rw [hy] at r5 hkl
    have HY := hidd hy
    have HIH := hidd ih
    have HX := hidd hx
    have HLN := hidd hlen
    have HKS := hidd hks
    have HI1 := hidd i1
    have hani : (a : Int) < (n : Int) := by omega
    unfold maxLen at hkl
    obtain ⟨i0, hi0, hz0, hz1, hz2⟩ := info_parts int_info
    obtain ⟨A9, c9, rfl⟩ := own_form hown
    have HOWN := hidd hown
    obtain ⟨m, hm⟩ : ∃ m, seen.length = m := ⟨_, rfl⟩
    rw [hm] at hsn
    rw [hm]
    have HM := hidd hm
    clear hy ih hx hlen hks i1 hown hm r1
    by_cases hfull : n ≤ m
    · have HF := hidd (walkF_full (K := kidsOf gs) (f := f) (a := a) (by rw [HM.out]; exact hfull))
      have hfi : (n : Int) ≤ (m : Int) := by omega
      clear hfull
      go_enter Try.func54, Try.ntmps54
      go_wp2
      go_ret2
      exact .inr ⟨_, rfl, HF.out, Below.refl _ _⟩
    · have HF := hidd (walkF_step (K := kidsOf gs) (f := f) (a := a) (by rw [HM.out]; exact hfull))
      have hfd : decide (n ≤ m) = false := decide_eq_false hfull
      have HFI : Hid (m < n) := Nat.lt_of_not_le hfull
      have HREL : Hid (WkL gs n f a seen base (some ⟨b1, o1, none⟩) w (.slice A9 m c9) 0 w) := ⟨Nat.zero_le _, ⟨seen, by rw [List.drop_zero], by have := HM.out; have := HFI.out; omega, by have h := HOWN.out; have := HM.out; rw [this] at h ⊢; exact h⟩, Below.refl _ _, hB⟩
      clear hfull
      go_enter Try.func54, Try.ntmps54
      go_wp2
      go_loopw [2, 8] (fun s2 s8 wr => ∃ i : Nat, s8 = .int .i64 (i : Int) ∧ i ≤ y ∧ WkL gs n f a seen base (some ⟨b1, o1, none⟩) w s2 i wr) (fun _ s8 _ => y - (intOf s8).toNat)
      case atStart => exact ⟨0, rfl, Nat.zero_le _, HREL.out⟩
      case round =>
        obtain ⟨i, rfl, hiy, R⟩ := hrel
        have r5' := (R.bel.cell (p := ⟨b1, o1 + a * 9 + 5, none⟩) hb1).trans r5
        have HR := hidd R
        clear R HREL
        by_cases hlt : i < y
        · have hii : (i : Int) < (y : Int) := by omega
          obtain ⟨sn, e1, e2, e3⟩ := HR.out.ex
          obtain ⟨g4, o4, rfl, hg4, c4⟩ := (HI1.out.below HR.out.bel).at_ (k := i) (by rw [HY.out]; exact hlt)
          obtain ⟨x, hx⟩ : ∃ x, (kidsOf gs a).getD i 0 = x := ⟨_, rfl⟩
          rw [hx] at c4
          have HE1 := hidd e1
          have HE3 := hidd e3
          have HXX := hidd hx
          have HE2 := hidd e2
          clear e1 e2 e3 hx
          by_cases hx0 : x < 0
          · have HN := hidd (HE1.out.trans (kidsF_bad (by rw [HY.out]; exact hlt) HXX.out (.inl hx0)))
            have hxd : decide (x < 0) = true := decide_eq_true hx0
            go_wp2
            go_ret2
            exact .inr ⟨_, rfl, by rw [HF.out, HN.out]; rfl, HR.out.bel⟩
          · have hxd : decide (x < 0) = false := decide_eq_false hx0
            by_cases hxa : (a : Int) ≤ x
            · have HN := hidd (HE1.out.trans (kidsF_bad (by rw [HY.out]; exact hlt) HXX.out (.inr hxa)))
              go_wp2
              go_ret2
              exact .inr ⟨_, rfl, by rw [HF.out, HN.out]; rfl, HR.out.bel⟩
            · obtain ⟨k, rfl⟩ : ∃ k : Nat, x = (k : Int) := ⟨x.toNat, by omega⟩
              have hka : k < a := by omega
              have hxa2 : ¬ (a : Int) ≤ (k : Int) := hxa
              have hcall := HIH.out k hka sn u2 wr (HX.out.below HR.out.bel) (by have := HE2.out; omega) HR.out.sz HE3.out
              go_wp2_with fail
              refine hcall.mono ?_
              rintro e w2 hw
              clear hcall
              rcases hw with ⟨v2, out, rfl, hf2, hl2, ho2, hb2⟩ | ⟨v2, rfl, hf2, hb2⟩
              · have HREL : Hid (WkL gs n f a seen base (some ⟨b1, o1, none⟩) w v2 (i + 1) w2) := ⟨by rw [HY.out]; exact hlt, ⟨out, HE1.out.trans (kidsF_some (by rw [HY.out]; exact hlt) HXX.out hka hf2), by omega, ho2⟩, HR.out.bel.trans hb2, Nat.le_trans HR.out.sz hb2.size⟩
                clear hf2 hl2 ho2 hb2
                go_wp2
                exact ⟨⟨i + 1, rfl, hlt, HREL.out⟩, by simp [intOf]; omega⟩
              · have HN := hidd (HE1.out.trans (kidsF_none (by rw [HY.out]; exact hlt) HXX.out hka hf2))
                have HD := hidd (HR.out.bel.trans hb2)
                clear hf2 hb2
                go_wp2
                go_ret2
                exact .inr ⟨_, rfl, by rw [HF.out, HN.out]; rfl, HD.out⟩
        · have hie : i = y := by omega
          subst hie
          obtain ⟨sn, e1, e2, e3⟩ := HR.out.ex
          have HE1 : Hid (kidsF (kidsOf gs) n f a (kidsOf gs a) seen = some sn) := by
            show _ = _
            rw [e1, List.drop_of_length_le (by have := HY.out; omega), kidsF]
          have D1 := HR.out.bel
          have hsz := HR.out.sz
          have HE2 := hidd e2
          have hown := own_below e3 ((Below.refl wr.heap.size wr).alloc (Nat.le_refl _) (.cells #[.int .i64 (a : Int)] 3)) (Nat.le_refl _)
          have hnews := int_one wr (a : Int)
          have hz5 : (wr.alloc (.cells #[.int .i64 (a : Int)] 3)).heap.size = wr.heap.size + 1 := World.size_alloc ..
          have hrow : ∀ k, u2.ownBlock = some k → base ≤ k := own_least e3
          have hsl : sn.length ≤ 5000 := by omega
          obtain ⟨z, hz⟩ : ∃ z, sn.length = z := ⟨_, rfl⟩
          rw [hz] at hown hsl
          have HZ := hidd hz
          clear e1 e2 e3 hz
          go_wp2_with (at_builtin; refine wpList_append_lies _ rfl _ _ _ rfl base 3 i0 (.int .i64 0) 1 8 Try.underlying23 hi0 hz0 hz1 hz2 rfl (by omega) _ z (i64s sn) rfl hown ⟨wr.heap.size, 0, none⟩ 1 1 [.int .i64 (a : Int)] rfl rfl hnews (by simp [Value.oneCell']) (by omega) (by simp only [maxLen]; omega) (by omega) (by omega) (wr.heap.size + 1) hz5 ?_; intro g6 cap6 w6 hown6 hgrow hat hlt6; refine Hid.out ?_)
          have D6 := bel_own2 (D1.alloc (by omega) (.cells #[.int .i64 (a : Int)] 3)) hgrow hrow hB
          have HREL : Hid (w6.ownsRow base 3 1 (.slice (some ⟨g6, 0, none⟩) (z + 1) cap6) (sn ++ [a]).length (i64s (sn ++ [a]))) := by
            show World.ownsRow ..
            rw [← i64s_snoc, List.length_append, HZ.out]
            exact hown6
          have HD6 := hidd D6
          clear hown6 hgrow hat hlt6 hown hnews hz5 D6 D1
          refine Lib.hid ?_
          go_wp2
          go_ret2
          exact .inl ⟨_, sn ++ [a], rfl, by rw [HF.out, HE1.out]; rfl, by have := HE2.out; simp; omega, HREL.out, HD6.out⟩
end Go.Proofs.Ytahhiajliomcfaa.Sy

/- The reference of layer 5: a kid. -/
import Derived.Test.YtaagkfiaccmepaaPEc
import Derived.Test.YtaagkfiaccmepaaPDf
import Derived.Test.YtaagkfiaccmepaaPDj
import Derived.Test.YtaagkfiaccmepaaPDh
namespace Go.Proofs.Ytaagkfiaccmepaa.Sy.Pn.Rp
open Go.RowKit
set_option maxRecDepth 100000
set_option linter.unusedVariables false

section
variable {W0 : World} {B b N c : Nat} {A : Option Addr} {gs : List Gd} {ns : List Nd}
def RNode (W0 : World) (B N c : Nat) (A : Option Addr) (ns : List Nd) (f : Nat) : Prop :=
  ∀ (a : Nat), a < N → a < f → ∀ (w : World), Below B W0 w → (nodeT ns f (ns.getD a nd0)).length ≤ 10000000000 →
    Calls Try.prog 49 #[.slice A N c, .int .i64 (a : Int)] w fun e w' => TxtR (nodeT ns f (ns.getD a nd0)) w e w'
def RKid (W0 : World) (B N c : Nat) (A : Option Addr) (gs : List Gd) (ns : List Nd) (f : Nat) : Prop :=
  ∀ (a i : Nat), a < N → a < f + 1 → i < (ns.getD a nd0).l.length → ∀ (Ag : Option Addr) (cg : Nat) (w : World), Below B W0 w → Its w B Ag (gs.getD a gd0).l → (kidT ns f (ns.getD a nd0) i).length ≤ 10000000000 →
    Calls Try.prog 58 #[.slice A N c, .agg (gdL (gs.getD a gd0) Ag cg).toArray, .int .i64 (i : Int)] w fun e w' => TxtR (kidT ns f (ns.getD a nd0) i) w e w'
set_option maxHeartbeats 4000000 in
theorem rkid_of (E : Env W0 B b N A gs ns) {f : Nat} (ih : RNode W0 B N c A ns f) : RKid W0 B N c A gs ns f := by
  intro a i ha haf hi Ag cg w hW hI hl
  have hG := node_at E ha
  have hks := E.kids a ha
  have hln := E.lens (gs.getD a gd0) (by rw [List.getD_eq_getElem?_getD, List.getElem?_eq_getElem (by rw [E.len]; exact ha)]; exact List.getElem_mem _)
  obtain ⟨gA, oA, rfl, hgA, -⟩ := E.nds.at_ (k := a) (by rw [E.len]; exact ha)
  obtain ⟨g, hg⟩ : ∃ g, gs.getD a gd0 = g := ⟨_, rfl⟩
  rw [hg] at hG hln hI
  rw [hg]
  obtain ⟨n, hn⟩ : ∃ n, ns.getD a nd0 = n := ⟨_, rfl⟩
  rw [hn] at hl hG hks hi
  rw [hn]
  clear hn hg
  obtain ⟨gop, gset, gl, glo, ghi, gnm⟩ := g
  have HPO : Hid (gop = (n.op : Int)) := hG.op
  have HGL : Hid (gl = n.l.map fun k : Nat => (k : Int)) := hG.l
  obtain ⟨m, hm⟩ : ∃ m, gl.length = m := ⟨_, rfl⟩
  have hml : n.l.length = m := by rw [← hm, HGL.out]; simp
  have hm9 : m ≤ 100000000 := by rw [← hm]; exact hln.2
  have him : i < m := by omega
  have hii : (i : Int) < (m : Int) := by omega
  obtain ⟨k, hk⟩ : ∃ k, n.l.getD i 0 = k := ⟨_, rfl⟩
  have hkm : k ∈ n.l := by rw [← hk, List.getD_eq_getElem?_getD, List.getElem?_eq_getElem hi]; exact List.getElem_mem _
  have hka := hks k hkm
  obtain ⟨gI, oI, rfl, hgI, hcI⟩ := hI (fun e => by have e' : gl = [] := e; rw [e'] at hm; simp at hm; omega)
  have hc1 : w.cell? ⟨gI, oI + i, none⟩ = some (.int .i64 (k : Int)) := by
    have h1 := hcI i (by show i < gl.length; rw [hm]; exact him)
    have h2 : gl.getD i 0 = (k : Int) := by
      rw [HGL.out, List.getD_eq_getElem?_getD, List.getElem?_map, List.getElem?_eq_getElem hi, ← hk, List.getD_eq_getElem?_getD, List.getElem?_eq_getElem hi]
      rfl
    rw [h1]
    show some (Value.int .i64 (gl.getD i 0)) = _
    rw [h2]
  have hkN : k < N := by omega
  have hkN1 : (k : Int) < (N : Int) := by omega
  obtain ⟨gA', oA', hA', hgA', Ax, cx, hIx, rx⟩ := E.nds.at_ (k := k) (by rw [E.len]; exact hkN)
  cases hA'
  have hkT : kidT ns f n i = wrapT (encB (ns.getD k nd0).op n.op) (nodeT ns f (ns.getD k nd0)) := by unfold kidT; rw [hk]
  have hgk := node_at E hkN
  have hih := ih k hkN (by omega)
  obtain ⟨kn, hkn⟩ : ∃ kn, ns.getD k nd0 = kn := ⟨_, rfl⟩
  rw [hkn] at hkT hgk hih
  rw [hkT] at hl ⊢
  obtain ⟨T, hT⟩ : ∃ T, nodeT ns f kn = T := ⟨_, rfl⟩
  rw [hT] at hl hih ⊢
  have hTl : T.length ≤ 10000000000 := by
    unfold wrapT at hl
    split at hl
    · simp at hl
      omega
    · exact hl
  obtain ⟨ko, hko⟩ : ∃ ko, (gs.getD k gd0).op = ko := ⟨_, rfl⟩
  have HKO : Hid (ko = (kn.op : Int)) := hko.symm.trans hgk.op
  have kop := (range9 (u := W0) rx).1
  rw [hko] at kop
  have hBw := hW.size
  have hbase := E.base
  have D0 : Below w.heap.size w (w.alloc (.cells (gdL ⟨gop, gset, gl, glo, ghi, gnm⟩ (some ⟨gI, oI, none⟩) cg).toArray 39)) := (Below.refl _ _).alloc (Nat.le_refl _) _
  have kop1 := ((hW.trans (D0.mono (by omega))).cell (p := ⟨gA, oA + k * 9, none⟩) hgA).trans kop
  have hc2 := (D0.cell (p := ⟨gI, oI + i, none⟩) (by show gI < _; omega)).trans hc1
  have R0 := RowA.new w 39 (gdL ⟨gop, gset, gl, glo, ghi, gnm⟩ (some ⟨gI, oI, none⟩) cg).toArray
  have HTL := hidd hTl
  have HIH := hidd (fun (u : World) (hu : Below B W0 u) => hih u hu hTl)
  have HW0 := hidd (hW.trans (D0.mono (by omega)))
  have HD0 := hidd D0
  have HR0 := hidd R0
  obtain ⟨a0, a1, a2, a3, a4, a5, a6, a7, a8⟩ := node_cells R0
  have HM := hidd hm
  clear hG hks hln hI hcI hc1 rx hIx kop hih hkT hgk hT hkn hk hkm hml hi him hW R0 D0 HGL hko hl hTl hm
  unfold gdL at a0 a1 a2 a3 a4 a5 a6 a7 a8 kop1 hc2 HIH HW0 HD0 HR0 ⊢
  simp only at a0 a1 a2 a3 a4 a5 a6 a7 a8 kop1 hc2 HW0 HD0 HR0 ⊢
  rw [HM.out] at a0 a1 a2 a3 a4 a5 a6 a7 a8 kop1 hc2 HW0 HD0 HR0 ⊢
  go_enter Try.func58, Try.ntmps58
  go_wp2_with fail
  generalize w.alloc (.cells #[.int .u8 gop, .int .u64 (W gset 0), .int .u64 (W gset 1), .int .u64 (W gset 2), .int .u64 (W gset 3), .slice (some ⟨gI, oI, none⟩) m cg, .int .i64 glo, .int .i64 ghi, .string gnm] 39) = u0 at *
  refine (HIH.out u0 HW0.out).mono ?_
  rintro e w2 ⟨s, rfl, hs, b2⟩
  have HS := hidd hs
  have HB := hidd (HD0.out.trans (b2.mono HD0.out.size))
  have a0' := (b2.cell (World.block_lt_of_cell? _ _ a0)).trans a0
  have hsl : s.size ≤ 10000000000 := by rw [← bs_len, HS.out]; exact HTL.out
  clear hs b2 a0 a1 a2 a3 a4 a5 a6 a7 a8 kop1 hc2 HIH HW0 HD0 HR0
  by_cases p4 : gop = 4
  · subst p4
    by_cases k4 : ko = 4
    · subst k4
      have HE : Hid (bs (({ data := #[40] } : ByteArray) ++ s ++ { data := #[41] }) = wrapT (encB kn.op n.op) T) := by
        show _ = _
        have he : encB kn.op n.op = true := by unfold encB; have h1 := HPO.out; have h2 := HKO.out; simp; omega
        rw [he, bs_append, bs_append, HS.out]
        rfl
      clear HPO HKO
      go_wp2
      go_ret
      exact ⟨_, rfl, HE.out, HB.out⟩
    by_cases k1 : ko = 1
    · subst k1
      have HE : Hid (bs s = wrapT (encB kn.op n.op) T) := by
        show _ = _
        have he : encB kn.op n.op = false := by unfold encB; have h1 := HPO.out; have h2 := HKO.out; simp; omega
        rw [he, HS.out]
        rfl
      clear HPO HKO
      go_wp2
      go_ret
      exact ⟨_, rfl, HE.out, HB.out⟩
    by_cases k3 : ko = 3
    · subst k3
      have HE : Hid (bs s = wrapT (encB kn.op n.op) T) := by
        show _ = _
        have he : encB kn.op n.op = false := by unfold encB; have h1 := HPO.out; have h2 := HKO.out; simp; omega
        rw [he, HS.out]
        rfl
      clear HPO HKO
      go_wp2
      go_ret
      exact ⟨_, rfl, HE.out, HB.out⟩
    have i1 : (ko == 1) = false := by simp; omega
    have i3 : (ko == 3) = false := by simp; omega
    have i4 : (ko == 4) = false := by simp; omega
    have HE : Hid (bs s = wrapT (encB kn.op n.op) T) := by
      show _ = _
      have he : encB kn.op n.op = false := by unfold encB; have h1 := HPO.out; have h2 := HKO.out; simp; omega
      rw [he, HS.out]
      rfl
    clear HPO HKO
    go_wp2
    go_ret
    exact ⟨_, rfl, HE.out, HB.out⟩
  · have q4 : (gop == 4) = false := by simp; omega
    by_cases k4 : ko = 4
    · subst k4
      have HE : Hid (bs (({ data := #[40] } : ByteArray) ++ s ++ { data := #[41] }) = wrapT (encB kn.op n.op) T) := by
        show _ = _
        have he : encB kn.op n.op = true := by unfold encB; have h1 := HPO.out; have h2 := HKO.out; simp; omega
        rw [he, bs_append, bs_append, HS.out]
        rfl
      clear HPO HKO
      go_wp2
      go_ret
      exact ⟨_, rfl, HE.out, HB.out⟩
    by_cases k1 : ko = 1
    · subst k1
      have HE : Hid (bs (({ data := #[40] } : ByteArray) ++ s ++ { data := #[41] }) = wrapT (encB kn.op n.op) T) := by
        show _ = _
        have he : encB kn.op n.op = true := by unfold encB; have h1 := HPO.out; have h2 := HKO.out; simp; omega
        rw [he, bs_append, bs_append, HS.out]
        rfl
      clear HPO HKO
      go_wp2
      go_ret
      exact ⟨_, rfl, HE.out, HB.out⟩
    by_cases k3 : ko = 3
    · subst k3
      have HE : Hid (bs (({ data := #[40] } : ByteArray) ++ s ++ { data := #[41] }) = wrapT (encB kn.op n.op) T) := by
        show _ = _
        have he : encB kn.op n.op = true := by unfold encB; have h1 := HPO.out; have h2 := HKO.out; simp; omega
        rw [he, bs_append, bs_append, HS.out]
        rfl
      clear HPO HKO
      go_wp2
      go_ret
      exact ⟨_, rfl, HE.out, HB.out⟩
    have i1 : (ko == 1) = false := by simp; omega
    have i3 : (ko == 3) = false := by simp; omega
    have i4 : (ko == 4) = false := by simp; omega
    have HE : Hid (bs s = wrapT (encB kn.op n.op) T) := by
      show _ = _
      have he : encB kn.op n.op = false := by unfold encB; have h1 := HPO.out; have h2 := HKO.out; simp; omega
      rw [he, HS.out]
      rfl
    clear HPO HKO
    go_wp2
    go_ret
    exact ⟨_, rfl, HE.out, HB.out⟩
end
end Go.Proofs.Ytaagkfiaccmepaa.Sy.Pn.Rp

namespace Go.Proofs.Ytaagkfiaccmepaa.Sy.Pn
set_option maxRecDepth 100000
set_option linter.unusedVariables false

/-- A node as it is read again. -/
def cN (n : Nd) : Nd := if n.op = 1 then ndEmpty else if n.op = 2 then ndBytes (qS n.s) else if n.op = 3 then ndCat n.l else if n.op = 4 then ndAlt n.l else if n.op = 5 then ndRep (n.l.getD 0 0) n.lo n.hi else ndRef n.name
section
variable {ns : List Nd}
def itT (ns : List Nd) (f k : Nat) : List Nat := wrapT (encB (ns.getD k nd0).op 3) (nodeT ns f (ns.getD k nd0))
def alT (ns : List Nd) (f k : Nat) : List Nat := wrapT (encB (ns.getD k nd0).op 4) (nodeT ns f (ns.getD k nd0))
/-- Reading goes on so. -/
def Rd (S : List Nat) (i j : Nat) (N N' : List Nd) (ks : List Nat) (st : List (List Nat × List Nat)) : Prop := ∀ aa I, run S ⟨i, N, st, aa, I⟩ = run S ⟨j, N', st, aa, I ++ ks⟩
def AA (ns : List Nd) (f : Nat) : Prop := ∀ (c : Nat) (n : Nd) (e : Nat), c < f → ns[c]? = some n → Forest ns e c n.l → ∀ (p r : List Nat) (st : List (List Nat × List Nat)), st.length + (itT ns f c).count 40 ≤ 64 →
  Rd (p ++ itT ns f c ++ r) p.length (p.length + (itT ns f c).length) ((ns.map cN).take e) ((ns.map cN).take (c + 1)) [c] st
theorem flat_snoc (g : Nat → List Nat) (xs : List Nat) (k : Nat) : (xs ++ [k]).flatMap g = xs.flatMap g ++ g k := by simp
theorem rows (f : Nat) (hA : AA ns f) {a b : Nat} {ks : List Nat} (h : Forest ns a b ks) : (∀ k ∈ ks, k < f) → ∀ (p r : List Nat) (st : List (List Nat × List Nat)), st.length + (ks.flatMap (itT ns f)).count 40 ≤ 64 →
    Rd (p ++ ks.flatMap (itT ns f) ++ r) p.length (p.length + (ks.flatMap (itT ns f)).length) ((ns.map cN).take a) ((ns.map cN).take b) ks st := by
  induction h with
  | nil a => intro _ p r st _ aa I; simp
  | @snoc a b c ks n h1 hn h2 ih1 ih2 =>
    intro hk p r st hst aa I
    rw [flat_snoc] at hst ⊢
    rw [List.count_append] at hst
    have e1 : p ++ (ks.flatMap (itT ns f) ++ itT ns f c) ++ r = p ++ ks.flatMap (itT ns f) ++ (itT ns f c ++ r) := by simp
    have e2 : p ++ (ks.flatMap (itT ns f) ++ itT ns f c) ++ r = (p ++ ks.flatMap (itT ns f)) ++ itT ns f c ++ r := by simp
    have q1 := ih1 (fun k hk' => hk k (by simp [hk'])) p (itT ns f c ++ r) st (by omega) aa I
    have q2 := hA c n b (hk c (by simp)) hn h2 (p ++ ks.flatMap (itT ns f)) r st (by omega) aa (I ++ ks)
    rw [e1, q1, ← e1, e2, show p.length + (ks.flatMap (itT ns f)).length = (p ++ ks.flatMap (itT ns f)).length from by simp, q2]
    simp [Nat.add_assoc]
/-- A row of an alternative. -/
def RR (ns : List Nd) (f : Nat) : Prop := ∀ (c : Nat) (n : Nd) (e : Nat), c < f → ns[c]? = some n → Forest ns e c n.l → ∀ (p r : List Nat) (st : List (List Nat × List Nat)) (aa : List Nat), st.length + (alT ns f c).count 40 ≤ 64 →
  ∃ N1 I1, run (p ++ alT ns f c ++ r) ⟨p.length, (ns.map cN).take e, st, aa, []⟩ = run (p ++ alT ns f c ++ r) ⟨p.length + (alT ns f c).length, N1, st, aa, I1⟩ ∧ mkRow N1 I1 = ((ns.map cN).take (c + 1), c)
theorem emptyS_at {s : Nat → Bool} (h : emptyS s = true) : ∀ b, b < 256 → s b = noS b := fun b hb => by
  unfold emptyS at h
  rw [List.all_eq_true] at h
  have := h b (List.mem_range.2 hb)
  simpa [noS] using this
theorem ne_cN {n : Nd} (h : shapeB n = true) : NE1 n (cN n) := by
  unfold shapeB at h
  unfold cN
  by_cases h1 : n.op = 1
  · simp [h1, zeroB] at h
    obtain ⟨⟨⟨⟨a, b⟩, c⟩, d⟩, e⟩ := h
    rw [if_pos h1]
    exact ⟨h1, emptyS_at a, e, b, c, d⟩
  by_cases h2 : n.op = 2
  · simp [h2] at h
    obtain ⟨⟨⟨⟨a, b⟩, c⟩, d⟩, e⟩ := h
    rw [if_neg h1, if_pos h2]
    exact ⟨h2, fun b hb => (qS_has n.s b hb).symm, e, b, c, d⟩
  by_cases h3 : n.op = 3
  · simp [h3, zeroB] at h
    obtain ⟨⟨⟨⟨a, b⟩, c⟩, d⟩, e⟩ := h
    rw [if_neg h1, if_neg h2, if_pos h3]
    exact ⟨h3, emptyS_at a, rfl, b, c, d⟩
  by_cases h4 : n.op = 4
  · simp [h4, zeroB] at h
    obtain ⟨⟨⟨⟨a, b⟩, c⟩, d⟩, e⟩ := h
    rw [if_neg h1, if_neg h2, if_neg h3, if_pos h4]
    exact ⟨h4, emptyS_at a, rfl, b, c, d⟩
  by_cases h5 : n.op = 5
  · simp [h5] at h
    obtain ⟨⟨⟨⟨⟨a, b⟩, c⟩, d⟩, e⟩, g⟩ := h
    rw [if_neg h1, if_neg h2, if_neg h3, if_neg h4, if_pos h5]
    refine ⟨h5, emptyS_at a, ?_, rfl, rfl, b⟩
    match hl : n.l, c with
    | [k], _ => rfl
  by_cases h6 : n.op = 6
  · simp [h6, zeroB] at h
    obtain ⟨⟨⟨⟨a, b⟩, c⟩, d⟩, e⟩ := h
    rw [if_neg h1, if_neg h2, if_neg h3, if_neg h4, if_neg h5]
    exact ⟨h6, emptyS_at a, e, b, c, rfl⟩
  · simp [h1, h2, h3, h4, h5, h6] at h
theorem shape_kind {n : Nd} (h : shapeB n = true) : (n.op = 1 ∧ n.l = []) ∨ (n.op = 2 ∧ n.l = [] ∧ emptyS n.s = false) ∨ (n.op = 3 ∧ 2 ≤ n.l.length) ∨ (n.op = 4 ∧ 2 ≤ n.l.length) ∨ (n.op = 5 ∧ (∃ k, n.l = [k]) ∧ 0 ≤ n.lo ∧ n.lo ≤ 4096 ∧ (n.hi = -1 ∨ (1 ≤ n.hi ∧ n.hi ≤ 4096 ∧ n.lo ≤ n.hi))) ∨ (n.op = 6 ∧ n.l = [] ∧ nameB n.name = true) := by
  unfold shapeB at h
  by_cases h1 : n.op = 1
  · simp [h1, zeroB] at h
    exact .inl ⟨h1, h.2⟩
  by_cases h2 : n.op = 2
  · simp [h2] at h
    exact .inr (.inl ⟨h2, h.2, h.1.1.1.1⟩)
  by_cases h3 : n.op = 3
  · simp [h3, zeroB] at h
    exact .inr (.inr (.inl ⟨h3, h.2⟩))
  by_cases h4 : n.op = 4
  · simp [h4, zeroB] at h
    exact .inr (.inr (.inr (.inl ⟨h4, h.2⟩)))
  by_cases h5 : n.op = 5
  · simp [h5] at h
    obtain ⟨⟨⟨⟨⟨a, b⟩, c⟩, d⟩, e⟩, g⟩ := h
    refine .inr (.inr (.inr (.inr (.inl ⟨h5, ?_, d, e, ?_⟩))))
    · match hl : n.l, c with
      | [k], _ => exact ⟨k, rfl⟩
    · rcases g with g | g
      · exact .inl g
      · exact .inr ⟨g.1.1, g.1.2, g.2⟩
  by_cases h6 : n.op = 6
  · simp [h6, zeroB] at h
    exact .inr (.inr (.inr (.inr (.inr ⟨h6, h.2, h.1.2⟩))))
  · simp [h1, h2, h3, h4, h5, h6] at h
/-! The parts that are no kids. -/
end
end Go.Proofs.Ytaagkfiaccmepaa.Sy.Pn

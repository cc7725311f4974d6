/- The reference of layer 5: a kid. -/
import Derived.Test.YtghjkbjpdjlddaaDoorEc
import Derived.Test.YtghjkbjpdjlddaaDoorDf
namespace Go.Proofs.YtghjkbjpdjlddaaDoor.Sy.Pn.Rp
open Go.RowKit
set_option maxRecDepth 100000
set_option linter.unusedVariables false

section
variable {W0 : World} {B b N c : Nat} {A : Option Addr} {gs : List Gd} {ns : List Nd}
def RNode (W0 : World) (B N c : Nat) (A : Option Addr) (ns : List Nd) (f : Nat) : Prop :=
  ∀ (a : Nat), a < N → a < f → ∀ (w : World), Below B W0 w → (nodeT ns f (ns.getD a nd0)).length ≤ 10000000000 →
    Calls Tryd.prog 23 #[.slice A N c, .int .i64 (a : Int)] w fun e w' => TxtR (nodeT ns f (ns.getD a nd0)) w e w'
def RKid (W0 : World) (B N c : Nat) (A : Option Addr) (gs : List Gd) (ns : List Nd) (f : Nat) : Prop :=
  ∀ (a i : Nat), a < N → a < f + 1 → i < (ns.getD a nd0).l.length → ∀ (Ag : Option Addr) (cg : Nat) (w : World), Below B W0 w → Its w B Ag (gs.getD a gd0).l → (kidT ns f (ns.getD a nd0) i).length ≤ 10000000000 →
    Calls Tryd.prog 45 #[.slice A N c, .agg (gdL (gs.getD a gd0) Ag cg).toArray, .int .i64 (i : Int)] w fun e w' => TxtR (kidT ns f (ns.getD a nd0) i) w e w'
set_option maxHeartbeats 4000000 in
theorem rkid_of (E : Env W0 B b N A gs ns) {f : Nat} (ih : RNode W0 B N c A ns f) : RKid W0 B N c A gs ns f := by
  intro a i ha haf hi Ag cg w hW hI hl
  have hG := node_at E ha
  have hks := E.kids a ha
  have hln := E.lens (gs.getD a gd0) (by rw [List.getD_eq_getElem?_getD, List.getElem?_eq_getElem (by rw [E.len]; exact ha)]; exact List.getElem_mem _)
  obtain ⟨gA, oA, rfl, hgA, -⟩ := E.nds.at_ (k := a) (by rw [E.len]; exact ha)
  obtain ⟨g, hg⟩ : ∃ g, gs.getD a gd0 = g := ⟨_, rfl⟩
  rw [hg] at hG hln hI
  rw [hg]
  obtain ⟨n, hn⟩ : ∃ n, ns.getD a nd0 = n := ⟨_, rfl⟩
  rw [hn] at hl hG hks hi
  rw [hn]
  clear hn hg
  obtain ⟨gop, gset, gl, glo, ghi, gnm⟩ := g
  have HPO : Hid (gop = (n.op : Int)) := hG.op
  have HGL : Hid (gl = n.l.map fun k : Nat => (k : Int)) := hG.l
  obtain ⟨m, hm⟩ : ∃ m, gl.length = m := ⟨_, rfl⟩
  have hml : n.l.length = m := by rw [← hm, HGL.out]; simp
  have hm9 : m ≤ 100000000 := by rw [← hm]; exact hln.2
  have him : i < m := by omega
  have hii : (i : Int) < (m : Int) := by omega
  obtain ⟨k, hk⟩ : ∃ k, n.l.getD i 0 = k := ⟨_, rfl⟩
  have hkm : k ∈ n.l := by rw [← hk, List.getD_eq_getElem?_getD, List.getElem?_eq_getElem hi]; exact List.getElem_mem _
  have hka := hks k hkm
  obtain ⟨gI, oI, rfl, hgI, hcI⟩ := hI (fun e => by have e' : gl = [] := e; rw [e'] at hm; simp at hm; omega)
  have hc1 : w.cell? ⟨gI, oI + i, none⟩ = some (.int .i64 (k : Int)) := by
    have h1 := hcI i (by show i < gl.length; rw [hm]; exact him)
    have h2 : gl.getD i 0 = (k : Int) := by
      rw [HGL.out, List.getD_eq_getElem?_getD, List.getElem?_map, List.getElem?_eq_getElem hi, ← hk, List.getD_eq_getElem?_getD, List.getElem?_eq_getElem hi]
      rfl
    rw [h1]
    show some (Value.int .i64 (gl.getD i 0)) = _
    rw [h2]
  have hkN : k < N := by omega
  have hkN1 : (k : Int) < (N : Int) := by omega
  obtain ⟨gA', oA', hA', hgA', Ax, cx, hIx, rx⟩ := E.nds.at_ (k := k) (by rw [E.len]; exact hkN)
  cases hA'
  have hkT : kidT ns f n i = wrapT (encB (ns.getD k nd0).op n.op) (nodeT ns f (ns.getD k nd0)) := by unfold kidT; rw [hk]
  have hgk := node_at E hkN
  have hih := ih k hkN (by omega)
  obtain ⟨kn, hkn⟩ : ∃ kn, ns.getD k nd0 = kn := ⟨_, rfl⟩
  rw [hkn] at hkT hgk hih
  rw [hkT] at hl ⊢
  obtain ⟨T, hT⟩ : ∃ T, nodeT ns f kn = T := ⟨_, rfl⟩
  rw [hT] at hl hih ⊢
  have hTl : T.length ≤ 10000000000 := by
    unfold wrapT at hl
    split at hl
    · simp at hl
      omega
    · exact hl
  obtain ⟨ko, hko⟩ : ∃ ko, (gs.getD k gd0).op = ko := ⟨_, rfl⟩
  have HKO : Hid (ko = (kn.op : Int)) := hko.symm.trans hgk.op
  have kop := (range9 (u := W0) rx).1
  rw [hko] at kop
  have hBw := hW.size
  have hbase := E.base
  have D0 : Below w.heap.size w (w.alloc (.cells (gdL ⟨gop, gset, gl, glo, ghi, gnm⟩ (some ⟨gI, oI, none⟩) cg).toArray 30)) := (Below.refl _ _).alloc (Nat.le_refl _) _
  have kop1 := ((hW.trans (D0.mono (by omega))).cell (p := ⟨gA, oA + k * 9, none⟩) hgA).trans kop
  have hc2 := (D0.cell (p := ⟨gI, oI + i, none⟩) (by show gI < _; omega)).trans hc1
  have R0 := RowA.new w 30 (gdL ⟨gop, gset, gl, glo, ghi, gnm⟩ (some ⟨gI, oI, none⟩) cg).toArray
  have HTL := hidd hTl
  have HIH := hidd (fun (u : World) (hu : Below B W0 u) => hih u hu hTl)
  have HW0 := hidd (hW.trans (D0.mono (by omega)))
  have HD0 := hidd D0
  have HR0 := hidd R0
  obtain ⟨a0, a1, a2, a3, a4, a5, a6, a7, a8⟩ := node_cells R0
  have HM := hidd hm
  clear hG hks hln hI hcI hc1 rx hIx kop hih hkT hgk hT hkn hk hkm hml hi him hW R0 D0 HGL hko hl hTl hm
  unfold gdL at a0 a1 a2 a3 a4 a5 a6 a7 a8 kop1 hc2 HIH HW0 HD0 HR0 ⊢
  simp only at a0 a1 a2 a3 a4 a5 a6 a7 a8 kop1 hc2 HW0 HD0 HR0 ⊢
  rw [HM.out] at a0 a1 a2 a3 a4 a5 a6 a7 a8 kop1 hc2 HW0 HD0 HR0 ⊢
  go_enter Tryd.func45, Tryd.ntmps45
  go_wp2_with fail
  generalize w.alloc (.cells #[.int .u8 gop, .int .u64 (W gset 0), .int .u64 (W gset 1), .int .u64 (W gset 2), .int .u64 (W gset 3), .slice (some ⟨gI, oI, none⟩) m cg, .int .i64 glo, .int .i64 ghi, .string gnm] 30) = u0 at *
  refine (HIH.out u0 HW0.out).mono ?_
  rintro e w2 ⟨s, rfl, hs, b2⟩
  have HS := hidd hs
  have HB := hidd (HD0.out.trans (b2.mono HD0.out.size))
  have a0' := (b2.cell (World.block_lt_of_cell? _ _ a0)).trans a0
  have hsl : s.size ≤ 10000000000 := by rw [← bs_len, HS.out]; exact HTL.out
  clear hs b2 a0 a1 a2 a3 a4 a5 a6 a7 a8 kop1 hc2 HIH HW0 HD0 HR0
  by_cases p4 : gop = 4
  · subst p4
    by_cases k4 : ko = 4
    · subst k4
      have HE : Hid (bs (({ data := #[40] } : ByteArray) ++ s ++ { data := #[41] }) = wrapT (encB kn.op n.op) T) := by
        show _ = _
        have he : encB kn.op n.op = true := by unfold encB; have h1 := HPO.out; have h2 := HKO.out; simp; omega
        rw [he, bs_append, bs_append, HS.out]
        rfl
      clear HPO HKO
      go_wp2
      go_ret
      exact ⟨_, rfl, HE.out, HB.out⟩
    by_cases k1 : ko = 1
    · subst k1
      have HE : Hid (bs s = wrapT (encB kn.op n.op) T) := by
        show _ = _
        have he : encB kn.op n.op = false := by unfold encB; have h1 := HPO.out; have h2 := HKO.out; simp; omega
        rw [he, HS.out]
        rfl
      clear HPO HKO
      go_wp2
      go_ret
      exact ⟨_, rfl, HE.out, HB.out⟩
    by_cases k3 : ko = 3
    · subst k3
      have HE : Hid (bs s = wrapT (encB kn.op n.op) T) := by
        show _ = _
        have he : encB kn.op n.op = false := by unfold encB; have h1 := HPO.out; have h2 := HKO.out; simp; omega
        rw [he, HS.out]
        rfl
      clear HPO HKO
      go_wp2
      go_ret
      exact ⟨_, rfl, HE.out, HB.out⟩
    have i1 : (ko == 1) = false := by simp; omega
    have i3 : (ko == 3) = false := by simp; omega
    have i4 : (ko == 4) = false := by simp; omega
    have HE : Hid (bs s = wrapT (encB kn.op n.op) T) := by
      show _ = _
      have he : encB kn.op n.op = false := by unfold encB; have h1 := HPO.out; have h2 := HKO.out; simp; omega
      rw [he, HS.out]
      rfl
    clear HPO HKO
    go_wp2
    go_ret
    exact ⟨_, rfl, HE.out, HB.out⟩
  · have q4 : (gop == 4) = false := by simp; omega
    by_cases k4 : ko = 4
    · subst k4
      have HE : Hid (bs (({ data := #[40] } : ByteArray) ++ s ++ { data := #[41] }) = wrapT (encB kn.op n.op) T) := by
        show _ = _
        have he : encB kn.op n.op = true := by unfold encB; have h1 := HPO.out; have h2 := HKO.out; simp; omega
        rw [he, bs_append, bs_append, HS.out]
        rfl
      clear HPO HKO
      go_wp2
      go_ret
      exact ⟨_, rfl, HE.out, HB.out⟩
    by_cases k1 : ko = 1
    · subst k1
      have HE : Hid (bs (({ data := #[40] } : ByteArray) ++ s ++ { data := #[41] }) = wrapT (encB kn.op n.op) T) := by
        show _ = _
        have he : encB kn.op n.op = true := by unfold encB; have h1 := HPO.out; have h2 := HKO.out; simp; omega
        rw [he, bs_append, bs_append, HS.out]
        rfl
      clear HPO HKO
      go_wp2
      go_ret
      exact ⟨_, rfl, HE.out, HB.out⟩
    by_cases k3 : ko = 3
    · subst k3
      have HE : Hid (bs (({ data := #[40] } : ByteArray) ++ s ++ { data := #[41] }) = wrapT (encB kn.op n.op) T) := by
        show _ = _
        have he : encB kn.op n.op = true := by unfold encB; have h1 := HPO.out; have h2 := HKO.out; simp; omega
        rw [he, bs_append, bs_append, HS.out]
        rfl
      clear HPO HKO
      go_wp2
      go_ret
      exact ⟨_, rfl, HE.out, HB.out⟩
    have i1 : (ko == 1) = false := by simp; omega
    have i3 : (ko == 3) = false := by simp; omega
    have i4 : (ko == 4) = false := by simp; omega
    have HE : Hid (bs s = wrapT (encB kn.op n.op) T) := by
      show _ = _
      have he : encB kn.op n.op = false := by unfold encB; have h1 := HPO.out; have h2 := HKO.out; simp; omega
      rw [he, HS.out]
      rfl
    clear HPO HKO
    go_wp2
    go_ret
    exact ⟨_, rfl, HE.out, HB.out⟩
end
end Go.Proofs.YtghjkbjpdjlddaaDoor.Sy.Pn.Rp

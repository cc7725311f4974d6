/- The matcher's memory turned: a walk counted, a map made, something kept. -/
import Derived.Test.YtcgondjekpcpgaaDoorPCu
namespace Go.Proofs.YtcgondjekpcpgaaDoor.Sy.Lg.Ef
open Go.RowKit Go.Proofs.YtcgondjekpcpgaaDoor.Sy.Ap Go.Proofs.YtcgondjekpcpgaaDoor.Sy.Ap.Wk Go.Proofs.YtcgondjekpcpgaaDoor.Sy.Lg.Oq Go.Proofs.YtcgondjekpcpgaaDoor.Sy.Lg.Wl
set_option maxRecDepth 100000
set_option linter.unusedVariables false

section
variable {M : MC} {F : Nat → Prop} {cs : List Nat} {ms : List (Option Nat)} {u u' : World}
theorem kept_to (h : MI M F cs ms u) (hk : Keeps (MP M u) u u') {i b : Nat} (hK : Kept M F u i b) (hb : u'.heap[b]? = u.heap[b]?) : Kept M F u' i b := by
  obtain ⟨h1, f, h2, h3⟩ := hK
  exact ⟨h1, f, h2.keep hb, fun k v hv => ⟨(h3 k v hv).1.keeps h hk, (h3 k v hv).2⟩⟩
theorem mi_turn (hM : M.Ok) (h : MI M F cs ms u) (hk : Keeps (MP M u) u u') {cs' : List Nat} {ms' : List (Option Nat)} (w : RowA u' M.wb 3 (cs'.map intV).toArray) (c1 : cs'.length = M.n) (c2 : ∀ x ∈ cs', x ≤ 256)
    (kn : RowA u' M.kb 94 (ms'.map Value.map).toArray) (m1 : ms'.length = M.n) (kp : ∀ (i b : Nat), ms'[i]? = some (some b) → Kept M F u' i b) (ap : ∀ (i j b : Nat), ms'[i]? = some (some b) → ms'[j]? = some (some b) → i = j) : MI M F cs' ms' u' :=
  ⟨h.bel.trans (hk.below h.bel.size fun k hp => mp_lo hM hp), (hk.block _ h.box.lt h.box_off).trans h.box, w, c1, c2, kn, m1, kp, ap⟩
theorem mi_blk (h : MI M F cs ms u) {i b : Nat} (hb : ms[i]? = some (some b)) : b < u.heap.size ∧ b ≠ M.wb ∧ b ≠ M.kb := by
  obtain ⟨h1, f, h2, h3⟩ := h.kept i b hb
  obtain ⟨es, cl, h4⟩ := h2.blk
  refine ⟨h2.lt, fun e => ?_, fun e => ?_⟩
  · subst e; exact row_map h.walks h4
  · subst e; exact row_map h.known h4
theorem wk_ne (h : MI M F cs ms u) : M.wb ≠ M.kb := row_neq h.walks h.known (by decide)
/-- One walk more is counted. -/
theorem mi_walk (hM : M.Ok) (h : MI M F cs ms u) {k c : Nat} (hk : cs[k]? = some c) (hc : c < 256) : MI M F (cs.set k (c + 1)) ms (u.setCell ⟨M.wb, k, none⟩ (.int .i64 ((c : Int) + 1))) ∧ Keeps (MP M u) u (u.setCell ⟨M.wb, k, none⟩ (.int .i64 ((c : Int) + 1))) := by
  have kp : Keeps (MP M u) u (u.setCell ⟨M.wb, k, none⟩ (.int .i64 ((c : Int) + 1))) := keeps_set (Keeps.of_below (Below.refl _ _)) _ _ (.inl (.inl rfl))
  refine ⟨mi_turn hM h kp ?_ (by rw [List.length_set]; exact h.clen) (fun x hx => ?_) (h.known.far (a := ⟨M.wb, k, none⟩) (wk_ne h).symm _) h.mlen (fun i b hb => kept_to h kp (h.kept i b hb) (Below.heap_setCell u ⟨M.wb, k, none⟩ _ b (mi_blk h hb).2.1)) h.apart, kp⟩
  · have := h.walks.set k (.int .i64 ((c : Int) + 1))
    rw [List.map_set]
    have e : ((cs.map intV).toArray.setIfInBounds k (.int .i64 ((c : Int) + 1))) = ((cs.map intV).set k (intV (c + 1))).toArray := by simp [intV]
    rw [e] at this
    exact this
  · rcases List.mem_or_eq_of_mem_set hx with q | q
    · exact h.cfew x q
    · omega
/-- A map is made. -/
theorem mi_make (hM : M.Ok) (h : MI M F cs ms u) {k : Nat} (hk : ms[k]? = some none) : MI M F cs (ms.set k (some u.heap.size)) ((u.alloc (.map #[] 0)).setCell ⟨M.kb, k, none⟩ (.map (some u.heap.size))) ∧ Keeps (MP M u) u ((u.alloc (.map #[] 0)).setCell ⟨M.kb, k, none⟩ (.map (some u.heap.size))) := by
  have kp : Keeps (MP M u) u ((u.alloc (.map #[] 0)).setCell ⟨M.kb, k, none⟩ (.map (some u.heap.size))) := keeps_set (Keeps.of_below ((Below.refl _ _).alloc (Nat.le_refl _) _)) _ _ (.inl (.inr (.inl rfl)))
  have hkb := h.known.lt
  have hsame : ∀ b, b < u.heap.size → b ≠ M.kb → ((u.alloc (.map #[] 0)).setCell ⟨M.kb, k, none⟩ (.map (some u.heap.size))).heap[b]? = u.heap[b]? := fun b hb hn => (Below.heap_setCell _ ⟨M.kb, k, none⟩ _ b hn).trans (Below.heap_alloc u _ b hb)
  have hmk := mapI_new u
  refine ⟨mi_turn hM h kp ((hsame _ h.walks.lt (wk_ne h)).trans h.walks) h.clen h.cfew ?_ (by rw [List.length_set]; exact h.mlen) (fun i b hb => ?_) (fun i j b hi hj => ?_), kp⟩
  · have := (h.known.alloc (.map #[] 0)).set k (.map (some u.heap.size))
    rw [List.map_set]
    have e : ((ms.map Value.map).toArray.setIfInBounds k (.map (some u.heap.size))) = ((ms.map Value.map).set k (.map (some u.heap.size))).toArray := by simp
    rw [e] at this
    exact this
  · by_cases hik : k = i
    · subst hik
      rw [List.getElem?_set_self (List.getElem?_eq_some_iff.1 hk).1] at hb
      cases hb
      refine ⟨h.bel.size, fun _ => none, hmk.keep (Below.heap_setCell _ ⟨M.kb, k, none⟩ _ _ (by show u.heap.size ≠ M.kb; omega)), fun k v hv => by cases hv⟩
    · rw [List.getElem?_set_ne hik] at hb
      have hbb := mi_blk h hb
      exact kept_to h kp (h.kept i b hb) (hsame b hbb.1 hbb.2.2)
  · by_cases hik : k = i
    · by_cases hjk : k = j
      · omega
      · rw [List.getElem?_set_ne hjk] at hj
        have := (mi_blk h hj).1
        subst hik
        rw [List.getElem?_set_self (List.getElem?_eq_some_iff.1 hk).1] at hi
        cases hi
        omega
    · rw [List.getElem?_set_ne hik] at hi
      by_cases hjk : k = j
      · have := (mi_blk h hi).1
        subst hjk
        rw [List.getElem?_set_self (List.getElem?_eq_some_iff.1 hk).1] at hj
        cases hj
        omega
      · rw [List.getElem?_set_ne hjk] at hj
        exact h.apart i j b hi hj
/-- Something is kept. -/
theorem mi_put (hM : M.Ok) (h : MI M F cs ms u) {k b pl : Nat} (hk : ms[k]? = some (some b)) {f : Nat → Option Value} (hst : ∀ s z, f s = some z → PlX u z (M.R k s) ∧ Off F z) {v : Value} (hv : PlX u v (M.R k pl)) (ho : Off F v) (ht : u.mapTurned u' b) (hm : MapI u' b (fun s => if s = pl then some v else f s)) : MI M F cs ms u' ∧ Keeps (MP M u) u u' := by
  obtain ⟨h1, f0, h2, h3⟩ := h.kept k b hk
  have hbb := mi_blk h hk
  have gr := ht.grown
  have kp : Keeps (MP M u) u u' := keeps_grown (Keeps.of_below (Below.refl _ _)) gr (fun j e => by cases e; exact .inl (.inr (.inr ⟨h1, h2.blk⟩)))
  have hsame : ∀ j, j < u.heap.size → j ≠ b → u'.heap[j]? = u.heap[j]? := fun j hj hn => gr.block j hj (fun e => by cases e; exact hn rfl)
  refine ⟨mi_turn hM h kp ((hsame _ h.walks.lt (fun e => hbb.2.1 e.symm)).trans h.walks) h.clen h.cfew ((hsame _ h.known.lt (fun e => hbb.2.2 e.symm)).trans h.known) h.mlen (fun i j hj => ?_) h.apart, kp⟩
  by_cases hjb : j = b
  · subst hjb
    obtain rfl := h.apart i k j hj hk
    refine ⟨h1, _, hm, fun s z hz => ?_⟩
    by_cases hs : s = pl
    · subst hs
      simp at hz
      subst hz
      exact ⟨hv.keeps h kp, ho⟩
    · simp only [if_neg hs] at hz
      obtain ⟨q1, q2⟩ := hst s z hz
      exact ⟨q1.keeps h kp, q2⟩
  · exact kept_to h kp (h.kept i j hj) (hsame j (mi_blk h hj).1 hjb)
end
end Go.Proofs.YtcgondjekpcpgaaDoor.Sy.Lg.Ef

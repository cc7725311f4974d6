/- The law SplitFiner: memory while its two Splits are made. -/
import Derived.Test.YtlfbjnmehdifeaaYh
namespace Go.Proofs.Ytlfbjnmehdifeaa.Fi
open Go.RowKit

def d8 (d : Option Nat) : Bool := d != some 8 && d != some 9
structure FiS (w : World) (base gb : Nat) (x : Nat → Bool) (ps : List (Nat → Bool)) (A : Option Addr) (a : Act) (v : World) : Prop where
  box : Row4 v gb x
  gbl : gb < base
  lst : Sts v w.heap.size A ps
  bel : Below w.heap.size w v
  b1 : w.heap.size ≤ base
  b2 : base ≤ v.heap.size
  p8 : ∀ g, a.tmps[8]? = some (.pointer (some ⟨g, 0, none⟩)) → g < v.heap.size
  p9 : ∀ g, a.tmps[9]? = some (.pointer (some ⟨g, 0, none⟩)) → g < v.heap.size
  far : ∀ g h, a.tmps[8]? = some (.pointer (some ⟨g, 0, none⟩)) → a.tmps[9]? = some (.pointer (some ⟨h, 0, none⟩)) → g ≠ h
section
variable {w : World} {base gb : Nat} {x : Nat → Bool} {ps : List (Nat → Bool)} {A : Option Addr} {a : Act} {v v' : World}
theorem FiS.below (h : FiS w base gb x ps A a v) (hb : Below v.heap.size v v') : FiS w base gb x ps A a v' :=
  ⟨h.box.below hb h.box.lt, h.gbl, h.lst.below (hb.mono h.bel.size), h.bel.trans (hb.mono h.bel.size), h.b1, Nat.le_trans h.b2 hb.size, fun g e => Nat.lt_of_lt_of_le (h.p8 g e) hb.size, fun g e => Nat.lt_of_lt_of_le (h.p9 g e) hb.size, h.far⟩
theorem FiS.put (h : FiS w base gb x ps A a v) {d : Option Nat} (hd : d8 d = true) (u : Value) : FiS w base gb x ps A (a.put d u) v := by
  have e8 : (a.put d u).tmps[8]? = a.tmps[8]? := by
    cases d with
    | none => rfl
    | some d => rw [put_tmps, Array.getElem?_setIfInBounds_ne (fun e => by subst e; simp [d8] at hd)]
  have e9 : (a.put d u).tmps[9]? = a.tmps[9]? := by
    cases d with
    | none => rfl
    | some d => rw [put_tmps, Array.getElem?_setIfInBounds_ne (fun e => by subst e; simp [d8] at hd)]
  exact ⟨h.box, h.gbl, h.lst, h.bel, h.b1, h.b2, fun g e => h.p8 g (e8 ▸ e), fun g e => h.p9 g (e9 ▸ e), fun g k e f => h.far g k (e8 ▸ e) (e9 ▸ f)⟩
theorem FiS.new8 (h : FiS w base gb x ps A a v) (o : Obj) : FiS w base gb x ps A (a.put (some 8) (.pointer (some ⟨v.heap.size, 0, none⟩))) (v.alloc o) := by
  have h' := h.below ((Below.refl _ _).alloc (Nat.le_refl _) o)
  have e9 : (a.put (some 8) (.pointer (some ⟨v.heap.size, 0, none⟩))).tmps[9]? = a.tmps[9]? := by rw [put_tmps, Array.getElem?_setIfInBounds_ne (by omega)]
  have e8 : ∀ g, (a.put (some 8) (.pointer (some ⟨v.heap.size, 0, none⟩))).tmps[8]? = some (.pointer (some ⟨g, 0, none⟩)) → g = v.heap.size := by
    intro g e
    rw [put_tmps, Array.getElem?_setIfInBounds] at e
    simp only [if_true] at e
    split at e
    · cases e; rfl
    · cases e
  exact ⟨h'.box, h'.gbl, h'.lst, h'.bel, h'.b1, h'.b2, fun g e => by rw [e8 g e]; simp, fun g e => h'.p9 g (e9 ▸ e), fun g k e f => by rw [e8 g e]; have := h.p9 k (e9 ▸ f); omega⟩
theorem FiS.new9 (h : FiS w base gb x ps A a v) (o : Obj) : FiS w base gb x ps A (a.put (some 9) (.pointer (some ⟨v.heap.size, 0, none⟩))) (v.alloc o) := by
  have h' := h.below ((Below.refl _ _).alloc (Nat.le_refl _) o)
  have e9 : (a.put (some 9) (.pointer (some ⟨v.heap.size, 0, none⟩))).tmps[8]? = a.tmps[8]? := by rw [put_tmps, Array.getElem?_setIfInBounds_ne (by omega)]
  have e8 : ∀ g, (a.put (some 9) (.pointer (some ⟨v.heap.size, 0, none⟩))).tmps[9]? = some (.pointer (some ⟨g, 0, none⟩)) → g = v.heap.size := by
    intro g e
    rw [put_tmps, Array.getElem?_setIfInBounds] at e
    simp only [if_true] at e
    split at e
    · cases e; rfl
    · cases e
  exact ⟨h'.box, h'.gbl, h'.lst, h'.bel, h'.b1, h'.b2, fun g e => h'.p8 g (e9 ▸ e), fun g e => by rw [e8 g e]; simp, fun g k e f => by rw [e8 k f]; have := h.p8 g (e9 ▸ e); omega⟩
end

def Pt (base : Nat) (v : Value) (u : World) : Prop := ∃ g, v = .pointer (some ⟨g, 0, none⟩) ∧ base ≤ g ∧ RowS u g (fun _ => 0) 0
def Emp (base : Nat) (v : Value) (u : World) : Prop := ∃ B, v = .slice B 0 0 ∧ u.ownsRow base 33 4 v 0 []
def Own (base : Nat) (ps : List (Nat → Bool)) (v : Value) (u : World) : Prop := u.ownsRow base 33 4 v ps.length (sws ps)
/-- What a step leaves of memory: the second append may write into a row of sets that is new. -/
def Ew (base : Nat) (u u' : World) : Prop := ∃ r, u.grownBy u' r ∧ ∀ k, r = some k → base ≤ k ∧ ∃ cs fz, u.heap[k]? = some (.cells cs 33 fz)
def Eby (base : Nat) (d : Option Nat) (u u' : World) : Prop := if d = some 25 then Ew base u u' else Below u.heap.size u u'
def okF (t : Nat) (d : Option Nat) : Bool := !(d == some 25 && (t == 19 || t == 22 || t == 24 || t == 25))
def n25 (d : Option Nat) : Bool := d != some 25
theorem eby {base : Nat} {d : Option Nat} {u u' : World} (hd : n25 d = true) (h : Below u.heap.size u u') : Eby base d u u' := by
  unfold Eby
  rw [if_neg (fun e => by subst e; simp [n25] at hd)]
  exact h
theorem ptr_keep {base : Nat} {v : Value} {d : Option Nat} {u u' : World} (h : Pt base v u) (he : Eby base d u u') : Pt base v u' := by
  obtain ⟨g, e, hg, R⟩ := h
  unfold Eby at he
  split at he
  · obtain ⟨r, hr, hk⟩ := he
    refine ⟨g, e, hg, R.grown hr fun e => ?_⟩
    obtain ⟨_, cs, fz, hh⟩ := hk g e.symm
    unfold RowS at R
    rw [hh] at R
    injection R with R
    injection R with _ R _
    exact absurd R (by decide)
  · exact ⟨g, e, hg, R.below he R.lt⟩
theorem eby_below {base : Nat} {d : Option Nat} {u u' : World} (hd : n25 d = true) (h : Eby base d u u') : Below u.heap.size u u' := by
  unfold Eby at h
  rw [if_neg (fun e => by subst e; simp [n25] at hd)] at h
  exact h

theorem few_bel (A : Option Addr) (n c : Nat) (ps : List (Nat → Bool)) (w : World) (mc : n ≤ maxLen) (lc : n ≤ c) (el : ps.length = min n 20) :
    Calls Try.prog 12 #[.slice A n c] w fun e w' => e = .returned (.slice A ps.length c) ∧ Below w.heap.size w w' := by
  rw [el]
  refine (few2_any A n c w mc lc).mono ?_
  rintro e w' ⟨rfl, rfl⟩
  exact ⟨rfl, Below.refl _ _⟩
theorem of_sl (qs : List (Nat → Bool)) (v : Value) (w : World) (h : Sl qs v w) (hl : qs.length ≤ 1000000) :
    Calls Try.prog 11 #[v] w fun e w' => e = .returned (.agg (spC (fun b => (clsOf (likeB qs) b : Int)) ((frsts (likeB qs) 256).length : Int))) ∧ Below w.heap.size w w' := by
  obtain ⟨A, c, rfl, hs⟩ := h
  exact of2_any A c qs w hs hl

/-- Sets appended to none: a new row. -/
theorem wp_app_fresh {o : Oper} {a : Act} {v : World} {K : Act → World → Prop} {Q : Exit → Act → World → Prop} (s t : Nat)
    (ho : o.op = .call { callee := .builtin .append, args := #[.tmp s, .tmp t], argTypes := #[22, 22] })
    (base : Nat) (bk : Value) (ps : List (Nat → Bool)) (A : Option Addr) (c : Nat) (he : Emp base bk v) (e0 : a.tmps[s]? = some bk) (e1 : a.tmps[t]? = some (.slice A ps.length c))
    (hP : Sts v v.heap.size A ps) (hl : ps.length ≤ 1000000) (hbase : base ≤ v.heap.size)
    (h : ∀ v' u', Own base ps v' u' → Below v.heap.size v u' → K (a.put o.dst v') u') : o.wp Try.prog a v K Q := by
  obtain ⟨i0, hi0, hz0, hz1, hz2⟩ := info_parts set_info
  obtain ⟨B, rfl, hown⟩ := he
  have e0' : a.eval (.tmp s) = .slice B 0 0 := eval_at e0
  by_cases hx : ps = []
  · subst hx
    have e1' : a.eval (.tmp t) = .slice A 0 c := eval_at e1
    have hr := run_append_nothing (P := Try.prog) v 22 o.type 33 i0 Try.underlying22 hi0 B 0 0 (fun _ => ⟨rfl, rfl⟩) (Nat.le_refl _) A c
    unfold Oper.wp execOp
    simp only [ho, resolve, invoke, builtin, Sem.run_bind, Sem.run_pure, Result.andThen_ok, List.map_toArray, List.map_cons, List.map_nil, e0', e1', hr]
    exact h _ _ hown (Below.refl _ _)
  · obtain ⟨g, off, rfl, hg, hc⟩ := hP hx
    have e1' : a.eval (.tmp t) = .slice (some ⟨g, off, none⟩) ps.length c := eval_at e1
    have hpos : 0 < ps.length := by cases ps; exact absurd rfl hx; simp
    obtain ⟨v', w', hr, h2, h3, _⟩ := run_append_own (P := Try.prog) v base 22 o.type 33 i0 _ 4 32 Try.underlying22 hi0 hz0 hz1 hz2 rfl (by omega) (.slice B 0 0) 0 [] hown ⟨g, off, none⟩ ps.length c (sws ps) (sws_len ps) (sts_cells hP hx) (sws_one ps) (by simp only [maxLen]; omega) (by omega) hbase
    have hbel : Below v.heap.size v w' := by
      cases B with
      | none => exact (Below.refl _ _).grown h3 (Nat.le_refl _) (fun j e => by cases e)
      | some b =>
        have hr2 := run_append_grow (P := Try.prog) v 22 o.type 33 i0 _ Try.underlying22 hi0 hz0 b 0 0 [] (by simp) (by simp) ⟨g, off, none⟩ ps.length c (sws ps) (by rw [hz1]; exact sws_len ps) (sts_cells hP hx) (by omega) (by omega) (growslice_fits (by omega) (by rw [hz2]; omega))
        rw [hr] at hr2
        injection hr2 with _ e2
        subst e2
        exact (bel_drew (Below.refl _ _)).alloc (Nat.le_refl _) _
    unfold Oper.wp execOp
    simp only [ho, resolve, invoke, builtin, Sem.run_bind, Sem.run_pure, Result.andThen_ok, List.map_toArray, List.map_cons, List.map_nil, e0', e1', hr]
    refine h _ _ ?_ hbel
    unfold Own
    rw [Nat.zero_add, List.nil_append] at h2
    exact h2

end Go.Proofs.Ytlfbjnmehdifeaa.Fi

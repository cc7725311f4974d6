/- What Parse tells of a tree's pattern is the tree. Plain lists. -/
import Derived.Test.YtghjkbjpdjlddaaDoorDj
import Derived.Test.YtghjkbjpdjlddaaDoorDh
namespace Go.Proofs.YtghjkbjpdjlddaaDoor.Sy.Pn
set_option maxRecDepth 100000
set_option linter.unusedVariables false

/-- A node as it is read again. -/
def cN (n : Nd) : Nd := if n.op = 1 then ndEmpty else if n.op = 2 then ndBytes (qS n.s) else if n.op = 3 then ndCat n.l else if n.op = 4 then ndAlt n.l else if n.op = 5 then ndRep (n.l.getD 0 0) n.lo n.hi else ndRef n.name
section
variable {ns : List Nd}
def itT (ns : List Nd) (f k : Nat) : List Nat := wrapT (encB (ns.getD k nd0).op 3) (nodeT ns f (ns.getD k nd0))
def alT (ns : List Nd) (f k : Nat) : List Nat := wrapT (encB (ns.getD k nd0).op 4) (nodeT ns f (ns.getD k nd0))
theorem take_succ {c : Nat} {n : Nd} (h : ns[c]? = some n) : (ns.map cN).take (c + 1) = (ns.map cN).take c ++ [cN n] := by
  have hc : c < (ns.map cN).length := by
    rw [List.length_map]
    rcases Nat.lt_or_ge c ns.length with q | q
    · exact q
    · rw [List.getElem?_eq_none q] at h; cases h
  rw [List.take_succ_eq_append_getElem hc]
  congr 2
  have h1 : (ns.map cN)[c]? = some (cN n) := by rw [List.getElem?_map, h]; rfl
  rw [List.getElem?_eq_getElem hc] at h1
  exact Option.some.inj h1
theorem take_len {c : Nat} {n : Nd} (h : ns[c]? = some n) : ((ns.map cN).take c).length = c := by
  rw [List.length_take, List.length_map]
  rcases Nat.lt_or_ge c ns.length with q | q
  · omega
  · rw [List.getElem?_eq_none q] at h; cases h
/-- Reading goes on so. -/
def Rd (S : List Nat) (i j : Nat) (N N' : List Nd) (ks : List Nat) (st : List (List Nat × List Nat)) : Prop := ∀ aa I, run S ⟨i, N, st, aa, I⟩ = run S ⟨j, N', st, aa, I ++ ks⟩
def AA (ns : List Nd) (f : Nat) : Prop := ∀ (c : Nat) (n : Nd) (e : Nat), c < f → ns[c]? = some n → Forest ns e c n.l → ∀ (p r : List Nat) (st : List (List Nat × List Nat)), st.length + (itT ns f c).count 40 ≤ 64 →
  Rd (p ++ itT ns f c ++ r) p.length (p.length + (itT ns f c).length) ((ns.map cN).take e) ((ns.map cN).take (c + 1)) [c] st
theorem flat_snoc (g : Nat → List Nat) (xs : List Nat) (k : Nat) : (xs ++ [k]).flatMap g = xs.flatMap g ++ g k := by simp
theorem rows (f : Nat) (hA : AA ns f) {a b : Nat} {ks : List Nat} (h : Forest ns a b ks) : (∀ k ∈ ks, k < f) → ∀ (p r : List Nat) (st : List (List Nat × List Nat)), st.length + (ks.flatMap (itT ns f)).count 40 ≤ 64 →
    Rd (p ++ ks.flatMap (itT ns f) ++ r) p.length (p.length + (ks.flatMap (itT ns f)).length) ((ns.map cN).take a) ((ns.map cN).take b) ks st := by
  induction h with
  | nil a => intro _ p r st _ aa I; simp
  | @snoc a b c ks n h1 hn h2 ih1 ih2 =>
    intro hk p r st hst aa I
    rw [flat_snoc] at hst ⊢
    rw [List.count_append] at hst
    have e1 : p ++ (ks.flatMap (itT ns f) ++ itT ns f c) ++ r = p ++ ks.flatMap (itT ns f) ++ (itT ns f c ++ r) := by simp
    have e2 : p ++ (ks.flatMap (itT ns f) ++ itT ns f c) ++ r = (p ++ ks.flatMap (itT ns f)) ++ itT ns f c ++ r := by simp
    have q1 := ih1 (fun k hk' => hk k (by simp [hk'])) p (itT ns f c ++ r) st (by omega) aa I
    have q2 := hA c n b (hk c (by simp)) hn h2 (p ++ ks.flatMap (itT ns f)) r st (by omega) aa (I ++ ks)
    rw [e1, q1, ← e1, e2, show p.length + (ks.flatMap (itT ns f)).length = (p ++ ks.flatMap (itT ns f)).length from by simp, q2]
    simp [Nat.add_assoc]
theorem kids_cat (f : Nat) (n : Nd) (hop : n.op ≠ 4) : kidsT [] (kidT ns f n) n.l.length = n.l.flatMap (itT ns f) := by
  have key : ∀ m, m ≤ n.l.length → kidsT [] (kidT ns f n) m = (n.l.take m).flatMap (itT ns f) := by
    intro m
    induction m with
    | zero => intro _; simp [kidsT_zero]
    | succ m ih =>
      intro hm
      rw [kidsT_succ, ih (by omega), List.take_succ_eq_append_getElem (by omega), flat_snoc]
      have e : n.l.getD m 0 = n.l[m] := by rw [List.getD_eq_getElem?_getD, List.getElem?_eq_getElem (by omega)]; rfl
      have e4 : encB (ns.getD n.l[m] nd0).op n.op = encB (ns.getD n.l[m] nd0).op 3 := by
        unfold encB
        have : (n.op == 4) = false := by simp [hop]
        rw [this]
        rfl
      unfold kidT itT
      rw [e, e4]
      simp
  have := key n.l.length (Nat.le_refl _)
  rwa [List.take_length] at this
theorem enc_item {k : Nat} (h : k ≠ 1 ∧ k ≠ 3 ∧ k ≠ 4) (q : Nat) : encB k q = false := by
  unfold encB
  simp [h.1, h.2.1, h.2.2]
/-- A row of an alternative. -/
def RR (ns : List Nd) (f : Nat) : Prop := ∀ (c : Nat) (n : Nd) (e : Nat), c < f → ns[c]? = some n → Forest ns e c n.l → ∀ (p r : List Nat) (st : List (List Nat × List Nat)) (aa : List Nat), st.length + (alT ns f c).count 40 ≤ 64 →
  ∃ N1 I1, run (p ++ alT ns f c ++ r) ⟨p.length, (ns.map cN).take e, st, aa, []⟩ = run (p ++ alT ns f c ++ r) ⟨p.length + (alT ns f c).length, N1, st, aa, I1⟩ ∧ mkRow N1 I1 = ((ns.map cN).take (c + 1), c)
theorem mk_cat {N : List Nd} {l : List Nat} (h : 2 ≤ l.length) : mkRow N l = (N ++ [ndCat l], N.length) := by
  match l, h with
  | x :: y :: r, _ => rfl
theorem mk_alt {N : List Nd} {l : List Nat} (h : 2 ≤ l.length) : mkAlt N l = (N ++ [ndAlt l], N.length) := by
  match l, h with
  | x :: y :: r, _ => rfl
theorem emptyS_at {s : Nat → Bool} (h : emptyS s = true) : ∀ b, b < 256 → s b = noS b := fun b hb => by
  unfold emptyS at h
  rw [List.all_eq_true] at h
  have := h b (List.mem_range.2 hb)
  simpa [noS] using this
theorem ne_cN {n : Nd} (h : shapeB n = true) : NE1 n (cN n) := by
  unfold shapeB at h
  unfold cN
  by_cases h1 : n.op = 1
  · simp [h1, zeroB] at h
    obtain ⟨⟨⟨⟨a, b⟩, c⟩, d⟩, e⟩ := h
    rw [if_pos h1]
    exact ⟨h1, emptyS_at a, e, b, c, d⟩
  by_cases h2 : n.op = 2
  · simp [h2] at h
    obtain ⟨⟨⟨⟨a, b⟩, c⟩, d⟩, e⟩ := h
    rw [if_neg h1, if_pos h2]
    exact ⟨h2, fun b hb => (qS_has n.s b hb).symm, e, b, c, d⟩
  by_cases h3 : n.op = 3
  · simp [h3, zeroB] at h
    obtain ⟨⟨⟨⟨a, b⟩, c⟩, d⟩, e⟩ := h
    rw [if_neg h1, if_neg h2, if_pos h3]
    exact ⟨h3, emptyS_at a, rfl, b, c, d⟩
  by_cases h4 : n.op = 4
  · simp [h4, zeroB] at h
    obtain ⟨⟨⟨⟨a, b⟩, c⟩, d⟩, e⟩ := h
    rw [if_neg h1, if_neg h2, if_neg h3, if_pos h4]
    exact ⟨h4, emptyS_at a, rfl, b, c, d⟩
  by_cases h5 : n.op = 5
  · simp [h5] at h
    obtain ⟨⟨⟨⟨⟨a, b⟩, c⟩, d⟩, e⟩, g⟩ := h
    rw [if_neg h1, if_neg h2, if_neg h3, if_neg h4, if_pos h5]
    refine ⟨h5, emptyS_at a, ?_, rfl, rfl, b⟩
    match hl : n.l, c with
    | [k], _ => rfl
  by_cases h6 : n.op = 6
  · simp [h6, zeroB] at h
    obtain ⟨⟨⟨⟨a, b⟩, c⟩, d⟩, e⟩ := h
    rw [if_neg h1, if_neg h2, if_neg h3, if_neg h4, if_neg h5]
    exact ⟨h6, emptyS_at a, e, b, c, rfl⟩
  · simp [h1, h2, h3, h4, h5, h6] at h
theorem shape_kind {n : Nd} (h : shapeB n = true) : (n.op = 1 ∧ n.l = []) ∨ (n.op = 2 ∧ n.l = [] ∧ emptyS n.s = false) ∨ (n.op = 3 ∧ 2 ≤ n.l.length) ∨ (n.op = 4 ∧ 2 ≤ n.l.length) ∨ (n.op = 5 ∧ (∃ k, n.l = [k]) ∧ 0 ≤ n.lo ∧ n.lo ≤ 4096 ∧ (n.hi = -1 ∨ (1 ≤ n.hi ∧ n.hi ≤ 4096 ∧ n.lo ≤ n.hi))) ∨ (n.op = 6 ∧ n.l = [] ∧ nameB n.name = true) := by
  unfold shapeB at h
  by_cases h1 : n.op = 1
  · simp [h1, zeroB] at h
    exact .inl ⟨h1, h.2⟩
  by_cases h2 : n.op = 2
  · simp [h2] at h
    exact .inr (.inl ⟨h2, h.2, h.1.1.1.1⟩)
  by_cases h3 : n.op = 3
  · simp [h3, zeroB] at h
    exact .inr (.inr (.inl ⟨h3, h.2⟩))
  by_cases h4 : n.op = 4
  · simp [h4, zeroB] at h
    exact .inr (.inr (.inr (.inl ⟨h4, h.2⟩)))
  by_cases h5 : n.op = 5
  · simp [h5] at h
    obtain ⟨⟨⟨⟨⟨a, b⟩, c⟩, d⟩, e⟩, g⟩ := h
    refine .inr (.inr (.inr (.inr (.inl ⟨h5, ?_, d, e, ?_⟩))))
    · match hl : n.l, c with
      | [k], _ => exact ⟨k, rfl⟩
    · rcases g with g | g
      · exact .inl g
      · exact .inr ⟨g.1.1, g.1.2, g.2⟩
  by_cases h6 : n.op = 6
  · simp [h6, zeroB] at h
    exact .inr (.inr (.inr (.inr (.inr ⟨h6, h.2, h.1.2⟩))))
  · simp [h1, h2, h3, h4, h5, h6] at h
/-! The parts that are no kids. -/
theorem name_chars {b : List Nat} (h : nameB b = true) : (∀ c ∈ b, c ≠ 125 ∧ c ≠ 40) ∧ 0 < b.length ∧ digitB (at_ b 0) = false := by
  unfold nameB at h
  simp at h
  obtain ⟨⟨h1, h2⟩, h3⟩ := h
  have key : ∀ (l : List Nat) (i : Nat), nameAt i l = true → (∀ c ∈ l, c ≠ 125 ∧ c ≠ 40) := by
    intro l
    induction l with
    | nil => intro _ _ c hc; cases hc
    | cons x l ih =>
      intro i hi c hc
      unfold nameAt at hi
      simp only [Bool.and_eq_true] at hi
      rcases List.mem_cons.1 hc with rfl | hc
      · have := hi.1
        unfold letterB digitB at this
        simp at this
        omega
      · exact ih (i + 1) hi.2 c hc
  refine ⟨key b 0 h3, by omega, ?_⟩
  match b, h3, h1 with
  | x :: r, h3, _ =>
    unfold nameAt at h3
    simp only [Bool.and_eq_true] at h3
    have := h3.1
    show digitB x = false
    unfold letterB at this
    unfold digitB
    simp at this ⊢
    omega
theorem name_mid (p r : List Nat) {b : List Nat} (h : nameB b = true) : lone (p ++ (123 :: (b ++ [125])) ++ r) p.length = .ok (ndRef b, p.length + (123 :: (b ++ [125])).length) := by
  obtain ⟨hc, h0, hd⟩ := name_chars h
  have hS : p ++ (123 :: (b ++ [125])) ++ r = (p ++ [123]) ++ b ++ (125 :: r) := by simp
  have hl : (p ++ (123 :: (b ++ [125])) ++ r).length = p.length + b.length + 2 + r.length := by simp; omega
  have e9 : (p ++ [123]).length = p.length + 1 := by simp
  have hat : ∀ i, i < b.length → at_ (p ++ (123 :: (b ++ [125])) ++ r) (p.length + 1 + i) = at_ b i := fun i hi => by
    rw [hS, ← e9, at_mid _ _ _ hi]
  have hend : at_ (p ++ (123 :: (b ++ [125])) ++ r) (p.length + 1 + b.length) = 125 := by
    have e10 : (p ++ [123]).length + b.length = ((p ++ [123]) ++ b).length := by rw [List.length_append (bs := b)]
    rw [hS, ← e9, e10, at_app]
  have hdg : dig (p ++ (123 :: (b ++ [125])) ++ r) (p.length + 1) = false := by
    unfold dig
    have := hat 0 h0
    rw [Nat.add_zero] at this
    rw [this, hd, Bool.and_false]
  have hbe : braceEnd (p ++ (123 :: (b ++ [125])) ++ r) (p ++ (123 :: (b ++ [125])) ++ r).length (p.length + 1) = p.length + 1 + b.length := by
    refine braceEnd_uniq _ (by omega) (by omega) (by omega) (fun k h1 h2 => ?_) (by omega) (fun _ => hend)
    have := hat (k - (p.length + 1)) (by omega)
    rw [show p.length + 1 + (k - (p.length + 1)) = k from by omega] at this
    rw [this]
    refine (hc _ ?_).1
    unfold at_
    rw [List.getD_eq_getElem?_getD, List.getElem?_eq_getElem (by omega)]
    exact List.getElem_mem _
  have hcut : cut (p ++ (123 :: (b ++ [125])) ++ r) (p.length + 1) (p.length + 1 + b.length) = b := by
    unfold cut
    have e11 : (p ++ [123]).length + b.length - (p ++ [123]).length = b.length := by omega
    rw [hS, ← e9, List.append_assoc, List.drop_left, e11, List.take_left]
  have hn : name_ (p ++ (123 :: (b ++ [125])) ++ r) p.length = .ok (b, p.length + 1 + b.length + 1) := by
    unfold name_
    simp only
    rw [hbe, if_neg (by omega), hcut, if_pos h]
  unfold lone
  rw [at_mid0 p _ r (by simp)]
  rw [if_neg (by simp [at_]), if_neg (by simp [at_]), if_pos ⟨by simp [at_], hdg⟩, hn]
  simp
  omega
theorem lo_mid (p t : List Nat) {n : Nat} (hn : n ≤ 9999) (ht : ∀ c q, t = c :: q → digitB c = false) : loEnd (p ++ 123 :: (digs n ++ t)) p.length = p.length + 1 + (digs n).length ∧ loPart (p ++ 123 :: (digs n ++ t)) p.length = some n ∧ dig (p ++ 123 :: (digs n ++ t)) (p.length + 1) = true ∧ ∀ i, at_ (p ++ 123 :: (digs n ++ t)) (p.length + 1 + (digs n).length + i) = at_ t i := by
  have hS : p ++ 123 :: (digs n ++ t) = (p ++ [123]) ++ digs n ++ t := by simp
  have e9 : (p ++ [123]).length = p.length + 1 := by simp
  obtain ⟨d1, d2, d3, d4⟩ := digs_all n
  have hdl : 0 < (digs n).length := by cases hd : digs n; exact absurd hd d3; simp
  have h1 := (digEnd_mid (p ++ [123]) (digs n) t hS d2 ht).1
  have h2 := number_mid (p ++ [123]) t n hn hS
  rw [e9] at h1 h2
  have hle : loEnd (p ++ 123 :: (digs n ++ t)) p.length = p.length + 1 + (digs n).length := h1
  refine ⟨hle, by unfold loPart; rw [hle]; exact h2, ?_, fun i => ?_⟩
  · unfold dig
    have h3 := at_mid (p ++ [123]) (digs n) t (i := 0) hdl
    rw [Nat.add_zero, e9, ← hS] at h3
    rw [h3, decide_eq_true (by simp; omega), Bool.true_and]
    refine d2 _ ?_
    unfold at_
    rw [List.getD_eq_getElem?_getD, List.getElem?_eq_getElem hdl]
    exact List.getElem_mem _
  · have e10 : p.length + 1 + (digs n).length = ((p ++ [123]) ++ digs n).length := by rw [List.length_append (bs := digs n), e9]
    rw [hS, e10, at_app3]
theorem digs_40 (n : Nat) : (digs n).count 40 = 0 := by
  rw [List.count_eq_zero]
  intro h
  have := (digs_all n).2.1 40 h
  cases this
theorem rep_brace {S : List Nat} {i : Nat} (h : is S i 123 = true) (hd : dig S (i + 1) = true) : repAt S i = true ∧ repet S i = bounds S i := by
  obtain ⟨h1, h2⟩ := is_lt h
  refine ⟨by unfold repAt; rw [h, hd]; simp, ?_⟩
  unfold repet
  rw [h2]
  rfl
theorem bounds_mid (p r : List Nat) {lo hi : Int} (h0 : 0 ≤ lo) (h1 : lo ≤ 4096) (h2 : hi = -1 ∨ (1 ≤ hi ∧ hi ≤ 4096 ∧ lo ≤ hi)) :
    repAt (p ++ timesT lo hi ++ r) p.length = true ∧ repet (p ++ timesT lo hi ++ r) p.length = .ok ((lo, hi), p.length + (timesT lo hi).length) ∧ (timesT lo hi).count 40 = 0 := by
  have sign : ∀ (c : Nat) (l h : Int), (c = 42 ∧ l = 0 ∧ h = -1) ∨ (c = 43 ∧ l = 1 ∧ h = -1) ∨ (c = 63 ∧ l = 0 ∧ h = 1) → repAt (p ++ [c] ++ r) p.length = true ∧ repet (p ++ [c] ++ r) p.length = .ok ((l, h), p.length + 1) := by
    intro c l h hc
    have hi := is_mid p [c] r c (by simp)
    have ha := at_mid0 p [c] r (by simp)
    have e : at_ [c] 0 = c := rfl
    rw [e] at ha hi
    rcases hc with ⟨rfl, rfl, rfl⟩ | ⟨rfl, rfl, rfl⟩ | ⟨rfl, rfl, rfl⟩
    · refine ⟨by unfold repAt; rw [hi]; rfl, by unfold repet; rw [ha]; rfl⟩
    · refine ⟨by unfold repAt; rw [hi]; simp, by unfold repet; rw [ha]; rfl⟩
    · refine ⟨by unfold repAt; rw [hi]; simp, by unfold repet; rw [ha]; rfl⟩
  unfold timesT
  split
  · rename_i h; obtain ⟨rfl, rfl⟩ := h
    have := sign 42 0 (-1) (.inl ⟨rfl, rfl, rfl⟩)
    exact ⟨this.1, this.2, by decide⟩
  · split
    · rename_i h; obtain ⟨rfl, rfl⟩ := h
      have := sign 43 1 (-1) (.inr (.inl ⟨rfl, rfl, rfl⟩))
      exact ⟨this.1, this.2, by decide⟩
    · split
      · rename_i h; obtain ⟨rfl, rfl⟩ := h
        have := sign 63 0 1 (.inr (.inr ⟨rfl, rfl, rfl⟩))
        exact ⟨this.1, this.2, by decide⟩
      · obtain ⟨a, rfl⟩ : ∃ a : Nat, lo = (a : Int) := ⟨lo.toNat, by omega⟩
        have hb : ∀ t, is (p ++ 123 :: (digs a ++ t)) p.length 123 = true := fun t => by
          rw [show p ++ 123 :: (digs a ++ t) = p ++ [123] ++ (digs a ++ t) from by simp, is_mid _ _ _ _ (by simp)]
          rfl
        have ea : (a : Int).toNat = a := by simp
        rw [ea]
        split
        · rename_i h3 h4 h5 h6
          subst h6
          have eS : p ++ 123 :: (digs a ++ [125]) ++ r = p ++ 123 :: (digs a ++ (125 :: r)) := by simp
          rw [eS]
          obtain ⟨l1, l2, l3, l4⟩ := lo_mid p (125 :: r) (n := a) (by omega) (fun c q e => by cases e; rfl)
          obtain ⟨r1, r2⟩ := rep_brace (hb (125 :: r)) l3
          have a0 := l4 0
          rw [Nat.add_zero] at a0
          have c44 : is (p ++ 123 :: (digs a ++ 125 :: r)) (p.length + 1 + (digs a).length) 44 = false := by unfold is; rw [a0]; simp [at_]
          refine ⟨r1, ?_, by rw [List.count_cons, List.count_append, digs_40]; rfl⟩
          rw [r2]
          unfold bounds
          rw [l1, l2]
          unfold hiPart
          rw [c44]
          simp only [Bool.false_eq_true, if_false]
          rw [if_neg (by simp; omega), a0, if_neg (by simp [at_])]
          unfold okBounds
          simp only
          rw [if_pos (by omega)]
          simp
          omega
        · split
          · rename_i h3 h4 h5 h6 h7
            subst h7
            have eS : p ++ 123 :: (digs a ++ [44, 125]) ++ r = p ++ 123 :: (digs a ++ (44 :: 125 :: r)) := by simp
            rw [eS]
            obtain ⟨l1, l2, l3, l4⟩ := lo_mid p (44 :: 125 :: r) (n := a) (by omega) (fun c q e => by cases e; rfl)
            obtain ⟨r1, r2⟩ := rep_brace (hb (44 :: 125 :: r)) l3
            have a0 := l4 0
            have a1 := l4 1
            rw [Nat.add_zero] at a0
            have c44 : is (p ++ 123 :: (digs a ++ 44 :: 125 :: r)) (p.length + 1 + (digs a).length) 44 = true := by unfold is; rw [a0, decide_eq_true (by simp; omega)]; rfl
            have d1 : dig (p ++ 123 :: (digs a ++ 44 :: 125 :: r)) (p.length + 1 + (digs a).length + 1) = false := by unfold dig; rw [a1]; simp [at_, digitB]
            refine ⟨r1, ?_, by rw [List.count_cons, List.count_append, digs_40]; rfl⟩
            rw [r2]
            unfold bounds
            rw [l1, l2]
            unfold hiPart
            rw [c44, d1]
            simp only [Bool.false_eq_true, if_false, if_true]
            rw [if_neg (by simp; omega), a1, if_neg (by simp [at_])]
            unfold okBounds
            simp only
            rw [if_pos (by omega)]
            simp
            omega
          · rename_i h3 h4 h5 h6 h7
            obtain ⟨b, rfl⟩ : ∃ b : Nat, hi = (b : Int) := ⟨hi.toNat, by omega⟩
            have eb : (b : Int).toNat = b := by simp
            rw [eb]
            have eS : p ++ 123 :: (digs a ++ 44 :: (digs b ++ [125])) ++ r = p ++ 123 :: (digs a ++ (44 :: (digs b ++ 125 :: r))) := by simp
            rw [eS]
            obtain ⟨l1, l2, l3, l4⟩ := lo_mid p (44 :: (digs b ++ 125 :: r)) (n := a) (by omega) (fun c q e => by cases e; rfl)
            obtain ⟨r1, r2⟩ := rep_brace (hb (44 :: (digs b ++ 125 :: r))) l3
            have a0 := l4 0
            rw [Nat.add_zero] at a0
            have c44 : is (p ++ 123 :: (digs a ++ 44 :: (digs b ++ 125 :: r))) (p.length + 1 + (digs a).length) 44 = true := by unfold is; rw [a0, decide_eq_true (by simp; omega)]; rfl
            have hS2 : p ++ 123 :: (digs a ++ 44 :: (digs b ++ 125 :: r)) = (p ++ 123 :: (digs a ++ [44])) ++ digs b ++ (125 :: r) := by simp
            have e9 : (p ++ 123 :: (digs a ++ [44])).length = p.length + 1 + (digs a).length + 1 := by simp; omega
            obtain ⟨d1, d2, d3, d4⟩ := digs_all b
            have hdl : 0 < (digs b).length := by cases hd : digs b; exact absurd hd d3; simp
            have g1 := (digEnd_mid (p ++ 123 :: (digs a ++ [44])) (digs b) (125 :: r) hS2 d2 (fun c q e => by cases e; rfl)).1
            have g2 := number_mid (p ++ 123 :: (digs a ++ [44])) (125 :: r) b (by omega) hS2
            rw [e9] at g1 g2
            have g3 : dig (p ++ 123 :: (digs a ++ 44 :: (digs b ++ 125 :: r))) (p.length + 1 + (digs a).length + 1) = true := by
              unfold dig
              have h9 := at_mid (p ++ 123 :: (digs a ++ [44])) (digs b) (125 :: r) (i := 0) hdl
              rw [Nat.add_zero, e9, ← hS2] at h9
              rw [h9, decide_eq_true (by simp; omega), Bool.true_and]
              refine d2 _ ?_
              unfold at_
              rw [List.getD_eq_getElem?_getD, List.getElem?_eq_getElem hdl]
              exact List.getElem_mem _
            have g4 : at_ (p ++ 123 :: (digs a ++ 44 :: (digs b ++ 125 :: r))) (p.length + 1 + (digs a).length + 1 + (digs b).length) = 125 := by
              have e10 : p.length + 1 + (digs a).length + 1 + (digs b).length = ((p ++ 123 :: (digs a ++ [44])) ++ digs b).length := by rw [List.length_append (bs := digs b), e9]
              rw [hS2, e10, at_app]
            refine ⟨r1, ?_, by simp [List.count_append, digs_40]⟩
            rw [r2]
            unfold bounds
            rw [l1, l2]
            unfold hiPart
            rw [c44, g3, g1, g2]
            simp only [if_true]
            rw [if_neg (by simp; omega), g4, if_neg (by simp)]
            unfold okBounds
            simp only
            rw [if_pos (by omega)]
            simp
            omega
theorem forest_nil {a b : Nat} (h : Forest ns a b []) : a = b := by
  cases hk : ([] : List Nat) with
  | nil =>
    generalize hks : ([] : List Nat) = ks at h
    cases h with
    | nil => rfl
    | snoc _ _ _ => simp at hks
  | cons _ _ => cases hk
theorem kidsT_congr {sep : List Nat} {g h : Nat → List Nat} : ∀ n, (∀ i, i < n → g i = h i) → kidsT sep g n = kidsT sep h n
  | 0, _ => rfl
  | n + 1, H => by rw [kidsT_succ, kidsT_succ, kidsT_congr n (fun i hi => H i (by omega)), H n (by omega)]
def alsT (ns : List Nd) (f : Nat) (ks : List Nat) : List Nat := kidsT [124] (fun i => alT ns f (ks.getD i 0)) ks.length
theorem alsT_snoc (f : Nat) (ks : List Nat) (c : Nat) : alsT ns f (ks ++ [c]) = alsT ns f ks ++ ((if 0 < ks.length then [124] else []) ++ alT ns f c) := by
  unfold alsT
  rw [List.length_append, List.length_singleton, kidsT_succ]
  congr 1
  · refine kidsT_congr _ (fun i hi => ?_)
    rw [List.getD_eq_getElem?_getD, List.getD_eq_getElem?_getD, List.getElem?_append_left hi]
  · congr 2
    simp [List.getD_eq_getElem?_getD]
theorem kids_alt (f : Nat) (n : Nd) (hop : n.op = 4) : kidsT [124] (kidT ns f n) n.l.length = alsT ns f n.l := by
  refine kidsT_congr _ (fun i hi => ?_)
  unfold kidT alT
  rw [hop]
theorem alts (f : Nat) (hR : RR ns f) {a b : Nat} {ks : List Nat} (h : Forest ns a b ks) : (∀ k ∈ ks, k < f) → ks ≠ [] → ∀ (p r : List Nat) (st : List (List Nat × List Nat)), st.length + (alsT ns f ks).count 40 ≤ 64 →
    ∃ N1 I1 init last, ks = init ++ [last] ∧ run (p ++ alsT ns f ks ++ r) ⟨p.length, (ns.map cN).take a, st, [], []⟩ = run (p ++ alsT ns f ks ++ r) ⟨p.length + (alsT ns f ks).length, N1, st, init, I1⟩ ∧ mkRow N1 I1 = ((ns.map cN).take b, last) := by
  induction h with
  | nil a => intro _ h; exact absurd rfl h
  | @snoc a b c ks n h1 hn h2 ih1 ih2 =>
    intro hk _ p r st hst
    have es := alsT_snoc (ns := ns) f ks c
    by_cases h0 : ks = []
    · subst h0
      have hab := forest_nil h1
      subst hab
      have e1 : alsT ns f ([] ++ [c]) = alT ns f c := by rw [es]; simp [alsT, kidsT_zero]
      rw [e1] at hst ⊢
      obtain ⟨N1, I1, q1, q2⟩ := hR c n a (hk c (by simp)) hn h2 p r st [] hst
      exact ⟨N1, I1, [], c, rfl, q1, q2⟩
    · have hl : 0 < ks.length := by cases ks; exact absurd rfl h0; simp
      rw [if_pos hl] at es
      rw [es] at hst ⊢
      rw [List.count_append, List.count_append] at hst
      obtain ⟨N1, I1, init, last, hks, q1, q2⟩ := ih1 (fun k hk' => hk k (by simp [hk'])) h0 p ([124] ++ alT ns f c ++ r) st (by omega)
      have e1 : p ++ (alsT ns f ks ++ ([124] ++ alT ns f c)) ++ r = p ++ alsT ns f ks ++ ([124] ++ alT ns f c ++ r) := by simp
      have e2 : p ++ (alsT ns f ks ++ ([124] ++ alT ns f c)) ++ r = (p ++ alsT ns f ks) ++ [124] ++ (alT ns f c ++ r) := by simp
      have e3 : p ++ (alsT ns f ks ++ ([124] ++ alT ns f c)) ++ r = (p ++ alsT ns f ks ++ [124]) ++ alT ns f c ++ r := by simp
      have l1 : p.length + (alsT ns f ks).length = (p ++ alsT ns f ks).length := by simp
      have l2 : (p ++ alsT ns f ks).length + 1 = (p ++ alsT ns f ks ++ [124]).length := by rw [List.length_append (bs := [124])]; rfl
      obtain ⟨N2, I2, q3, q4⟩ := hR c n b (hk c (by simp)) hn h2 (p ++ alsT ns f ks ++ [124]) r st ks (by omega)
      refine ⟨N2, I2, ks, c, rfl, ?_, q4⟩
      have hbar : run (p ++ (alsT ns f ks ++ ([124] ++ alT ns f c)) ++ r) ⟨p.length + (alsT ns f ks).length, N1, st, init, I1⟩ = run (p ++ (alsT ns f ks ++ ([124] ++ alT ns f c)) ++ r) ⟨p.length + (alsT ns f ks).length + 1, (mkRow N1 I1).1, st, init ++ [(mkRow N1 I1).2], []⟩ := by
        refine run_bar (by simp) ?_
        rw [l1, e2, at_mid0 _ _ _ (by simp)]
        rfl
      rw [e1, q1, ← e1, hbar, q2]
      simp only
      rw [← hks, l1, l2, e3, q3]
      congr 2
      simp
      omega
theorem body (hSh : Shp ns) (f : Nat) (hA : AA ns f) (hR : RR ns f) {c : Nat} {n : Nd} {e : Nat} (hn : ns[c]? = some n) (hF : Forest ns e c n.l) (hk : ∀ k ∈ n.l, k < f) (hop : n.op = 1 ∨ n.op = 3 ∨ n.op = 4) (p r : List Nat) (st : List (List Nat × List Nat)) (hst : st.length + (nodeT ns (f + 1) n).count 40 ≤ 64) :
    ∃ N1 a1 I1, run (p ++ nodeT ns (f + 1) n ++ r) ⟨p.length, (ns.map cN).take e, st, [], []⟩ = run (p ++ nodeT ns (f + 1) n ++ r) ⟨p.length + (nodeT ns (f + 1) n).length, N1, st, a1, I1⟩ ∧ close N1 a1 I1 = ((ns.map cN).take (c + 1), c) := by
  have hs := hSh n (List.mem_of_getElem? hn)
  have htk := take_succ hn
  have htl := take_len hn
  rcases shape_kind hs with ⟨o, hl⟩ | ⟨o, _⟩ | ⟨o, hl⟩ | ⟨o, hl⟩ | ⟨o, _⟩ | ⟨o, _⟩
  · have hT : nodeT ns (f + 1) n = [] := by rw [nodeT_succ]; unfold headT; simp [o]
    rw [hl] at hF
    have := forest_nil hF
    subst this
    rw [hT]
    refine ⟨(ns.map cN).take e, [], [], by simp, ?_⟩
    have hc : cN n = ndEmpty := by unfold cN; rw [if_pos o]
    rw [htk, hc]
    unfold close mkRow mkAlt
    simp [htl]
  · omega
  · have hT : nodeT ns (f + 1) n = n.l.flatMap (itT ns f) := by rw [nodeT_succ]; unfold headT; simp only [o]; rw [if_neg (by omega), if_neg (by omega), if_neg (by omega), if_pos trivial]; exact kids_cat f n (by omega)
    rw [hT] at hst ⊢
    refine ⟨_, [], n.l, by have := rows f hA hF hk p r st hst [] []; simpa using this, ?_⟩
    have hc : cN n = ndCat n.l := by unfold cN; simp [o]
    unfold close
    rw [mk_cat hl, htk, hc, htl]
    rfl
  · have hT : nodeT ns (f + 1) n = alsT ns f n.l := by rw [nodeT_succ]; unfold headT; simp only [o]; rw [if_neg (by omega), if_neg (by omega), if_neg (by omega), if_neg (by omega), if_pos trivial]; exact kids_alt f n o
    rw [hT] at hst ⊢
    obtain ⟨N1, I1, init, last, hks, q1, q2⟩ := alts f hR hF hk (fun e => by rw [e] at hl; simp at hl) p r st hst
    refine ⟨N1, init, I1, q1, ?_⟩
    have hc : cN n = ndAlt n.l := by unfold cN; simp [o]
    unfold close
    rw [q2]
    simp only
    rw [← hks, mk_alt hl, htk, hc, htl]
  · omega
  · omega
theorem run_it {S : List Nat} {i : Nat} {N : List Nd} {st : List (List Nat × List Nat)} {aa I : List Nat} {n : Nd} {j : Nat} (hi : i < S.length) (h1 : at_ S i ≠ 124) (h2 : at_ S i ≠ 41) (h3 : repAt S i = false) (h4 : at_ S i ≠ 40) (hl : lone S i = .ok (n, j)) : run S ⟨i, N, st, aa, I⟩ = run S ⟨j, N ++ [n], st, aa, I ++ [N.length]⟩ := by
  rw [run_lone hi h1 h2 (.inr h3) h4, hl]
theorem stepA (hSh : Shp ns) (f : Nat) (hA : AA ns f) (hR : RR ns f) : AA ns (f + 1) := by
  intro c n e hc hn hF p r st hst
  have hs := hSh n (List.mem_of_getElem? hn)
  have htk := take_succ hn
  have htl := take_len hn
  have hgd := getD_of hn
  have hk : ∀ k ∈ n.l, k < f := fun k hk => by have := (forest_mem hF k hk).2; omega
  have wrapped : encB n.op 3 = true → (n.op = 1 ∨ n.op = 3 ∨ n.op = 4) → Rd (p ++ itT ns (f + 1) c ++ r) p.length (p.length + (itT ns (f + 1) c).length) ((ns.map cN).take e) ((ns.map cN).take (c + 1)) [c] st := by
    intro he ho aa I
    have hT : itT ns (f + 1) c = 40 :: (nodeT ns (f + 1) n ++ [41]) := by unfold itT wrapT; rw [hgd, he, if_pos rfl]
    rw [hT] at hst ⊢
    have hcnt : (40 :: (nodeT ns (f + 1) n ++ [41])).count 40 = (nodeT ns (f + 1) n).count 40 + 1 := by simp
    rw [hcnt] at hst
    have e1 : p ++ (40 :: (nodeT ns (f + 1) n ++ [41])) ++ r = p ++ [40] ++ (nodeT ns (f + 1) n ++ [41] ++ r) := by simp
    have e2 : p ++ (40 :: (nodeT ns (f + 1) n ++ [41])) ++ r = (p ++ [40]) ++ nodeT ns (f + 1) n ++ ([41] ++ r) := by simp
    have e3 : p ++ (40 :: (nodeT ns (f + 1) n ++ [41])) ++ r = (p ++ [40] ++ nodeT ns (f + 1) n) ++ [41] ++ r := by simp
    have l1 : p.length + 1 = (p ++ [40]).length := by simp
    have l2 : (p ++ [40]).length + (nodeT ns (f + 1) n).length = (p ++ [40] ++ nodeT ns (f + 1) n).length := by rw [List.length_append (bs := nodeT ns (f + 1) n)]
    have a40 : at_ (p ++ (40 :: (nodeT ns (f + 1) n ++ [41])) ++ r) p.length = 40 := by rw [e1, at_mid0 _ _ _ (by simp)]; rfl
    have hlen : p.length < (p ++ (40 :: (nodeT ns (f + 1) n ++ [41])) ++ r).length := by simp
    have hrp : repAt (p ++ (40 :: (nodeT ns (f + 1) n ++ [41])) ++ r) p.length = false := by
      unfold repAt
      simp only [is_of hlen, a40]
      rfl
    obtain ⟨N1, a1, I1, q1, q2⟩ := body hSh f hA hR hn hF hk ho (p ++ [40]) ([41] ++ r) ((aa, I) :: st) (by simp; omega)
    rw [run_open hlen (.inr hrp) a40 (by omega), l1, e2, q1, ← e2, l2]
    rw [run_shut (by rw [e3]; simp) (by rw [e3, at_mid0 _ _ _ (by simp)]; rfl), q2]
    have l3 : (p ++ [40] ++ nodeT ns (f + 1) n).length + 1 = p.length + (40 :: (nodeT ns (f + 1) n ++ [41])).length := by simp; omega
    rw [l3]
  rcases shape_kind hs with ⟨o, hl⟩ | ⟨o, hl, hse⟩ | ⟨o, hl⟩ | ⟨o, hl⟩ | ⟨o, ⟨k, hl⟩, b0, b1, b2⟩ | ⟨o, hl, hnm⟩
  · exact wrapped (by rw [o]; rfl) (.inl o)
  · intro aa I
    have hT : itT ns (f + 1) c = setT n.s := by unfold itT wrapT; rw [hgd, enc_item (by omega), nodeT_succ]; unfold headT; simp [o]
    rw [hT]
    obtain ⟨m1, m2, m40, m41, m124, m42, m43, m63, m123⟩ := set_mid p r hse
    have ha := at_mid0 p (setT n.s) r m2
    have hlen : p.length < (p ++ setT n.s ++ r).length := by simp; omega
    have hrp : repAt (p ++ setT n.s ++ r) p.length = false := by unfold repAt; simp only [is_of hlen, ha]; simp [m42, m43, m63, m123]
    rw [hl] at hF
    have := forest_nil hF
    subst this
    have hcc : cN n = ndBytes (qS n.s) := by unfold cN; simp [o]
    rw [run_it hlen (by rw [ha]; exact m124) (by rw [ha]; exact m41) hrp (by rw [ha]; exact m40) m1, htl, htk, hcc]
  · exact wrapped (by rw [o]; rfl) (.inr (.inl o))
  · exact wrapped (by rw [o]; rfl) (.inr (.inr o))
  · intro aa I
    have hT : itT ns (f + 1) c = itT ns f k ++ timesT n.lo n.hi := by
      have h1 : itT ns (f + 1) c = nodeT ns (f + 1) n := by unfold itT wrapT; rw [hgd, enc_item (by omega)]; simp
      rw [h1, nodeT_succ]
      unfold headT
      simp only [o]
      rw [if_neg (by omega), if_neg (by omega), if_pos trivial, kids_cat f n (by omega), hl]
      simp
    rw [hT] at hst ⊢
    rw [List.count_append] at hst
    rw [hl] at hF
    have hck := hF.last
    have hkf : k < f := hk k (by rw [hl]; simp)
    obtain ⟨nk, ek, hnk, hFk⟩ := forest_kids hF k (forest_mem hF k (by simp)).1 (by omega)
    have hee : ek = e := by
      have q := Forest.snoc (Forest.nil ek) hnk hFk
      rw [← hck] at q
      exact Forest.start q e hF
    subst hee
    have e1 : p ++ (itT ns f k ++ timesT n.lo n.hi) ++ r = p ++ itT ns f k ++ (timesT n.lo n.hi ++ r) := by simp
    have e2 : p ++ (itT ns f k ++ timesT n.lo n.hi) ++ r = (p ++ itT ns f k) ++ timesT n.lo n.hi ++ r := by simp
    have l1 : p.length + (itT ns f k).length = (p ++ itT ns f k).length := by simp
    obtain ⟨t1, t2, t3⟩ := bounds_mid (p ++ itT ns f k) r b0 b1 b2
    have q1 := hA k nk ek hkf hnk hFk p (timesT n.lo n.hi ++ r) st (by omega) aa I
    rw [e1, q1, ← e1, e2, l1]
    rw [run_repet (by have := rep_lt t1; exact this) t1, t2]
    simp only
    have hcc : cN n = ndRep k n.lo n.hi := by unfold cN; simp [o, hl]
    have hkl : ((ns.map cN).take (k + 1)).length = c := by rw [← hck]; exact htl
    rw [hkl, ← hck, htk, hcc]
    congr 2
    simp
    omega
  · intro aa I
    have hT : itT ns (f + 1) c = 123 :: (n.name ++ [125]) := by unfold itT wrapT; rw [hgd, enc_item (by omega), nodeT_succ]; unfold headT; simp [o]
    rw [hT]
    have m1 := name_mid p r hnm
    have ha := at_mid0 p (123 :: (n.name ++ [125])) r (by simp)
    have ha' : at_ (p ++ (123 :: (n.name ++ [125])) ++ r) p.length = 123 := ha
    have hlen : p.length < (p ++ (123 :: (n.name ++ [125])) ++ r).length := by simp
    obtain ⟨hch, hn0, hnd⟩ := name_chars hnm
    have hd : dig (p ++ (123 :: (n.name ++ [125])) ++ r) (p.length + 1) = false := by
      unfold dig
      have e9 : (p ++ [123]).length = p.length + 1 := by simp
      have h9 := at_mid (p ++ [123]) n.name ([125] ++ r) (i := 0) hn0
      rw [Nat.add_zero, e9, show p ++ [123] ++ n.name ++ ([125] ++ r) = p ++ (123 :: (n.name ++ [125])) ++ r from by simp] at h9
      rw [h9, hnd, Bool.and_false]
    have hrp : repAt (p ++ (123 :: (n.name ++ [125])) ++ r) p.length = false := by unfold repAt; simp only [is_of hlen, ha', hd]; rfl
    rw [hl] at hF
    have := forest_nil hF
    subst this
    have hcc : cN n = ndRef n.name := by unfold cN; simp [o]
    rw [run_it hlen (by rw [ha']; decide) (by rw [ha']; decide) hrp (by rw [ha']; decide) m1, htl, htk, hcc]
theorem stepR (hSh : Shp ns) (f : Nat) (hA : AA ns f) (hA1 : AA ns (f + 1)) : RR ns (f + 1) := by
  intro c n e hc hn hF p r st aa hst
  have hs := hSh n (List.mem_of_getElem? hn)
  have htk := take_succ hn
  have htl := take_len hn
  have hgd := getD_of hn
  have hk : ∀ k ∈ n.l, k < f := fun k hk => by have := (forest_mem hF k hk).2; omega
  by_cases o1 : n.op = 1
  · have hl : n.l = [] := by rcases shape_kind hs with h | h | h | h | h | h <;> first | exact h.2 | omega
    have hT : alT ns (f + 1) c = [] := by unfold alT wrapT; rw [hgd, o1, nodeT_succ]; unfold headT; simp [o1, encB]
    rw [hl] at hF
    have := forest_nil hF
    subst this
    rw [hT]
    have hcc : cN n = ndEmpty := by unfold cN; rw [if_pos o1]
    exact ⟨(ns.map cN).take e, [], by simp, by rw [htk, hcc]; unfold mkRow; simp [htl]⟩
  · by_cases o3 : n.op = 3
    · have hl : 2 ≤ n.l.length := by rcases shape_kind hs with h | h | h | h | h | h <;> first | omega | exact h.2
      have hT : alT ns (f + 1) c = n.l.flatMap (itT ns f) := by
        unfold alT wrapT
        rw [hgd, o3, nodeT_succ]
        unfold headT
        simp only [o3]
        rw [if_neg (by decide), if_neg (by omega), if_neg (by omega), if_neg (by omega), if_pos trivial]
        exact kids_cat f n (by omega)
      rw [hT] at hst ⊢
      have hcc : cN n = ndCat n.l := by unfold cN; simp [o3]
      exact ⟨_, n.l, by have := rows f hA hF hk p r st hst aa []; simpa using this, by rw [mk_cat hl, htk, hcc, htl]⟩
    · have hT : alT ns (f + 1) c = itT ns (f + 1) c := by
        unfold alT itT
        rw [hgd]
        congr 1
        unfold encB
        simp [o1, o3]
      rw [hT] at hst ⊢
      exact ⟨_, [c], by have := hA1 c n e hc hn hF p r st hst aa []; simpa using this, rfl⟩
theorem allA (hSh : Shp ns) : ∀ f, AA ns f ∧ RR ns f
  | 0 => ⟨fun c n e h => absurd h (Nat.not_lt_zero c), fun c n e h => absurd h (Nat.not_lt_zero c)⟩
  | f + 1 => by
    have ih := allA hSh f
    have h1 := stepA hSh f ih.1 ih.2
    exact ⟨h1, stepR hSh f ih.1 h1⟩
/-- P5.3: what is read of a tree's pattern is the tree. -/
theorem parse_print (hSh : Shp ns) (hp : 1 ≤ ns.length) (hl : ns.length ≤ 1024) (hF : Forest ns 0 ns.length [ns.length - 1]) (h40 : (treeT ns).count 40 ≤ 64) (hlen : (treeT ns).length ≤ 1024) : parse (treeT ns) = .ok (ns.map cN) := by
  obtain ⟨c, hc⟩ : ∃ c, ns.length = c + 1 := ⟨ns.length - 1, by omega⟩
  obtain ⟨n, e, hn, hFk⟩ := forest_kids hF c (Nat.zero_le _) (by omega)
  have hee : e = 0 := by
    have q := Forest.snoc (Forest.nil e) hn hFk
    rw [hc] at hF
    exact Forest.start q 0 (by simpa using hF)
  subst hee
  have hgd := getD_of hn
  have hT : treeT ns = nodeT ns (c + 1) n := by unfold treeT; rw [hc]; simp only [Nat.add_sub_cancel]; rw [hgd]
  have hs := hSh n (List.mem_of_getElem? hn)
  have hfull : (ns.map cN).take (c + 1) = ns.map cN := by rw [← hc, List.take_of_length_le (by simp)]
  have hrun : run (treeT ns) start = .ok (ns.map cN) := by
    rw [hT] at h40 ⊢
    have hk : ∀ k ∈ n.l, k < c := fun k hk => (forest_mem hFk k hk).2
    by_cases ho : n.op = 1 ∨ n.op = 3 ∨ n.op = 4
    · obtain ⟨N1, a1, I1, q1, q2⟩ := body hSh c (allA hSh c).1 (allA hSh c).2 hn hFk hk ho [] [] [] (by simpa using h40)
      simp only [List.nil_append, List.append_nil, List.length_nil, Nat.zero_add, List.take_zero] at q1
      unfold start
      rw [q1, run_done rfl, q2, hfull]
    · have hI : itT ns (c + 1) c = nodeT ns (c + 1) n := by unfold itT wrapT; rw [hgd, enc_item (by omega)]; simp
      have q1 := (allA hSh (c + 1)).1 c n 0 (by omega) hn hFk [] [] [] (by rw [hI]; simpa using h40) [] []
      rw [hI] at q1
      simp only [List.nil_append, List.append_nil, List.length_nil, Nat.zero_add, List.take_zero] at q1
      unfold start
      rw [q1, run_done rfl, hfull]
      rfl
  unfold parse
  rw [if_neg (by omega), hrun]
  simp only
  rw [if_neg (by simp; omega)]
theorem ne_map (hSh : Shp ns) : NE ns (ns.map cN) := by
  refine ⟨by simp, fun i => ?_⟩
  by_cases hi : i < ns.length
  · have h1 : ns[i]? = some ns[i] := List.getElem?_eq_getElem hi
    have e1 : ns.getD i nd0 = ns[i] := getD_of h1
    have e2 : (ns.map cN).getD i nd0 = cN ns[i] := by rw [List.getD_eq_getElem?_getD, List.getElem?_map, h1]; rfl
    rw [e1, e2]
    exact ne_cN (hSh _ (List.getElem_mem hi))
  · have e1 : ns.getD i nd0 = nd0 := by rw [List.getD_eq_getElem?_getD, List.getElem?_eq_none (by omega)]; rfl
    have e2 : (ns.map cN).getD i nd0 = nd0 := by rw [List.getD_eq_getElem?_getD, List.getElem?_eq_none (by simp; omega)]; rfl
    rw [e1, e2]
    exact NE1.refl _
end
end Go.Proofs.YtghjkbjpdjlddaaDoor.Sy.Pn

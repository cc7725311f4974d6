/- How deep a tree's pattern is in parentheses; a tree's pattern is read as the tree where it is not too deep. Plain lists. -/
import Derived.Test.YtghjkbjpdjlddaaGreatDoorDk
namespace Go.Proofs.YtghjkbjpdjlddaaGreatDoor.Sy.Pn.Dp
set_option maxRecDepth 100000
set_option linter.unusedVariables false

def lub (g : Nat → Nat) (l : List Nat) : Nat := l.foldr (fun k m => max (g k) m) 0
theorem lub_le {g : Nat → Nat} {b : Nat} : ∀ {l : List Nat}, lub g l ≤ b ↔ ∀ k ∈ l, g k ≤ b
  | [] => by simp [lub]
  | x :: r => by
    have ih := lub_le (g := g) (b := b) (l := r)
    have e : lub g (x :: r) = max (g x) (lub g r) := rfl
    rw [e]
    constructor
    · intro h k hk
      rcases List.mem_cons.1 hk with rfl | hk
      · omega
      · exact ih.1 (by omega) k hk
    · intro h
      have h1 := h x (by simp)
      have h2 := ih.2 (fun k hk => h k (by simp [hk]))
      omega
theorem lub_congr {g h : Nat → Nat} : ∀ {l : List Nat}, (∀ k ∈ l, g k = h k) → lub g l = lub h l
  | [], _ => rfl
  | x :: r, H => by
    have e : ∀ g : Nat → Nat, lub g (x :: r) = max (g x) (lub g r) := fun _ => rfl
    rw [e, e, H x (by simp), lub_congr (fun k hk => H k (by simp [hk]))]
def wr (k p : Nat) : Nat := if encB k p = true then 1 else 0
/-- How deep a node's text is. -/
def dN (ns : List Nd) : Nat → Nd → Nat
  | 0, _ => 0
  | f + 1, n => lub (fun k => wr (ns.getD k nd0).op n.op + dN ns f (ns.getD k nd0)) n.l
theorem dN_succ (ns : List Nd) (f : Nat) (n : Nd) : dN ns (f + 1) n = lub (fun k => wr (ns.getD k nd0).op n.op + dN ns f (ns.getD k nd0)) n.l := rfl
section
variable {ns : List Nd}
def dI (ns : List Nd) (f c : Nat) : Nat := wr (ns.getD c nd0).op 3 + dN ns f (ns.getD c nd0)
def dA (ns : List Nd) (f c : Nat) : Nat := wr (ns.getD c nd0).op 4 + dN ns f (ns.getD c nd0)
theorem dN_le {f b : Nat} {n : Nd} : dN ns (f + 1) n ≤ b ↔ ∀ k ∈ n.l, wr (ns.getD k nd0).op n.op + dN ns f (ns.getD k nd0) ≤ b := by
  rw [dN_succ]
  exact lub_le
theorem dN_cat {f d : Nat} {n : Nd} (o : n.op = 3) (h : d + dN ns (f + 1) n ≤ 64) : ∀ k ∈ n.l, d + dI ns f k ≤ 64 := fun k hk => by
  have := (dN_le (ns := ns) (f := f) (n := n) (b := dN ns (f + 1) n)).1 (Nat.le_refl _) k hk
  rw [o] at this
  unfold dI
  omega
theorem dN_alt {f d : Nat} {n : Nd} (o : n.op = 4) (h : d + dN ns (f + 1) n ≤ 64) : ∀ k ∈ n.l, d + dA ns f k ≤ 64 := fun k hk => by
  have := (dN_le (ns := ns) (f := f) (n := n) (b := dN ns (f + 1) n)).1 (Nat.le_refl _) k hk
  rw [o] at this
  unfold dA
  omega
theorem dA_cat {f d c : Nat} {n : Nd} (hg : ns.getD c nd0 = n) (o : n.op = 3) (h : d + dA ns (f + 1) c ≤ 64) : ∀ k ∈ n.l, d + dI ns f k ≤ 64 := by
  unfold dA at h
  rw [hg] at h
  exact dN_cat o (by omega)
theorem wr_rep (k : Nat) : wr k 5 = wr k 3 := rfl
theorem dI_rep {f d c k : Nat} {n : Nd} (hg : ns.getD c nd0 = n) (o : n.op = 5) (hl : n.l = [k]) (h : d + dI ns (f + 1) c ≤ 64) : d + dI ns f k ≤ 64 := by
  unfold dI at h
  rw [hg] at h
  have := (dN_le (ns := ns) (f := f) (n := n) (b := dN ns (f + 1) n)).1 (Nat.le_refl _) k (by rw [hl]; simp)
  rw [o, wr_rep] at this
  unfold dI
  omega
def AA (ns : List Nd) (f : Nat) : Prop := ∀ (c : Nat) (n : Nd) (e : Nat), c < f → ns[c]? = some n → Forest ns e c n.l → ∀ (p r : List Nat) (st : List (List Nat × List Nat)), st.length + dI ns f c ≤ 64 →
  Rd (p ++ itT ns f c ++ r) p.length (p.length + (itT ns f c).length) ((ns.map cN).take e) ((ns.map cN).take (c + 1)) [c] st
theorem rows (f : Nat) (hA : AA ns f) {a b : Nat} {ks : List Nat} (h : Forest ns a b ks) : (∀ k ∈ ks, k < f) → ∀ (p r : List Nat) (st : List (List Nat × List Nat)), (∀ k ∈ ks, st.length + dI ns f k ≤ 64) →
    Rd (p ++ ks.flatMap (itT ns f) ++ r) p.length (p.length + (ks.flatMap (itT ns f)).length) ((ns.map cN).take a) ((ns.map cN).take b) ks st := by
  induction h with
  | nil a => intro _ p r st _ aa I; simp
  | @snoc a b c ks n h1 hn h2 ih1 ih2 =>
    intro hk p r st hst aa I
    rw [flat_snoc]
    have e1 : p ++ (ks.flatMap (itT ns f) ++ itT ns f c) ++ r = p ++ ks.flatMap (itT ns f) ++ (itT ns f c ++ r) := by simp
    have e2 : p ++ (ks.flatMap (itT ns f) ++ itT ns f c) ++ r = (p ++ ks.flatMap (itT ns f)) ++ itT ns f c ++ r := by simp
    have q1 := ih1 (fun k hk' => hk k (by simp [hk'])) p (itT ns f c ++ r) st (fun k hk' => hst k (by simp [hk'])) aa I
    have q2 := hA c n b (hk c (by simp)) hn h2 (p ++ ks.flatMap (itT ns f)) r st (hst c (by simp)) aa (I ++ ks)
    rw [e1, q1, ← e1, e2, show p.length + (ks.flatMap (itT ns f)).length = (p ++ ks.flatMap (itT ns f)).length from by simp, q2]
    simp [Nat.add_assoc]
/-- A row of an alternative. -/
def RR (ns : List Nd) (f : Nat) : Prop := ∀ (c : Nat) (n : Nd) (e : Nat), c < f → ns[c]? = some n → Forest ns e c n.l → ∀ (p r : List Nat) (st : List (List Nat × List Nat)) (aa : List Nat), st.length + dA ns f c ≤ 64 →
  ∃ N1 I1, run (p ++ alT ns f c ++ r) ⟨p.length, (ns.map cN).take e, st, aa, []⟩ = run (p ++ alT ns f c ++ r) ⟨p.length + (alT ns f c).length, N1, st, aa, I1⟩ ∧ mkRow N1 I1 = ((ns.map cN).take (c + 1), c)
theorem alts (f : Nat) (hR : RR ns f) {a b : Nat} {ks : List Nat} (h : Forest ns a b ks) : (∀ k ∈ ks, k < f) → ks ≠ [] → ∀ (p r : List Nat) (st : List (List Nat × List Nat)), (∀ k ∈ ks, st.length + dA ns f k ≤ 64) →
    ∃ N1 I1 init last, ks = init ++ [last] ∧ run (p ++ alsT ns f ks ++ r) ⟨p.length, (ns.map cN).take a, st, [], []⟩ = run (p ++ alsT ns f ks ++ r) ⟨p.length + (alsT ns f ks).length, N1, st, init, I1⟩ ∧ mkRow N1 I1 = ((ns.map cN).take b, last) := by
  induction h with
  | nil a => intro _ h; exact absurd rfl h
  | @snoc a b c ks n h1 hn h2 ih1 ih2 =>
    intro hk _ p r st hst
    have es := alsT_snoc (ns := ns) f ks c
    by_cases h0 : ks = []
    · subst h0
      have hab := forest_nil h1
      subst hab
      have e1 : alsT ns f ([] ++ [c]) = alT ns f c := by rw [es]; simp [alsT, kidsT_zero]
      rw [e1]
      obtain ⟨N1, I1, q1, q2⟩ := hR c n a (hk c (by simp)) hn h2 p r st [] (hst c (by simp))
      exact ⟨N1, I1, [], c, rfl, q1, q2⟩
    · have hl : 0 < ks.length := by cases ks; exact absurd rfl h0; simp
      rw [if_pos hl] at es
      rw [es]
      obtain ⟨N1, I1, init, last, hks, q1, q2⟩ := ih1 (fun k hk' => hk k (by simp [hk'])) h0 p ([124] ++ alT ns f c ++ r) st (fun k hk' => hst k (by simp [hk']))
      have e1 : p ++ (alsT ns f ks ++ ([124] ++ alT ns f c)) ++ r = p ++ alsT ns f ks ++ ([124] ++ alT ns f c ++ r) := by simp
      have e2 : p ++ (alsT ns f ks ++ ([124] ++ alT ns f c)) ++ r = (p ++ alsT ns f ks) ++ [124] ++ (alT ns f c ++ r) := by simp
      have e3 : p ++ (alsT ns f ks ++ ([124] ++ alT ns f c)) ++ r = (p ++ alsT ns f ks ++ [124]) ++ alT ns f c ++ r := by simp
      have l1 : p.length + (alsT ns f ks).length = (p ++ alsT ns f ks).length := by simp
      have l2 : (p ++ alsT ns f ks).length + 1 = (p ++ alsT ns f ks ++ [124]).length := by rw [List.length_append (bs := [124])]; rfl
      obtain ⟨N2, I2, q3, q4⟩ := hR c n b (hk c (by simp)) hn h2 (p ++ alsT ns f ks ++ [124]) r st ks (hst c (by simp))
      refine ⟨N2, I2, ks, c, rfl, ?_, q4⟩
      have hbar : run (p ++ (alsT ns f ks ++ ([124] ++ alT ns f c)) ++ r) ⟨p.length + (alsT ns f ks).length, N1, st, init, I1⟩ = run (p ++ (alsT ns f ks ++ ([124] ++ alT ns f c)) ++ r) ⟨p.length + (alsT ns f ks).length + 1, (mkRow N1 I1).1, st, init ++ [(mkRow N1 I1).2], []⟩ := by
        refine run_bar (by simp) ?_
        rw [l1, e2, at_mid0 _ _ _ (by simp)]
        rfl
      rw [e1, q1, ← e1, hbar, q2]
      simp only
      rw [← hks, l1, l2, e3, q3]
      congr 2
      simp
      omega
theorem body (hSh : Shp ns) (f : Nat) (hA : AA ns f) (hR : RR ns f) {c : Nat} {n : Nd} {e : Nat} (hn : ns[c]? = some n) (hF : Forest ns e c n.l) (hk : ∀ k ∈ n.l, k < f) (hop : n.op = 1 ∨ n.op = 3 ∨ n.op = 4) (p r : List Nat) (st : List (List Nat × List Nat)) (hst : st.length + dN ns (f + 1) n ≤ 64) :
    ∃ N1 a1 I1, run (p ++ nodeT ns (f + 1) n ++ r) ⟨p.length, (ns.map cN).take e, st, [], []⟩ = run (p ++ nodeT ns (f + 1) n ++ r) ⟨p.length + (nodeT ns (f + 1) n).length, N1, st, a1, I1⟩ ∧ close N1 a1 I1 = ((ns.map cN).take (c + 1), c) := by
  have hs := hSh n (List.mem_of_getElem? hn)
  have htk := take_succ hn
  have htl := take_len hn
  rcases shape_kind hs with ⟨o, hl⟩ | ⟨o, _⟩ | ⟨o, hl⟩ | ⟨o, hl⟩ | ⟨o, _⟩ | ⟨o, _⟩
  · have hT : nodeT ns (f + 1) n = [] := by rw [nodeT_succ]; unfold headT; simp [o]
    rw [hl] at hF
    have := forest_nil hF
    subst this
    rw [hT]
    refine ⟨(ns.map cN).take e, [], [], by simp, ?_⟩
    have hc : cN n = ndEmpty := by unfold cN; rw [if_pos o]
    rw [htk, hc]
    unfold close mkRow mkAlt
    simp [htl]
  · omega
  · have hT : nodeT ns (f + 1) n = n.l.flatMap (itT ns f) := by rw [nodeT_succ]; unfold headT; simp only [o]; rw [if_neg (by omega), if_neg (by omega), if_neg (by omega), if_pos trivial]; exact kids_cat f n (by omega)
    rw [hT]
    refine ⟨_, [], n.l, by have := rows f hA hF hk p r st (dN_cat o hst) [] []; simpa using this, ?_⟩
    have hc : cN n = ndCat n.l := by unfold cN; simp [o]
    unfold close
    rw [mk_cat hl, htk, hc, htl]
    rfl
  · have hT : nodeT ns (f + 1) n = alsT ns f n.l := by rw [nodeT_succ]; unfold headT; simp only [o]; rw [if_neg (by omega), if_neg (by omega), if_neg (by omega), if_neg (by omega), if_pos trivial]; exact kids_alt f n o
    rw [hT]
    obtain ⟨N1, I1, init, last, hks, q1, q2⟩ := alts f hR hF hk (fun e => by rw [e] at hl; simp at hl) p r st (dN_alt o hst)
    refine ⟨N1, init, I1, q1, ?_⟩
    have hc : cN n = ndAlt n.l := by unfold cN; simp [o]
    unfold close
    rw [q2]
    simp only
    rw [← hks, mk_alt hl, htk, hc, htl]
  · omega
  · omega
theorem stepA (hSh : Shp ns) (f : Nat) (hA : AA ns f) (hR : RR ns f) : AA ns (f + 1) := by
  intro c n e hc hn hF p r st hst
  have hs := hSh n (List.mem_of_getElem? hn)
  have htk := take_succ hn
  have htl := take_len hn
  have hgd := getD_of hn
  have hk : ∀ k ∈ n.l, k < f := fun k hk => by have := (forest_mem hF k hk).2; omega
  have wrapped : encB n.op 3 = true → (n.op = 1 ∨ n.op = 3 ∨ n.op = 4) → Rd (p ++ itT ns (f + 1) c ++ r) p.length (p.length + (itT ns (f + 1) c).length) ((ns.map cN).take e) ((ns.map cN).take (c + 1)) [c] st := by
    intro he ho aa I
    have hT : itT ns (f + 1) c = 40 :: (nodeT ns (f + 1) n ++ [41]) := by unfold itT wrapT; rw [hgd, he, if_pos rfl]
    rw [hT]
    have hd1 : dI ns (f + 1) c = 1 + dN ns (f + 1) n := by unfold dI wr; rw [hgd, he, if_pos rfl]
    rw [hd1] at hst
    have e1 : p ++ (40 :: (nodeT ns (f + 1) n ++ [41])) ++ r = p ++ [40] ++ (nodeT ns (f + 1) n ++ [41] ++ r) := by simp
    have e2 : p ++ (40 :: (nodeT ns (f + 1) n ++ [41])) ++ r = (p ++ [40]) ++ nodeT ns (f + 1) n ++ ([41] ++ r) := by simp
    have e3 : p ++ (40 :: (nodeT ns (f + 1) n ++ [41])) ++ r = (p ++ [40] ++ nodeT ns (f + 1) n) ++ [41] ++ r := by simp
    have l1 : p.length + 1 = (p ++ [40]).length := by simp
    have l2 : (p ++ [40]).length + (nodeT ns (f + 1) n).length = (p ++ [40] ++ nodeT ns (f + 1) n).length := by rw [List.length_append (bs := nodeT ns (f + 1) n)]
    have a40 : at_ (p ++ (40 :: (nodeT ns (f + 1) n ++ [41])) ++ r) p.length = 40 := by rw [e1, at_mid0 _ _ _ (by simp)]; rfl
    have hlen : p.length < (p ++ (40 :: (nodeT ns (f + 1) n ++ [41])) ++ r).length := by simp
    have hrp : repAt (p ++ (40 :: (nodeT ns (f + 1) n ++ [41])) ++ r) p.length = false := by
      unfold repAt
      simp only [is_of hlen, a40]
      rfl
    obtain ⟨N1, a1, I1, q1, q2⟩ := body hSh f hA hR hn hF hk ho (p ++ [40]) ([41] ++ r) ((aa, I) :: st) (by simp; omega)
    rw [run_open hlen (.inr hrp) a40 (by omega), l1, e2, q1, ← e2, l2]
    rw [run_shut (by rw [e3]; simp) (by rw [e3, at_mid0 _ _ _ (by simp)]; rfl), q2]
    have l3 : (p ++ [40] ++ nodeT ns (f + 1) n).length + 1 = p.length + (40 :: (nodeT ns (f + 1) n ++ [41])).length := by simp; omega
    rw [l3]
  rcases shape_kind hs with ⟨o, hl⟩ | ⟨o, hl, hse⟩ | ⟨o, hl⟩ | ⟨o, hl⟩ | ⟨o, ⟨k, hl⟩, b0, b1, b2⟩ | ⟨o, hl, hnm⟩
  · exact wrapped (by rw [o]; rfl) (.inl o)
  · intro aa I
    have hT : itT ns (f + 1) c = setT n.s := by unfold itT wrapT; rw [hgd, enc_item (by omega), nodeT_succ]; unfold headT; simp [o]
    rw [hT]
    obtain ⟨m1, m2, m40, m41, m124, m42, m43, m63, m123⟩ := set_mid p r hse
    have ha := at_mid0 p (setT n.s) r m2
    have hlen : p.length < (p ++ setT n.s ++ r).length := by simp; omega
    have hrp : repAt (p ++ setT n.s ++ r) p.length = false := by unfold repAt; simp only [is_of hlen, ha]; simp [m42, m43, m63, m123]
    rw [hl] at hF
    have := forest_nil hF
    subst this
    have hcc : cN n = ndBytes (qS n.s) := by unfold cN; simp [o]
    rw [run_it hlen (by rw [ha]; exact m124) (by rw [ha]; exact m41) hrp (by rw [ha]; exact m40) m1, htl, htk, hcc]
  · exact wrapped (by rw [o]; rfl) (.inr (.inl o))
  · exact wrapped (by rw [o]; rfl) (.inr (.inr o))
  · intro aa I
    have hT : itT ns (f + 1) c = itT ns f k ++ timesT n.lo n.hi := by
      have h1 : itT ns (f + 1) c = nodeT ns (f + 1) n := by unfold itT wrapT; rw [hgd, enc_item (by omega)]; simp
      rw [h1, nodeT_succ]
      unfold headT
      simp only [o]
      rw [if_neg (by omega), if_neg (by omega), if_pos trivial, kids_cat f n (by omega), hl]
      simp
    rw [hT]
    rw [hl] at hF
    have hck := hF.last
    have hkf : k < f := hk k (by rw [hl]; simp)
    obtain ⟨nk, ek, hnk, hFk⟩ := forest_kids hF k (forest_mem hF k (by simp)).1 (by omega)
    have hee : ek = e := by
      have q := Forest.snoc (Forest.nil ek) hnk hFk
      rw [← hck] at q
      exact Forest.start q e hF
    subst hee
    have e1 : p ++ (itT ns f k ++ timesT n.lo n.hi) ++ r = p ++ itT ns f k ++ (timesT n.lo n.hi ++ r) := by simp
    have e2 : p ++ (itT ns f k ++ timesT n.lo n.hi) ++ r = (p ++ itT ns f k) ++ timesT n.lo n.hi ++ r := by simp
    have l1 : p.length + (itT ns f k).length = (p ++ itT ns f k).length := by simp
    obtain ⟨t1, t2, t3⟩ := bounds_mid (p ++ itT ns f k) r b0 b1 b2
    have q1 := hA k nk ek hkf hnk hFk p (timesT n.lo n.hi ++ r) st (dI_rep hgd o hl hst) aa I
    rw [e1, q1, ← e1, e2, l1]
    rw [run_repet (by have := rep_lt t1; exact this) t1, t2]
    simp only
    have hcc : cN n = ndRep k n.lo n.hi := by unfold cN; simp [o, hl]
    have hkl : ((ns.map cN).take (k + 1)).length = c := by rw [← hck]; exact htl
    rw [hkl, ← hck, htk, hcc]
    congr 2
    simp
    omega
  · intro aa I
    have hT : itT ns (f + 1) c = 123 :: (n.name ++ [125]) := by unfold itT wrapT; rw [hgd, enc_item (by omega), nodeT_succ]; unfold headT; simp [o]
    rw [hT]
    have m1 := name_mid p r hnm
    have ha := at_mid0 p (123 :: (n.name ++ [125])) r (by simp)
    have ha' : at_ (p ++ (123 :: (n.name ++ [125])) ++ r) p.length = 123 := ha
    have hlen : p.length < (p ++ (123 :: (n.name ++ [125])) ++ r).length := by simp
    obtain ⟨hch, hn0, hnd⟩ := name_chars hnm
    have hd : dig (p ++ (123 :: (n.name ++ [125])) ++ r) (p.length + 1) = false := by
      unfold dig
      have e9 : (p ++ [123]).length = p.length + 1 := by simp
      have h9 := at_mid (p ++ [123]) n.name ([125] ++ r) (i := 0) hn0
      rw [Nat.add_zero, e9, show p ++ [123] ++ n.name ++ ([125] ++ r) = p ++ (123 :: (n.name ++ [125])) ++ r from by simp] at h9
      rw [h9, hnd, Bool.and_false]
    have hrp : repAt (p ++ (123 :: (n.name ++ [125])) ++ r) p.length = false := by unfold repAt; simp only [is_of hlen, ha', hd]; rfl
    rw [hl] at hF
    have := forest_nil hF
    subst this
    have hcc : cN n = ndRef n.name := by unfold cN; simp [o]
    rw [run_it hlen (by rw [ha']; decide) (by rw [ha']; decide) hrp (by rw [ha']; decide) m1, htl, htk, hcc]
theorem stepR (hSh : Shp ns) (f : Nat) (hA : AA ns f) (hA1 : AA ns (f + 1)) : RR ns (f + 1) := by
  intro c n e hc hn hF p r st aa hst
  have hs := hSh n (List.mem_of_getElem? hn)
  have htk := take_succ hn
  have htl := take_len hn
  have hgd := getD_of hn
  have hk : ∀ k ∈ n.l, k < f := fun k hk => by have := (forest_mem hF k hk).2; omega
  by_cases o1 : n.op = 1
  · have hl : n.l = [] := by rcases shape_kind hs with h | h | h | h | h | h <;> first | exact h.2 | omega
    have hT : alT ns (f + 1) c = [] := by unfold alT wrapT; rw [hgd, o1, nodeT_succ]; unfold headT; simp [o1, encB]
    rw [hl] at hF
    have := forest_nil hF
    subst this
    rw [hT]
    have hcc : cN n = ndEmpty := by unfold cN; rw [if_pos o1]
    exact ⟨(ns.map cN).take e, [], by simp, by rw [htk, hcc]; unfold mkRow; simp [htl]⟩
  · by_cases o3 : n.op = 3
    · have hl : 2 ≤ n.l.length := by rcases shape_kind hs with h | h | h | h | h | h <;> first | omega | exact h.2
      have hT : alT ns (f + 1) c = n.l.flatMap (itT ns f) := by
        unfold alT wrapT
        rw [hgd, o3, nodeT_succ]
        unfold headT
        simp only [o3]
        rw [if_neg (by decide), if_neg (by omega), if_neg (by omega), if_neg (by omega), if_pos trivial]
        exact kids_cat f n (by omega)
      rw [hT]
      have hcc : cN n = ndCat n.l := by unfold cN; simp [o3]
      exact ⟨_, n.l, by have := rows f hA hF hk p r st (dA_cat hgd o3 hst) aa []; simpa using this, by rw [mk_cat hl, htk, hcc, htl]⟩
    · have hT : alT ns (f + 1) c = itT ns (f + 1) c := by
        unfold alT itT
        rw [hgd]
        congr 1
        unfold encB
        simp [o1, o3]
      rw [hT]
      have hst : st.length + dI ns (f + 1) c ≤ 64 := by
        have e : dA ns (f + 1) c = dI ns (f + 1) c := by
          unfold dA dI wr encB
          rw [hgd]
          simp [o1, o3]
        rw [← e]
        exact hst
      exact ⟨_, [c], by have := hA1 c n e hc hn hF p r st hst aa []; simpa using this, rfl⟩
theorem allA (hSh : Shp ns) : ∀ f, AA ns f ∧ RR ns f
  | 0 => ⟨fun c n e h => absurd h (Nat.not_lt_zero c), fun c n e h => absurd h (Nat.not_lt_zero c)⟩
  | f + 1 => by
    have ih := allA hSh f
    have h1 := stepA hSh f ih.1 ih.2
    exact ⟨h1, stepR hSh f ih.1 h1⟩
theorem parse_deep (hSh : Shp ns) (hp : 1 ≤ ns.length) (hl : ns.length ≤ 1024) (hF : Forest ns 0 ns.length [ns.length - 1]) (h40 : dN ns ns.length (ns.getD (ns.length - 1) nd0) ≤ 64) (hlen : (treeT ns).length ≤ 1024) : parse (treeT ns) = .ok (ns.map cN) := by
  obtain ⟨c, hc⟩ : ∃ c, ns.length = c + 1 := ⟨ns.length - 1, by omega⟩
  obtain ⟨n, e, hn, hFk⟩ := forest_kids hF c (Nat.zero_le _) (by omega)
  have hee : e = 0 := by
    have q := Forest.snoc (Forest.nil e) hn hFk
    rw [hc] at hF
    exact Forest.start q 0 (by simpa using hF)
  subst hee
  have hgd := getD_of hn
  have hT : treeT ns = nodeT ns (c + 1) n := by unfold treeT; rw [hc]; simp only [Nat.add_sub_cancel]; rw [hgd]
  have hs := hSh n (List.mem_of_getElem? hn)
  have hfull : (ns.map cN).take (c + 1) = ns.map cN := by rw [← hc, List.take_of_length_le (by simp)]
  have hrun : run (treeT ns) start = .ok (ns.map cN) := by
    rw [hc] at h40
    simp only [Nat.add_sub_cancel] at h40
    rw [hgd] at h40
    rw [hT]
    have hk : ∀ k ∈ n.l, k < c := fun k hk => (forest_mem hFk k hk).2
    by_cases ho : n.op = 1 ∨ n.op = 3 ∨ n.op = 4
    · obtain ⟨N1, a1, I1, q1, q2⟩ := body hSh c (allA hSh c).1 (allA hSh c).2 hn hFk hk ho [] [] [] (by simpa using h40)
      simp only [List.nil_append, List.append_nil, List.length_nil, Nat.zero_add, List.take_zero] at q1
      unfold start
      rw [q1, run_done rfl, q2, hfull]
    · have hI : itT ns (c + 1) c = nodeT ns (c + 1) n := by unfold itT wrapT; rw [hgd, enc_item (by omega)]; simp
      have q1 := (allA hSh (c + 1)).1 c n 0 (by omega) hn hFk [] [] [] (by unfold dI wr; rw [hgd, enc_item (by omega)]; simpa using h40) [] []
      rw [hI] at q1
      simp only [List.nil_append, List.append_nil, List.length_nil, Nat.zero_add, List.take_zero] at q1
      unfold start
      rw [q1, run_done rfl, hfull]
      rfl
  unfold parse
  rw [if_neg (by omega), hrun]
  simp only
  rw [if_neg (by simp; omega)]
end
end Go.Proofs.YtghjkbjpdjlddaaGreatDoor.Sy.Pn.Dp

/- What is read of a text is no deeper in parentheses than the text may be. Plain lists. -/
import Derived.Test.YtghjkbjpdjlddaaGreatDoorDr
namespace Go.Proofs.YtghjkbjpdjlddaaGreatDoor.Sy.Pn.Dp
set_option maxRecDepth 100000
set_option linter.unusedVariables false

def KL (N : List Nd) : Prop := ∀ i, ∀ j ∈ (N.getD i nd0).l, j < i
def dn (N : List Nd) (k : Nat) : Nat := dN N (k + 1) (N.getD k nd0)
theorem dn_stab {N : List Nd} (h : KL N) : ∀ (k f : Nat), k < f → dN N f (N.getD k nd0) = dn N k := by
  intro k
  induction k using Nat.strongRecOn with
  | _ k ih =>
    intro f hf
    match f, hf with
    | f + 1, hf =>
      unfold dn
      rw [dN_succ, dN_succ]
      refine lub_congr fun j hj => ?_
      have hjk := h k j hj
      rw [ih j hjk f (by omega), ih j hjk k hjk]
theorem dn_eq {N : List Nd} (h : KL N) (k : Nat) : dn N k = lub (fun j => wr (N.getD j nd0).op (N.getD k nd0).op + dn N j) (N.getD k nd0).l := by
  unfold dn
  rw [dN_succ]
  refine lub_congr fun j hj => ?_
  rw [dn_stab h j k (h k j hj)]
  rfl
theorem app_old {N : List Nd} {n : Nd} {k : Nat} (h : k < N.length) : (N ++ [n]).getD k nd0 = N.getD k nd0 := by
  rw [List.getD_eq_getElem?_getD, List.getD_eq_getElem?_getD, List.getElem?_append_left h]
theorem app_new (N : List Nd) (n : Nd) : (N ++ [n]).getD N.length nd0 = n := by
  rw [List.getD_eq_getElem?_getD, List.getElem?_append_right (Nat.le_refl _)]
  simp
theorem KL.put {N : List Nd} {n : Nd} (h : KL N) (hn : ∀ j ∈ n.l, j < N.length) : KL (N ++ [n]) := by
  intro i j hj
  rcases Nat.lt_trichotomy i N.length with q | q | q
  · rw [app_old q] at hj
    exact h i j hj
  · subst q
    rw [app_new] at hj
    exact hn j hj
  · have : (N ++ [n]).getD i nd0 = nd0 := by rw [List.getD_eq_getElem?_getD, List.getElem?_eq_none (by simp; omega)]; rfl
    rw [this] at hj
    cases hj
theorem dn_app {N : List Nd} {n : Nd} (h : KL N) (h' : KL (N ++ [n])) : ∀ k, k < N.length → dn (N ++ [n]) k = dn N k := by
  intro k
  induction k using Nat.strongRecOn with
  | _ k ih =>
    intro hk
    rw [dn_eq h', dn_eq h, app_old hk]
    refine lub_congr fun j hj => ?_
    have hjk := h k j hj
    rw [ih j hjk (by omega), app_old (by omega)]
/-- A node that stands where p is the parent's kind, d parentheses open. -/
def OK (d p : Nat) (N : List Nd) (k : Nat) : Prop := k < N.length ∧ wr (N.getD k nd0).op p + dn N k + d ≤ 64
def OKd (d : Nat) (N : List Nd) (k : Nat) : Prop := k < N.length ∧ dn N k + d ≤ 64
theorem OK.put {d p k : Nat} {N : List Nd} {n : Nd} (h : KL N) (h' : KL (N ++ [n])) (o : OK d p N k) : OK d p (N ++ [n]) k := by
  refine ⟨by have := o.1; simp; omega, ?_⟩
  rw [app_old o.1, dn_app h h' k o.1]
  exact o.2
theorem dn_new {N : List Nd} {n : Nd} (h : KL N) (hn : ∀ j ∈ n.l, j < N.length) : dn (N ++ [n]) N.length = lub (fun j => wr (N.getD j nd0).op n.op + dn N j) n.l := by
  have h' := h.put hn
  rw [dn_eq h', app_new]
  refine lub_congr fun j hj => ?_
  rw [app_old (hn j hj), dn_app h h' j (hn j hj)]
theorem OKd.new {d : Nat} {N : List Nd} {n : Nd} (h : KL N) (hk : ∀ j ∈ n.l, OK d n.op N j) (hd : d ≤ 64) : OKd d (N ++ [n]) N.length := by
  refine ⟨by simp, ?_⟩
  rw [dn_new h (fun j hj => (hk j hj).1)]
  have : lub (fun j => wr (N.getD j nd0).op n.op + dn N j) n.l ≤ 64 - d := lub_le.2 (fun j hj => by have := (hk j hj).2; omega)
  omega
theorem OK.of {d p : Nat} {N : List Nd} {n : Nd} (h : OKd d (N ++ [n]) N.length) (hp : wr n.op p = 0) : OK d p (N ++ [n]) N.length := by
  refine ⟨h.1, ?_⟩
  rw [app_new, hp]
  have := h.2
  omega
theorem wr_le (k : Nat) : wr k 4 ≤ wr k 3 := by
  unfold wr encB
  by_cases h : k = 4
  · simp [h]
  · simp [h]
theorem wr_one (k p : Nat) : wr k p ≤ 1 := by unfold wr; split <;> omega
theorem OK.alt {d k : Nat} {N : List Nd} (h : OK d 3 N k) : OK d 4 N k := ⟨h.1, by have := h.2; have := wr_le (N.getD k nd0).op; omega⟩
theorem OK.d {d p k : Nat} {N : List Nd} (h : OK d p N k) : OKd d N k := ⟨h.1, by have := h.2; omega⟩
theorem OKd.up {d k : Nat} {N : List Nd} (h : OKd (d + 1) N k) : OK d 3 N k := ⟨h.1, by have := h.2; have := wr_one (N.getD k nd0).op 3; omega⟩
def Keep (N N' : List Nd) : Prop := ∀ d p k, OK d p N k → OK d p N' k
theorem mkRow_deep {N : List Nd} {is : List Nat} {d : Nat} (h : KL N) (hd : d ≤ 64) (hi : ∀ k ∈ is, OK d 3 N k) : KL (mkRow N is).1 ∧ OK d 4 (mkRow N is).1 (mkRow N is).2 ∧ Keep N (mkRow N is).1 := by
  unfold mkRow
  split
  · have h' := h.put (n := ndEmpty) (fun j hj => by cases hj)
    exact ⟨h', OK.of (OKd.new h (fun j hj => by cases hj) hd) rfl, fun _ _ _ o => o.put h h'⟩
  · exact ⟨h, (hi _ (by simp)).alt, fun _ _ _ o => o⟩
  · have h' := h.put (n := ndCat is) (fun j hj => (hi j hj).1)
    exact ⟨h', OK.of (OKd.new (n := ndCat is) h (fun j hj => hi j hj) hd) rfl, fun _ _ _ o => o.put h h'⟩
theorem mkAlt_deep {N : List Nd} {as' : List Nat} {d : Nat} (h : KL N) (hd : d ≤ 64) (hne : as' ≠ []) (hi : ∀ k ∈ as', OK d 4 N k) : KL (mkAlt N as').1 ∧ OKd d (mkAlt N as').1 (mkAlt N as').2 ∧ Keep N (mkAlt N as').1 := by
  unfold mkAlt
  split
  · exact absurd rfl hne
  · exact ⟨h, (hi _ (by simp)).d, fun _ _ _ o => o⟩
  · have h' := h.put (n := ndAlt as') (fun j hj => (hi j hj).1)
    exact ⟨h', OKd.new (n := ndAlt as') h (fun j hj => hi j hj) hd, fun _ _ _ o => o.put h h'⟩
theorem close_deep {N : List Nd} {as' is : List Nat} {d : Nat} (h : KL N) (hd : d ≤ 64) (ha : ∀ k ∈ as', OK d 4 N k) (hi : ∀ k ∈ is, OK d 3 N k) : KL (close N as' is).1 ∧ OKd d (close N as' is).1 (close N as' is).2 ∧ Keep N (close N as' is).1 := by
  obtain ⟨h1, h2, h3⟩ := mkRow_deep h hd hi
  obtain ⟨h4, h5, h6⟩ := mkAlt_deep (as' := as' ++ [(mkRow N is).2]) h1 hd (by simp) (fun k hk => by
    rcases List.mem_append.1 hk with q | q
    · exact h3 _ _ _ (ha k q)
    · rw [List.mem_singleton] at q
      rw [q]
      exact h2)
  exact ⟨h4, h5, fun d p k o => h6 _ _ _ (h3 _ _ _ o)⟩
def Lv (N : List Nd) : List (List Nat × List Nat) → Prop
  | [] => True
  | f :: r => (∀ k ∈ f.1, OK r.length 4 N k) ∧ (∀ k ∈ f.2, OK r.length 3 N k) ∧ Lv N r
theorem Lv.keep {N N' : List Nd} (h : Keep N N') : ∀ {st : List (List Nat × List Nat)}, Lv N st → Lv N' st
  | [], _ => trivial
  | f :: r, hl => ⟨fun k hk => h _ _ _ (hl.1 k hk), fun k hk => h _ _ _ (hl.2.1 k hk), Lv.keep h hl.2.2⟩
structure DD (σ : St) : Prop where
  kl : KL σ.ns
  lv : Lv σ.ns σ.st
  dd : σ.st.length ≤ 64
  al : ∀ k ∈ σ.as, OK σ.st.length 4 σ.ns k
  it : ∀ k ∈ σ.is, OK σ.st.length 3 σ.ns k
theorem deep_start : DD start := ⟨fun i j hj => (by cases hj), trivial, Nat.zero_le _, fun k hk => (by cases hk), fun k hk => (by cases hk)⟩
theorem deep_item {σ : St} {n : Nd} (h : DD σ) (hl : n.l = []) (hw : wr n.op 3 = 0) (j : Nat) : DD (item σ n j) := by
  have h' := h.kl.put (n := n) (fun j hj => by rw [hl] at hj; cases hj)
  have hk : Keep σ.ns (σ.ns ++ [n]) := fun _ _ _ o => o.put h.kl h'
  refine ⟨h', h.lv.keep hk, h.dd, fun k q => hk _ _ _ (h.al k q), fun k q => ?_⟩
  rcases List.mem_append.1 q with q | q
  · exact hk _ _ _ (h.it k q)
  · rw [List.mem_singleton] at q
    rw [q]
    exact OK.of (OKd.new h.kl (fun j hj => by rw [hl] at hj; cases hj) h.dd) hw
theorem deep_rep {σ : St} {lo hi : Int} (h : DD σ) (hne : σ.is ≠ []) (j : Nat) : DD (rep σ lo hi j) := by
  have hlast : σ.is.getLastD 0 ∈ σ.is := by
    rw [List.getLastD_eq_getLast?, List.getLast?_eq_some_getLast hne]
    exact List.getLast_mem hne
  have hkid : ∀ j ∈ (ndRep (σ.is.getLastD 0) lo hi).l, OK σ.st.length (ndRep (σ.is.getLastD 0) lo hi).op σ.ns j := fun j hj => by
    have : j = σ.is.getLastD 0 := by simpa [ndRep] using hj
    rw [this]
    exact h.it _ hlast
  have h' := h.kl.put (n := ndRep (σ.is.getLastD 0) lo hi) (fun j hj => (hkid j hj).1)
  have hk : Keep σ.ns (σ.ns ++ [ndRep (σ.is.getLastD 0) lo hi]) := fun _ _ _ o => o.put h.kl h'
  refine ⟨h', h.lv.keep hk, h.dd, fun k q => hk _ _ _ (h.al k q), fun k q => ?_⟩
  rcases List.mem_append.1 q with q | q
  · exact hk _ _ _ (h.it k (List.dropLast_subset _ q))
  · rw [List.mem_singleton] at q
    rw [q]
    exact OK.of (OKd.new h.kl hkid h.dd) rfl
section
variable {s : List Nat}
theorem deep_atom {σ σ' : St} (hD : DD σ) (h : atom s σ = .ok σ') : DD σ' := by
  unfold atom at h
  simp only at h
  split at h
  · split at h
    · cases h
    · rename_i h64
      cases h
      exact ⟨hD.kl, ⟨hD.al, hD.it, hD.lv⟩, by simp; omega, fun k hk => (by cases hk), fun k hk => (by cases hk)⟩
  · split at h
    · split at h
      · cases h
      · cases h
        exact deep_item hD rfl rfl _
    · split at h
      · cases h
        exact deep_item hD rfl rfl _
      · split at h
        · split at h
          · cases h
          · cases h
            exact deep_item hD rfl rfl _
        · split at h
          · cases h
          · split at h
            · cases h
            · split at h
              · cases h
              · cases h
                exact deep_item hD rfl rfl _
theorem deep_step {σ σ' : St} (hD : DD σ) (h : step s σ = .ok σ') : DD σ' := by
  unfold step at h
  simp only at h
  split at h
  · cases h
    obtain ⟨h1, h2, h3⟩ := mkRow_deep hD.kl hD.dd hD.it
    refine ⟨h1, hD.lv.keep h3, hD.dd, fun k hk => ?_, fun k hk => (by cases hk)⟩
    rcases List.mem_append.1 hk with q | q
    · exact h3 _ _ _ (hD.al k q)
    · rw [List.mem_singleton] at q
      rw [q]
      exact h2
  · split at h
    · split at h
      · cases h
      · rename_i as' is' st hst
        cases h
        obtain ⟨h1, h2, h3⟩ := close_deep hD.kl hD.dd hD.al hD.it
        have hlv := hD.lv
        have hdd := hD.dd
        rw [hst] at hlv h2 hdd
        rw [List.length_cons] at h2 hdd
        refine ⟨h1, hlv.2.2.keep h3, Nat.le_of_succ_le hdd, fun k hk => h3 _ _ _ (hlv.1 k hk), fun k hk => ?_⟩
        rcases List.mem_append.1 hk with q | q
        · exact h3 _ _ _ (hlv.2.1 k q)
        · rw [List.mem_singleton] at q
          rw [q]
          exact h2.up
    · split at h
      · rename_i h1
        cases h
        exact deep_rep hD h1.1 _
      · split at h
        · rename_i h1
          cases h
          exact deep_rep hD h1.1 _
        · split at h
          · rename_i h1
            cases h
            exact deep_rep hD h1.1 _
          · split at h
            · rename_i h1
              split at h
              · cases h
              · cases h
                exact deep_rep hD h1.1 _
            · exact deep_atom hD h
theorem runF_deep (hb : ∀ c ∈ s, c < 256) : ∀ (f : Nat) (σ : St) (ns : List Nd), Inv σ → DD σ → runF s f σ = .ok ns → dN ns ns.length (ns.getD (ns.length - 1) nd0) ≤ 64
  | 0, _, _, _, _, h => by cases h
  | f + 1, σ, ns, hI, hD, h => by
    rw [runF_succ] at h
    split at h
    · split at h
      · cases h
      · rename_i h1
        exact runF_deep hb f _ ns (step_inv hb hI h1) (deep_step hD h1) h
    · unfold fin at h
      split at h
      · rename_i hst
        cases h
        have hf := hI.frs
        unfold roots at hf
        rw [hst] at hf
        obtain ⟨h1, h2⟩ := close_inv (pre := []) hI.shp hf
        have e := Forest.last (k := (close σ.ns σ.as σ.is).2) h2
        obtain ⟨k1, k2, k3⟩ := close_deep hD.kl hD.dd hD.al hD.it
        have := k2.2
        unfold dn at this
        rw [show (close σ.ns σ.as σ.is).1.length - 1 = (close σ.ns σ.as σ.is).2 from by omega, e]
        omega
      · cases h
theorem parse_shallow (hb : ∀ c ∈ s, c < 256) {ns : List Nd} (h : parse s = .ok ns) : dN ns ns.length (ns.getD (ns.length - 1) nd0) ≤ 64 := by
  unfold parse at h
  split at h
  · cases h
  · split at h
    · cases h
    · rename_i ms hm
      split at h
      · cases h
      · cases h
        exact runF_deep hb _ _ _ inv_start deep_start hm
end
end Go.Proofs.YtghjkbjpdjlddaaGreatDoor.Sy.Pn.Dp

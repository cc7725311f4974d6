/- Trees that take no less on another text; a folded tree and other cases. -/
import Derived.Test.YtcgondjekpcpgaaDoorPM3
namespace Go.Proofs.YtcgondjekpcpgaaDoor.Sy.Lg.En
open Go.RowKit
set_option maxRecDepth 100000
set_option linter.unusedVariables false

theorem powR_mono {R R' : Rel} (h : ∀ i j, R i j → R' i j) : ∀ (t i j : Nat), powR R t i j → powR R' t i j
  | 0, i, j, q => q
  | t + 1, i, j, ⟨m, q1, q2⟩ => ⟨m, powR_mono h t i m q1, h m j q2⟩
theorem chainR_mono {R R' : Nat → Rel} : ∀ {l : List Nat}, (∀ k ∈ l, ∀ i j, R k i j → R' k i j) → ∀ i j, chainR R l i j → chainR R' l i j
  | [], _, i, j, q => q
  | k :: ks, h, i, j, ⟨m, q1, q2⟩ => ⟨m, h k (by simp) i m q1, chainR_mono (fun x hx => h x (by simp [hx])) m j q2⟩
theorem repR_mono {R R' : Rel} (h : ∀ i j, R i j → R' i j) (lo hi : Int) (i j : Nat) : repR R lo hi i j → repR R' lo hi i j := fun ⟨t, q1, q2, q3⟩ => ⟨t, q1, q2, powR_mono h t i j q3⟩
/-- The same tree but for its sets, on a text of the same length. -/
theorem Mt_mono {ns ms : List Nd} {t u : List Nat} (hl : Low ns) (hm : Low ms) (hlen : t.length = u.length)
    (h : ∀ (k : Nat) (n : Nd), ns[k]? = some n → ∃ n', ms[k]? = some n' ∧ n'.op = n.op ∧ n'.l = n.l ∧ n'.lo = n.lo ∧ n'.hi = n.hi ∧ ∀ i, i < t.length → n.s (t.getD i 0) = true → n'.s (u.getD i 0) = true) :
    ∀ (k : Nat), k < ns.length → ∀ i j, Mt ns t k i j → Mt ms u k i j := by
  intro k
  induction k using Nat.strongRecOn with
  | ind k ih =>
    intro hk i j
    have hn : ns[k]? = some ns[k] := List.getElem?_eq_getElem hk
    obtain ⟨n', h1, h2, h3, h4, h5, h6⟩ := h k _ hn
    rw [Mt_eq hm u k h1, Mt_eq hl t k hn]
    have hlow := hl k _ hn
    generalize ns[k] = n at *
    have hkid : ∀ c ∈ n.l, ∀ i j, Mt ns t c i j → Mt ms u c i j := fun c hc i j => ih c (hlow.2 c hc) (by have := hlow.2 c hc; omega) i j
    unfold node1
    rw [h2, h3, h4, h5]
    split
    · rintro ⟨q1, q2, q3⟩
      exact ⟨by omega, h6 i q1 q2, q3⟩
    · split
      · exact chainR_mono hkid i j
      · split
        · rintro ⟨c, hc, q⟩
          exact ⟨c, hc, hkid c hc i j q⟩
        · split
          · rename_i q5
            refine repR_mono (hkid _ ?_) _ _ i j
            cases hl2 : n.l with
            | nil => exact absurd hl2 (hlow.1 q5)
            | cons z r => simp
          · exact id
/-- The same byte, but for its case. -/
def CaseR (c d : Nat) : Prop := c = d ∨ (65 ≤ c ∧ c ≤ 90 ∧ d = c + 32) ∨ (97 ≤ c ∧ c ≤ 122 ∧ c = d + 32)
theorem CaseR.symm {c d : Nat} (h : CaseR c d) : CaseR d c := by
  unfold CaseR at h ⊢
  omega
theorem fold_case {p : Nat → Bool} {c d : Nat} (h : CaseR c d) (hp : p c = true) : foldK 123 p d = true := by
  rw [fold_iff]
  rcases h with rfl | ⟨h1, h2, rfl⟩ | ⟨h1, h2, h3⟩
  · exact .inl (.inl hp)
  · exact .inl (.inr ⟨by omega, by rw [Nat.add_sub_cancel]; exact hp⟩)
  · exact .inr ⟨by omega, by rw [← h3]; exact hp⟩
theorem fold_case2 {p : Nat → Bool} {c d : Nat} (h : CaseR c d) (hp : foldK 123 p c = true) : foldK 123 p d = true := by
  have := fold_case (p := foldK 123 p) h hp
  rw [fold_fold] at this
  exact this
/-- A folded tree takes a text just if it takes it with other cases. -/
theorem Mt_case {ns : List Nd} {t u : List Nat} (hl : Low (foldL ns)) (hlen : t.length = u.length) (h : ∀ i, i < t.length → CaseR (t.getD i 0) (u.getD i 0)) (k : Nat) (hk : k < ns.length) (i j : Nat) : Mt (foldL ns) t k i j ↔ Mt (foldL ns) u k i j := by
  have key : ∀ (t u : List Nat), t.length = u.length → (∀ i, i < t.length → CaseR (t.getD i 0) (u.getD i 0)) → Mt (foldL ns) t k i j → Mt (foldL ns) u k i j := fun t u hlen h => by
    refine Mt_mono hl hl hlen (fun k n hn => ⟨n, hn, rfl, rfl, rfl, rfl, fun x hx q => ?_⟩) k (by unfold foldL; rw [List.length_map]; exact hk) i j
    unfold foldL at hn
    rw [List.getElem?_map] at hn
    cases hm : ns[k]? with
    | none => rw [hm] at hn; cases hn
    | some m =>
      rw [hm] at hn
      obtain rfl := Option.some.inj hn
      exact fold_case2 (h x hx) q
  exact ⟨key t u hlen h, key u t hlen.symm (fun x hx => (h x (by omega)).symm)⟩
/-- What a tree takes, the folded one takes with other cases. -/
theorem Mt_fold {ns : List Nd} {t u : List Nat} (hl : Low ns) (hf : Low (foldL ns)) (hlen : t.length = u.length) (h : ∀ i, i < t.length → CaseR (t.getD i 0) (u.getD i 0)) (k : Nat) (hk : k < ns.length) (i j : Nat) : Mt ns t k i j → Mt (foldL ns) u k i j := by
  refine Mt_mono hl hf hlen (fun k n hn => ⟨foldN n, by unfold foldL; rw [List.getElem?_map, hn]; rfl, rfl, rfl, rfl, rfl, fun x hx q => ?_⟩) k hk i j
  exact fold_case (h x hx) q
end Go.Proofs.YtcgondjekpcpgaaDoor.Sy.Lg.En

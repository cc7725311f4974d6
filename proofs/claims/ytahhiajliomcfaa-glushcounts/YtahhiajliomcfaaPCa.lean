/- Where trees end in texts, by plain relations (chapter 7). -/
import Derived.Test.YtahhiajliomcfaaPM3
namespace Go.Proofs.Ytahhiajliomcfaa.Sy.Lg
open Go.RowKit
set_option linter.unusedVariables false

abbrev Rel := Nat → Nat → Prop
/-- One behind the other. -/
def chainR (R : Nat → Rel) : List Nat → Rel
  | [], i, j => i = j
  | k :: ks, i, j => ∃ m, R k i m ∧ chainR R ks m j
/-- So many times, each from where the one ahead ended. -/
def powR (R : Rel) : Nat → Rel
  | 0, i, j => i = j
  | t + 1, i, j => ∃ m, powR R t i m ∧ R m j
def repR (R : Rel) (lo hi : Int) : Rel := fun i j => ∃ t : Nat, lo ≤ (t : Int) ∧ (hi < 0 ∨ (t : Int) ≤ hi) ∧ powR R t i j
def node1 (w : List Nat) (n : Nd) (R : Nat → Rel) : Rel := fun i j =>
  if n.op = 2 then i < w.length ∧ n.s (w.getD i 0) = true ∧ j = i + 1
  else if n.op = 3 then chainR R n.l i j
  else if n.op = 4 then ∃ k ∈ n.l, R k i j
  else if n.op = 5 then repR (R (n.l.getD 0 0)) n.lo n.hi i j
  else i = j
def mtF (ns : List Nd) (w : List Nat) : Nat → Nat → Rel
  | 0, _ => fun _ _ => False
  | f + 1, k => node1 w (ns.getD k nd0') (mtF ns w f)
where nd0' : Nd := ⟨0, noS, [], 0, 0, []⟩
/-- Node k may end at j, from i on. -/
def Mt (ns : List Nd) (w : List Nat) (k : Nat) : Rel := mtF ns w (k + 1) k

theorem chainR_congr {R R' : Nat → Rel} : ∀ {l : List Nat}, (∀ k ∈ l, ∀ i j, R k i j ↔ R' k i j) → ∀ i j, chainR R l i j ↔ chainR R' l i j
  | [], _, i, j => Iff.rfl
  | k :: ks, h, i, j => by
    unfold chainR
    constructor
    · rintro ⟨m, h1, h2⟩
      exact ⟨m, (h k (by simp) i m).1 h1, (chainR_congr (fun x hx => h x (by simp [hx])) m j).1 h2⟩
    · rintro ⟨m, h1, h2⟩
      exact ⟨m, (h k (by simp) i m).2 h1, (chainR_congr (fun x hx => h x (by simp [hx])) m j).2 h2⟩
theorem powR_congr {R R' : Rel} (h : ∀ i j, R i j ↔ R' i j) : ∀ (t i j : Nat), powR R t i j ↔ powR R' t i j
  | 0, i, j => Iff.rfl
  | t + 1, i, j => by
    unfold powR
    constructor
    · rintro ⟨m, h1, h2⟩
      exact ⟨m, (powR_congr h t i m).1 h1, (h m j).1 h2⟩
    · rintro ⟨m, h1, h2⟩
      exact ⟨m, (powR_congr h t i m).2 h1, (h m j).2 h2⟩
theorem repR_congr {R R' : Rel} (h : ∀ i j, R i j ↔ R' i j) (lo hi : Int) (i j : Nat) : repR R lo hi i j ↔ repR R' lo hi i j := by
  unfold repR
  constructor
  · rintro ⟨t, h1, h2, h3⟩
    exact ⟨t, h1, h2, (powR_congr h t i j).1 h3⟩
  · rintro ⟨t, h1, h2, h3⟩
    exact ⟨t, h1, h2, (powR_congr h t i j).2 h3⟩
/-- Only what is said of the kids counts. -/
theorem node1_congr {w : List Nat} {n : Nd} {R R' : Nat → Rel} (h5 : n.op = 5 → n.l ≠ []) (h : ∀ k ∈ n.l, ∀ i j, R k i j ↔ R' k i j) (i j : Nat) : node1 w n R i j ↔ node1 w n R' i j := by
  unfold node1
  split
  · exact Iff.rfl
  · split
    · exact chainR_congr h i j
    · split
      · constructor
        · rintro ⟨k, hk, q⟩
          exact ⟨k, hk, (h k hk i j).1 q⟩
        · rintro ⟨k, hk, q⟩
          exact ⟨k, hk, (h k hk i j).2 q⟩
      · split
        · rename_i q5
          have hm : n.l.getD 0 0 ∈ n.l := by
            cases hl : n.l with
            | nil => exact absurd hl (h5 q5)
            | cons z t => simp
          exact repR_congr (h _ hm) _ _ i j
        · exact Iff.rfl
/-- Kids lie ahead of their parents. -/
def Low (ns : List Nd) : Prop := ∀ (i : Nat) (n : Nd), ns[i]? = some n → (n.op = 5 → n.l ≠ []) ∧ ∀ k ∈ n.l, k < i
theorem getD_or (ns : List Nd) (k : Nat) : (∃ n, ns[k]? = some n ∧ ns.getD k mtF.nd0' = n) ∨ ns.getD k mtF.nd0' = mtF.nd0' := by
  rw [List.getD_eq_getElem?_getD]
  cases h : ns[k]? with
  | none => exact .inr rfl
  | some n => exact .inl ⟨n, rfl, rfl⟩
theorem low_kids {ns : List Nd} (h : Low ns) (k : Nat) : ((ns.getD k mtF.nd0').op = 5 → (ns.getD k mtF.nd0').l ≠ []) ∧ ∀ c ∈ (ns.getD k mtF.nd0').l, c < k := by
  rcases getD_or ns k with ⟨n, h1, h2⟩ | h2
  · rw [h2]; exact h k n h1
  · rw [h2]; exact ⟨(fun q => by cases q), fun c hc => by cases hc⟩
theorem mtF_fuel {ns : List Nd} (hl : Low ns) (w : List Nat) : ∀ (k f : Nat), k < f → ∀ i j, mtF ns w f k i j ↔ Mt ns w k i j := by
  intro k
  induction k using Nat.strongRecOn with
  | ind k ih =>
    intro f hf i j
    obtain ⟨f', rfl⟩ : ∃ f', f = f' + 1 := ⟨f - 1, by omega⟩
    unfold Mt mtF
    have h := low_kids hl k
    refine node1_congr h.1 (fun c hc i j => ?_) i j
    have hck := h.2 c hc
    rw [ih c hck f' (by omega), ih c hck k hck]
/-- What a node means, by its kids. -/
theorem Mt_eq {ns : List Nd} (hl : Low ns) (w : List Nat) (k : Nat) {n : Nd} (hn : ns[k]? = some n) (i j : Nat) : Mt ns w k i j ↔ node1 w n (Mt ns w) i j := by
  have h := low_kids hl k
  have e : ns.getD k mtF.nd0' = n := by rw [List.getD_eq_getElem?_getD, hn]; rfl
  rw [e] at h
  show node1 w (ns.getD k mtF.nd0') (mtF ns w k) i j ↔ _
  rw [e]
  exact node1_congr h.1 (fun c hc i j => mtF_fuel hl w c k (h.2 c hc) i j) i j
/-! ### A tree within others -/
/-- Where the nodes of another list lie at d on, with their kids so much further. -/
theorem Mt_shift {ns ms : List Nd} (hl : Low ns) (hm : Low ms) (w : List Nat) (d : Nat) (hs : ∀ (k : Nat) (n : Nd), ms[k]? = some n → ∃ n', ns[k + d]? = some n' ∧ n'.op = n.op ∧ n'.s = n.s ∧ n'.lo = n.lo ∧ n'.hi = n.hi ∧ n'.l = n.l.map (fun c => c + d)) :
    ∀ (k : Nat), k < ms.length → ∀ i j, Mt ns w (k + d) i j ↔ Mt ms w k i j := by
  intro k
  induction k using Nat.strongRecOn with
  | ind k ih =>
    intro hk i j
    have hn : ms[k]? = some ms[k] := List.getElem?_eq_getElem hk
    obtain ⟨n', h1, h2, h3, h4, h5, h6⟩ := hs k _ hn
    rw [Mt_eq hl w (k + d) h1, Mt_eq hm w k hn]
    have hlow := hm k _ hn
    generalize ms[k] = n at *
    have hkid : ∀ c ∈ n.l, ∀ i j, Mt ns w (c + d) i j ↔ Mt ms w c i j := fun c hc i j => ih c (hlow.2 c hc) (by have := hlow.2 c hc; omega) i j
    unfold node1
    rw [h2, h3, h4, h5, h6]
    split
    · exact Iff.rfl
    · split
      · have hch : ∀ (l : List Nat), (∀ c ∈ l, c ∈ n.l) → ∀ i j, chainR (Mt ns w) (l.map fun c => c + d) i j ↔ chainR (Mt ms w) l i j := by
          intro l
          induction l with
          | nil => intro _ i j; exact Iff.rfl
          | cons x r ihr =>
            intro hx i j
            show (∃ m, Mt ns w (x + d) i m ∧ chainR (Mt ns w) (r.map fun c => c + d) m j) ↔ ∃ m, Mt ms w x i m ∧ chainR (Mt ms w) r m j
            constructor
            · rintro ⟨m, q1, q2⟩
              exact ⟨m, (hkid x (hx x (by simp)) i m).1 q1, (ihr (fun c hc => hx c (by simp [hc])) m j).1 q2⟩
            · rintro ⟨m, q1, q2⟩
              exact ⟨m, (hkid x (hx x (by simp)) i m).2 q1, (ihr (fun c hc => hx c (by simp [hc])) m j).2 q2⟩
        exact hch n.l (fun c hc => hc) i j
      · split
        · constructor
          · rintro ⟨c, hc, q⟩
            obtain ⟨c', hc', rfl⟩ := List.mem_map.1 hc
            exact ⟨c', hc', (hkid c' hc' i j).1 q⟩
          · rintro ⟨c, hc, q⟩
            exact ⟨c + d, List.mem_map.2 ⟨c, hc, rfl⟩, (hkid c hc i j).2 q⟩
        · split
          · rename_i q5
            cases hl2 : n.l with
            | nil => exact absurd hl2 (hlow.1 q5)
            | cons z t =>
              show repR (Mt ns w (z + d)) _ _ i j ↔ repR (Mt ms w z) _ _ i j
              exact repR_congr (hkid z (by rw [hl2]; simp)) _ _ i j
          · exact Iff.rfl
/-- Nodes behind change nothing. -/
theorem Mt_more {ns ms : List Nd} (hl : Low (ms ++ ns)) (hm : Low ms) (w : List Nat) (k : Nat) (hk : k < ms.length) (i j : Nat) : Mt (ms ++ ns) w k i j ↔ Mt ms w k i j := by
  refine Mt_shift hl hm w 0 (fun k n hn => ⟨n, ?_, rfl, rfl, rfl, rfl, ?_⟩) k hk i j
  · rw [Nat.add_zero, List.getElem?_append_left (List.getElem?_eq_some_iff.1 hn).1]; exact hn
  · simp
/-! ### Where they end -/
/-! ### From some places on -/
/-- Where R may end from some of X. -/
def img (R : Rel) (X : Nat → Prop) : Nat → Prop := fun j => ∃ i, X i ∧ R i j
theorem img_congr {R : Rel} {X Y : Nat → Prop} (h : ∀ i, X i ↔ Y i) (j : Nat) : img R X j ↔ img R Y j := by
  constructor
  · rintro ⟨i, hi, q⟩; exact ⟨i, (h i).1 hi, q⟩
  · rintro ⟨i, hi, q⟩; exact ⟨i, (h i).2 hi, q⟩
/-- Up to so many times. -/
def upR (R : Rel) (t : Nat) : Rel := fun i j => ∃ s, s ≤ t ∧ powR R s i j
theorem img_up_zero (R : Rel) (X : Nat → Prop) (j : Nat) : img (upR R 0) X j ↔ X j := by
  constructor
  · rintro ⟨i, hi, s, hs, q⟩
    have : s = 0 := by omega
    subst this
    cases q
    exact hi
  · intro h; exact ⟨j, h, 0, Nat.le_refl _, rfl⟩
theorem img_up (R : Rel) (X : Nat → Prop) (t j : Nat) : img (upR R (t + 1)) X j ↔ X j ∨ img R (img (upR R t) X) j := by
  constructor
  · rintro ⟨i, hi, s, hs, q⟩
    cases s with
    | zero => cases q; exact .inl hi
    | succ s =>
      obtain ⟨m, q1, q2⟩ := q
      exact .inr ⟨m, ⟨i, hi, s, by omega, q1⟩, q2⟩
  · rintro (h | ⟨m, ⟨i, hi, s, hs, q1⟩, q2⟩)
    · exact ⟨j, h, 0, Nat.zero_le _, rfl⟩
    · exact ⟨i, hi, s + 1, by omega, m, q1, q2⟩
theorem img_up_more {R : Rel} {X : Nat → Prop} {t : Nat} {j : Nat} (h : img (upR R t) X j) : img (upR R (t + 1)) X j := by
  obtain ⟨i, hi, s, hs, q⟩ := h
  exact ⟨i, hi, s, by omega, q⟩
theorem img_up_start {R : Rel} {X : Nat → Prop} {t : Nat} {j : Nat} (h : X j) : img (upR R t) X j := ⟨j, h, 0, Nat.zero_le _, rfl⟩
/-- Where one time more finds nothing new no more times do. -/
theorem img_up_same {R : Rel} {X : Nat → Prop} {t : Nat} (h : ∀ j, img R (img (upR R t) X) j → img (upR R t) X j) : ∀ s j, img (upR R (t + s)) X j ↔ img (upR R t) X j := by
  intro s
  induction s with
  | zero => intro j; exact Iff.rfl
  | succ s ih =>
    intro j
    rw [show t + (s + 1) = (t + s) + 1 from rfl, img_up]
    constructor
    · rintro (q | q)
      · exact img_up_start q
      · exact h j ((img_congr ih j).1 q)
    · intro q
      rcases t with _ | t
      · rw [img_up_zero] at q; exact .inl q
      · rw [img_up] at q
        rcases q with q | q
        · exact .inl q
        · refine .inr ((img_congr ih j).2 ?_)
          obtain ⟨m, q1, q2⟩ := q
          exact ⟨m, img_up_more q1, q2⟩
/-- All that is found, when what is fresh goes on alone. -/
structure Fresh (R : Rel) (X : Nat → Prop) (t : Nat) (all fresh : Nat → Prop) : Prop where
  all_ : ∀ j, all j ↔ img (upR R t) X j
  sub : ∀ j, fresh j → all j
  old : ∀ j, img R all j → all j ∨ img R fresh j
theorem Fresh.start (R : Rel) (X : Nat → Prop) : Fresh R X 0 X X := ⟨fun j => (img_up_zero R X j).symm, fun j h => h, fun j h => .inr h⟩
theorem Fresh.next {R : Rel} {X all fresh all' fresh' : Nat → Prop} {t : Nat} (h : Fresh R X t all fresh) (hf : ∀ j, fresh' j ↔ img R fresh j ∧ ¬ all j) (ha : ∀ j, all' j ↔ all j ∨ fresh' j) : Fresh R X (t + 1) all' fresh' := by
  have key : ∀ j, all' j ↔ all j ∨ img R fresh j := by
    intro j
    rw [ha, hf]
    by_cases q : all j <;> simp [q]
  refine ⟨fun j => ?_, fun j q => (ha j).2 (.inr q), fun j q => ?_⟩
  · rw [img_up, key]
    constructor
    · rintro (q | ⟨i, q1, q2⟩)
      · have := (h.all_ j).1 q
        rcases t with _ | t
        · rw [img_up_zero] at this; exact .inl this
        · rw [img_up] at this
          rcases this with q | ⟨m, q1, q2⟩
          · exact .inl q
          · exact .inr ⟨m, img_up_more q1, q2⟩
      · exact .inr ⟨i, (h.all_ i).1 (h.sub i q1), q2⟩
    · rintro (q | q)
      · exact .inl ((h.all_ j).2 (img_up_start q))
      · exact h.old j ((img_congr h.all_ j).2 q)
  · obtain ⟨i, q1, q2⟩ := q
    rcases (ha i).1 q1 with q | q
    · exact .inl ((key j).2 (h.old j ⟨i, q, q2⟩))
    · exact .inr ⟨i, q, q2⟩
theorem Fresh.none {R : Rel} {X all fresh : Nat → Prop} {t : Nat} (h : Fresh R X t all fresh) (hn : ∀ j, img R fresh j → all j) : ∀ s j, img (upR R (t + s)) X j ↔ all j := by
  intro s j
  rw [h.all_]
  refine img_up_same (fun j q => ?_) s j
  rw [← h.all_]
  rcases h.old j ((img_congr h.all_ j).2 q) with r | r
  · exact r
  · exact hn j r
/-! ### A repetition: as often as it must be, and as often as it may be beside that -/
theorem powR_add (R : Rel) : ∀ (b a i j : Nat), powR R (a + b) i j ↔ ∃ m, powR R a i m ∧ powR R b m j
  | 0, a, i, j => by
    constructor
    · intro h; exact ⟨j, h, rfl⟩
    · rintro ⟨m, h, q⟩; cases q; exact h
  | b + 1, a, i, j => by
    show (∃ m, powR R (a + b) i m ∧ R m j) ↔ ∃ m, powR R a i m ∧ ∃ m', powR R b m m' ∧ R m' j
    constructor
    · rintro ⟨m, h1, h2⟩
      obtain ⟨x, h3, h4⟩ := (powR_add R b a i m).1 h1
      exact ⟨x, h3, m, h4, h2⟩
    · rintro ⟨x, h3, m, h4, h2⟩
      exact ⟨m, (powR_add R b a i m).2 ⟨x, h3, h4⟩, h2⟩
/-- How many of the places up to N there are. -/
def cnt (p : Nat → Bool) (N : Nat) : Nat := (List.range (N + 1)).countP p
end Go.Proofs.Ytahhiajliomcfaa.Sy.Lg

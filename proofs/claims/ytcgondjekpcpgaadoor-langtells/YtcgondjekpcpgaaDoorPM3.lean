/- Where trees end in texts, by plain relations (chapter 7). -/
import Derived.Test.YtcgondjekpcpgaaDoorPAb
import Derived.Test.YtcgondjekpcpgaaDoorPM2
import Derived.Test.YtcgondjekpcpgaaDoorPVv
import Derived.Test.YtcgondjekpcpgaaDoorShelf
import Derived.Test.YtcgondjekpcpgaaDoorPM1
import Derived.Lib.IndexAny
import Derived.Lib.IndexLaws
import Derived.Lib.IndexBytes
import Derived.Lib.AtoiAll
import Derived.WalkLawsBesides
namespace Go.Proofs.YtcgondjekpcpgaaDoor.Sy.Lg
open Go.RowKit
set_option linter.unusedVariables false

abbrev Rel := Nat → Nat → Prop
/-- One behind the other. -/
def chainR (R : Nat → Rel) : List Nat → Rel
  | [], i, j => i = j
  | k :: ks, i, j => ∃ m, R k i m ∧ chainR R ks m j
/-- So many times, each from where the one ahead ended. -/
def powR (R : Rel) : Nat → Rel
  | 0, i, j => i = j
  | t + 1, i, j => ∃ m, powR R t i m ∧ R m j
def repR (R : Rel) (lo hi : Int) : Rel := fun i j => ∃ t : Nat, lo ≤ (t : Int) ∧ (hi < 0 ∨ (t : Int) ≤ hi) ∧ powR R t i j
def node1 (w : List Nat) (n : Nd) (R : Nat → Rel) : Rel := fun i j =>
  if n.op = 2 then i < w.length ∧ n.s (w.getD i 0) = true ∧ j = i + 1
  else if n.op = 3 then chainR R n.l i j
  else if n.op = 4 then ∃ k ∈ n.l, R k i j
  else if n.op = 5 then repR (R (n.l.getD 0 0)) n.lo n.hi i j
  else i = j
def mtF (ns : List Nd) (w : List Nat) : Nat → Nat → Rel
  | 0, _ => fun _ _ => False
  | f + 1, k => node1 w (ns.getD k nd0') (mtF ns w f)
where nd0' : Nd := ⟨0, noS, [], 0, 0, []⟩
/-- Node k may end at j, from i on. -/
def Mt (ns : List Nd) (w : List Nat) (k : Nat) : Rel := mtF ns w (k + 1) k

theorem chainR_congr {R R' : Nat → Rel} : ∀ {l : List Nat}, (∀ k ∈ l, ∀ i j, R k i j ↔ R' k i j) → ∀ i j, chainR R l i j ↔ chainR R' l i j
  | [], _, i, j => Iff.rfl
  | k :: ks, h, i, j => by
    unfold chainR
    constructor
    · rintro ⟨m, h1, h2⟩
      exact ⟨m, (h k (by simp) i m).1 h1, (chainR_congr (fun x hx => h x (by simp [hx])) m j).1 h2⟩
    · rintro ⟨m, h1, h2⟩
      exact ⟨m, (h k (by simp) i m).2 h1, (chainR_congr (fun x hx => h x (by simp [hx])) m j).2 h2⟩
theorem powR_congr {R R' : Rel} (h : ∀ i j, R i j ↔ R' i j) : ∀ (t i j : Nat), powR R t i j ↔ powR R' t i j
  | 0, i, j => Iff.rfl
  | t + 1, i, j => by
    unfold powR
    constructor
    · rintro ⟨m, h1, h2⟩
      exact ⟨m, (powR_congr h t i m).1 h1, (h m j).1 h2⟩
    · rintro ⟨m, h1, h2⟩
      exact ⟨m, (powR_congr h t i m).2 h1, (h m j).2 h2⟩
theorem repR_congr {R R' : Rel} (h : ∀ i j, R i j ↔ R' i j) (lo hi : Int) (i j : Nat) : repR R lo hi i j ↔ repR R' lo hi i j := by
  unfold repR
  constructor
  · rintro ⟨t, h1, h2, h3⟩
    exact ⟨t, h1, h2, (powR_congr h t i j).1 h3⟩
  · rintro ⟨t, h1, h2, h3⟩
    exact ⟨t, h1, h2, (powR_congr h t i j).2 h3⟩
/-- Only what is said of the kids counts. -/
theorem node1_congr {w : List Nat} {n : Nd} {R R' : Nat → Rel} (h5 : n.op = 5 → n.l ≠ []) (h : ∀ k ∈ n.l, ∀ i j, R k i j ↔ R' k i j) (i j : Nat) : node1 w n R i j ↔ node1 w n R' i j := by
  unfold node1
  split
  · exact Iff.rfl
  · split
    · exact chainR_congr h i j
    · split
      · constructor
        · rintro ⟨k, hk, q⟩
          exact ⟨k, hk, (h k hk i j).1 q⟩
        · rintro ⟨k, hk, q⟩
          exact ⟨k, hk, (h k hk i j).2 q⟩
      · split
        · rename_i q5
          have hm : n.l.getD 0 0 ∈ n.l := by
            cases hl : n.l with
            | nil => exact absurd hl (h5 q5)
            | cons z t => simp
          exact repR_congr (h _ hm) _ _ i j
        · exact Iff.rfl
/-- Kids lie ahead of their parents. -/
def Low (ns : List Nd) : Prop := ∀ (i : Nat) (n : Nd), ns[i]? = some n → (n.op = 5 → n.l ≠ []) ∧ ∀ k ∈ n.l, k < i
theorem getD_or (ns : List Nd) (k : Nat) : (∃ n, ns[k]? = some n ∧ ns.getD k mtF.nd0' = n) ∨ ns.getD k mtF.nd0' = mtF.nd0' := by
  rw [List.getD_eq_getElem?_getD]
  cases h : ns[k]? with
  | none => exact .inr rfl
  | some n => exact .inl ⟨n, rfl, rfl⟩
theorem low_kids {ns : List Nd} (h : Low ns) (k : Nat) : ((ns.getD k mtF.nd0').op = 5 → (ns.getD k mtF.nd0').l ≠ []) ∧ ∀ c ∈ (ns.getD k mtF.nd0').l, c < k := by
  rcases getD_or ns k with ⟨n, h1, h2⟩ | h2
  · rw [h2]; exact h k n h1
  · rw [h2]; exact ⟨(fun q => by cases q), fun c hc => by cases hc⟩
theorem mtF_fuel {ns : List Nd} (hl : Low ns) (w : List Nat) : ∀ (k f : Nat), k < f → ∀ i j, mtF ns w f k i j ↔ Mt ns w k i j := by
  intro k
  induction k using Nat.strongRecOn with
  | ind k ih =>
    intro f hf i j
    obtain ⟨f', rfl⟩ : ∃ f', f = f' + 1 := ⟨f - 1, by omega⟩
    unfold Mt mtF
    have h := low_kids hl k
    refine node1_congr h.1 (fun c hc i j => ?_) i j
    have hck := h.2 c hc
    rw [ih c hck f' (by omega), ih c hck k hck]
/-- What a node means, by its kids. -/
theorem Mt_eq {ns : List Nd} (hl : Low ns) (w : List Nat) (k : Nat) {n : Nd} (hn : ns[k]? = some n) (i j : Nat) : Mt ns w k i j ↔ node1 w n (Mt ns w) i j := by
  have h := low_kids hl k
  have e : ns.getD k mtF.nd0' = n := by rw [List.getD_eq_getElem?_getD, hn]; rfl
  rw [e] at h
  show node1 w (ns.getD k mtF.nd0') (mtF ns w k) i j ↔ _
  rw [e]
  exact node1_congr h.1 (fun c hc i j => mtF_fuel hl w c k (h.2 c hc) i j) i j
/-! ### A tree within others -/
/-! ### Where they end -/
theorem powR_ge {R : Rel} (h : ∀ i j, R i j → i ≤ j) : ∀ (t i j : Nat), powR R t i j → i ≤ j
  | 0, i, j, q => by cases q; exact Nat.le_refl _
  | t + 1, i, j, ⟨m, q1, q2⟩ => Nat.le_trans (powR_ge h t i m q1) (h m j q2)
theorem powR_le {R : Rel} {N : Nat} (h : ∀ i j, R i j → i ≤ N → j ≤ N) : ∀ (t i j : Nat), powR R t i j → i ≤ N → j ≤ N
  | 0, i, j, q, hi => by cases q; exact hi
  | t + 1, i, j, ⟨m, q1, q2⟩, hi => h m j q2 (powR_le h t i m q1 hi)
theorem Mt_in {ns : List Nd} (hl : Low ns) (w : List Nat) : ∀ (k i j : Nat), Mt ns w k i j → i ≤ j ∧ (i ≤ w.length → j ≤ w.length) := by
  intro k
  induction k using Nat.strongRecOn with
  | ind k ih =>
    intro i j h
    cases hn : ns[k]? with
    | none =>
      have e : ns.getD k mtF.nd0' = mtF.nd0' := by rw [List.getD_eq_getElem?_getD, hn]; rfl
      change node1 w (ns.getD k mtF.nd0') (mtF ns w k) i j at h
      rw [e] at h
      change i = j at h
      exact ⟨by omega, fun _ => by omega⟩
    | some n =>
      rw [Mt_eq hl w k hn] at h
      have hlow := hl k n hn
      unfold node1 at h
      split at h
      · obtain ⟨h1, -, rfl⟩ := h
        exact ⟨by omega, fun _ => by omega⟩
      · split at h
        · have hch : ∀ (l : List Nat), (∀ c ∈ l, c < k) → ∀ i j, chainR (Mt ns w) l i j → i ≤ j ∧ (i ≤ w.length → j ≤ w.length) := by
            intro l
            induction l with
            | nil => intro _ i j q; cases q; exact ⟨Nat.le_refl _, fun q => q⟩
            | cons x r ihr =>
              rintro hx i j ⟨m, q1, q2⟩
              have a1 := ih x (hx x (by simp)) i m q1
              have a2 := ihr (fun c hc => hx c (by simp [hc])) m j q2
              exact ⟨Nat.le_trans a1.1 a2.1, fun q => a2.2 (a1.2 q)⟩
          exact hch n.l hlow.2 i j h
        · split at h
          · obtain ⟨c, hc, q⟩ := h
            exact ih c (hlow.2 c hc) i j q
          · split at h
            · rename_i q5
              obtain ⟨t, _, _, q⟩ := h
              have hm : n.l.getD 0 0 < k := by
                cases hl2 : n.l with
                | nil => exact absurd hl2 (hlow.1 q5)
                | cons z t => exact hlow.2 z (by rw [hl2]; simp)
              exact ⟨powR_ge (fun i j r => (ih _ hm i j r).1) t i j q, powR_le (fun i j r => (ih _ hm i j r).2) t i j q⟩
            · cases h; exact ⟨Nat.le_refl _, fun q => q⟩
/-! ### From some places on -/
/-- Where R may end from some of X. -/
def img (R : Rel) (X : Nat → Prop) : Nat → Prop := fun j => ∃ i, X i ∧ R i j
theorem img_pow (R : Rel) (X : Nat → Prop) (t j : Nat) : img (powR R (t + 1)) X j ↔ img R (img (powR R t) X) j := by
  constructor
  · rintro ⟨i, hi, m, h1, h2⟩
    exact ⟨m, ⟨i, hi, h1⟩, h2⟩
  · rintro ⟨m, ⟨i, hi, h1⟩, h2⟩
    exact ⟨i, hi, m, h1, h2⟩
theorem img_zero (R : Rel) (X : Nat → Prop) (j : Nat) : img (powR R 0) X j ↔ X j := by
  constructor
  · rintro ⟨i, hi, q⟩; cases q; exact hi
  · intro h; exact ⟨j, h, rfl⟩
theorem img_congr {R : Rel} {X Y : Nat → Prop} (h : ∀ i, X i ↔ Y i) (j : Nat) : img R X j ↔ img R Y j := by
  constructor
  · rintro ⟨i, hi, q⟩; exact ⟨i, (h i).1 hi, q⟩
  · rintro ⟨i, hi, q⟩; exact ⟨i, (h i).2 hi, q⟩
/-- Where nothing new comes nothing new will. -/
theorem img_same {R : Rel} {X : Nat → Prop} {t : Nat} (h : ∀ j, img R (img (powR R t) X) j ↔ img (powR R t) X j) : ∀ s j, img (powR R (t + s)) X j ↔ img (powR R t) X j := by
  intro s
  induction s with
  | zero => intro j; exact Iff.rfl
  | succ s ih =>
    intro j
    rw [show t + (s + 1) = (t + s) + 1 from rfl, img_pow, img_congr ih, h]
/-- Up to so many times. -/
def upR (R : Rel) (t : Nat) : Rel := fun i j => ∃ s, s ≤ t ∧ powR R s i j
theorem img_up_zero (R : Rel) (X : Nat → Prop) (j : Nat) : img (upR R 0) X j ↔ X j := by
  constructor
  · rintro ⟨i, hi, s, hs, q⟩
    have : s = 0 := by omega
    subst this
    cases q
    exact hi
  · intro h; exact ⟨j, h, 0, Nat.le_refl _, rfl⟩
theorem img_up (R : Rel) (X : Nat → Prop) (t j : Nat) : img (upR R (t + 1)) X j ↔ X j ∨ img R (img (upR R t) X) j := by
  constructor
  · rintro ⟨i, hi, s, hs, q⟩
    cases s with
    | zero => cases q; exact .inl hi
    | succ s =>
      obtain ⟨m, q1, q2⟩ := q
      exact .inr ⟨m, ⟨i, hi, s, by omega, q1⟩, q2⟩
  · rintro (h | ⟨m, ⟨i, hi, s, hs, q1⟩, q2⟩)
    · exact ⟨j, h, 0, Nat.zero_le _, rfl⟩
    · exact ⟨i, hi, s + 1, by omega, m, q1, q2⟩
theorem img_up_more {R : Rel} {X : Nat → Prop} {t : Nat} {j : Nat} (h : img (upR R t) X j) : img (upR R (t + 1)) X j := by
  obtain ⟨i, hi, s, hs, q⟩ := h
  exact ⟨i, hi, s, by omega, q⟩
theorem img_up_start {R : Rel} {X : Nat → Prop} {t : Nat} {j : Nat} (h : X j) : img (upR R t) X j := ⟨j, h, 0, Nat.zero_le _, rfl⟩
/-- Where one time more finds nothing new no more times do. -/
theorem img_up_same {R : Rel} {X : Nat → Prop} {t : Nat} (h : ∀ j, img R (img (upR R t) X) j → img (upR R t) X j) : ∀ s j, img (upR R (t + s)) X j ↔ img (upR R t) X j := by
  intro s
  induction s with
  | zero => intro j; exact Iff.rfl
  | succ s ih =>
    intro j
    rw [show t + (s + 1) = (t + s) + 1 from rfl, img_up]
    constructor
    · rintro (q | q)
      · exact img_up_start q
      · exact h j ((img_congr ih j).1 q)
    · intro q
      rcases t with _ | t
      · rw [img_up_zero] at q; exact .inl q
      · rw [img_up] at q
        rcases q with q | q
        · exact .inl q
        · refine .inr ((img_congr ih j).2 ?_)
          obtain ⟨m, q1, q2⟩ := q
          exact ⟨m, img_up_more q1, q2⟩
/-- All that is found, when what is fresh goes on alone. -/
structure Fresh (R : Rel) (X : Nat → Prop) (t : Nat) (all fresh : Nat → Prop) : Prop where
  all_ : ∀ j, all j ↔ img (upR R t) X j
  sub : ∀ j, fresh j → all j
  old : ∀ j, img R all j → all j ∨ img R fresh j
theorem Fresh.start (R : Rel) (X : Nat → Prop) : Fresh R X 0 X X := ⟨fun j => (img_up_zero R X j).symm, fun j h => h, fun j h => .inr h⟩
theorem Fresh.next {R : Rel} {X all fresh all' fresh' : Nat → Prop} {t : Nat} (h : Fresh R X t all fresh) (hf : ∀ j, fresh' j ↔ img R fresh j ∧ ¬ all j) (ha : ∀ j, all' j ↔ all j ∨ fresh' j) : Fresh R X (t + 1) all' fresh' := by
  have key : ∀ j, all' j ↔ all j ∨ img R fresh j := by
    intro j
    rw [ha, hf]
    by_cases q : all j <;> simp [q]
  refine ⟨fun j => ?_, fun j q => (ha j).2 (.inr q), fun j q => ?_⟩
  · rw [img_up, key]
    constructor
    · rintro (q | ⟨i, q1, q2⟩)
      · have := (h.all_ j).1 q
        rcases t with _ | t
        · rw [img_up_zero] at this; exact .inl this
        · rw [img_up] at this
          rcases this with q | ⟨m, q1, q2⟩
          · exact .inl q
          · exact .inr ⟨m, img_up_more q1, q2⟩
      · exact .inr ⟨i, (h.all_ i).1 (h.sub i q1), q2⟩
    · rintro (q | q)
      · exact .inl ((h.all_ j).2 (img_up_start q))
      · exact h.old j ((img_congr h.all_ j).2 q)
  · obtain ⟨i, q1, q2⟩ := q
    rcases (ha i).1 q1 with q | q
    · exact .inl ((key j).2 (h.old j ⟨i, q, q2⟩))
    · exact .inr ⟨i, q, q2⟩
theorem Fresh.none {R : Rel} {X all fresh : Nat → Prop} {t : Nat} (h : Fresh R X t all fresh) (hn : ∀ j, img R fresh j → all j) : ∀ s j, img (upR R (t + s)) X j ↔ all j := by
  intro s j
  rw [h.all_]
  refine img_up_same (fun j q => ?_) s j
  rw [← h.all_]
  rcases h.old j ((img_congr h.all_ j).2 q) with r | r
  · exact r
  · exact hn j r
/-! ### A repetition: as often as it must be, and as often as it may be beside that -/
theorem powR_add (R : Rel) : ∀ (b a i j : Nat), powR R (a + b) i j ↔ ∃ m, powR R a i m ∧ powR R b m j
  | 0, a, i, j => by
    constructor
    · intro h; exact ⟨j, h, rfl⟩
    · rintro ⟨m, h, q⟩; cases q; exact h
  | b + 1, a, i, j => by
    show (∃ m, powR R (a + b) i m ∧ R m j) ↔ ∃ m, powR R a i m ∧ ∃ m', powR R b m m' ∧ R m' j
    constructor
    · rintro ⟨m, h1, h2⟩
      obtain ⟨x, h3, h4⟩ := (powR_add R b a i m).1 h1
      exact ⟨x, h3, m, h4, h2⟩
    · rintro ⟨x, h3, m, h4, h2⟩
      exact ⟨m, (powR_add R b a i m).2 ⟨x, h3, h4⟩, h2⟩
theorem img_rep {R : Rel} {X : Nat → Prop} {lo hi : Nat} (h : lo ≤ hi) (j : Nat) : img (repR R (lo : Int) (hi : Int)) X j ↔ img (upR R (hi - lo)) (img (powR R lo) X) j := by
  constructor
  · rintro ⟨i, hi', t, h1, h2, h3⟩
    have h4 : lo ≤ t := by omega
    have h5 : t ≤ hi := by omega
    rw [show t = lo + (t - lo) from by omega, powR_add] at h3
    obtain ⟨m, q1, q2⟩ := h3
    exact ⟨m, ⟨i, hi', q1⟩, t - lo, by omega, q2⟩
  · rintro ⟨m, ⟨i, hi', q1⟩, s, hs, q2⟩
    refine ⟨i, hi', lo + s, by omega, .inr (by omega), ?_⟩
    rw [powR_add]
    exact ⟨m, q1, q2⟩
theorem img_rep_end {R : Rel} {X : Nat → Prop} {lo : Nat} {hi : Int} (hn : hi < 0) (j : Nat) : img (repR R (lo : Int) hi) X j ↔ ∃ t, img (upR R t) (img (powR R lo) X) j := by
  constructor
  · rintro ⟨i, hi', t, h1, h2, h3⟩
    rw [show t = lo + (t - lo) from by omega, powR_add] at h3
    obtain ⟨m, q1, q2⟩ := h3
    exact ⟨t - lo, m, ⟨i, hi', q1⟩, t - lo, by omega, q2⟩
  · rintro ⟨t, m, ⟨i, hi', q1⟩, s, hs, q2⟩
    refine ⟨i, hi', lo + s, by omega, .inl hn, ?_⟩
    rw [powR_add]
    exact ⟨m, q1, q2⟩
/-- How many of the places up to N there are. -/
def cnt (p : Nat → Bool) (N : Nat) : Nat := (List.range (N + 1)).countP p
theorem cnt_le (p : Nat → Bool) (N : Nat) : cnt p N ≤ N + 1 := by
  unfold cnt
  have := List.countP_le_length (p := p) (l := List.range (N + 1))
  rw [List.length_range] at this
  exact this
theorem cnt_more {p q : Nat → Bool} {N : Nat} (h : ∀ i, p i = true → q i = true) {x : Nat} (hx : x ≤ N) (hp : p x = false) (hq : q x = true) : cnt p N < cnt q N := by
  unfold cnt
  have key : ∀ (l : List Nat), x ∈ l → l.countP p < l.countP q := by
    intro l
    induction l with
    | nil => intro h; cases h
    | cons y r ih =>
      intro hm
      have hle : ∀ (l : List Nat), l.countP p ≤ l.countP q := fun l => List.countP_mono_left (fun i _ h' => h i h')
      rw [List.countP_cons, List.countP_cons]
      rcases List.mem_cons.1 hm with e | hm
      · subst e
        rw [hp, hq]
        have := hle r
        simp
        omega
      · have := ih hm
        have hy : (if p y = true then 1 else 0) ≤ (if q y = true then 1 else 0) := by
          cases e : p y with
          | false => simp
          | true => rw [h y e]; simp
        omega
  exact key _ (List.mem_range.2 (by omega))
theorem cnt_full {p : Nat → Bool} {N : Nat} (h : N + 1 ≤ cnt p N) : ∀ i, i ≤ N → p i = true := by
  intro i hi
  cases e : p i with
  | true => rfl
  | false =>
    have h1 := cnt_more (p := p) (q := fun _ => true) (N := N) (fun _ _ => rfl) hi e rfl
    have h2 := cnt_le (fun _ => true) N
    omega
end Go.Proofs.YtcgondjekpcpgaaDoor.Sy.Lg

/- The landed parser in memory: a block of six cells; what only reads it, and what goes on by a byte. -/
namespace Go.Proofs.YtcgondjekpcpgaaDoor.Sy
open Go.RowKit

section
variable {w w' : World} {b : Nat} {s : ByteArray} {i er pl : Int} {v : Value} {d : Int}
end

section
variable {w : World} {b : Nat} {s : ByteArray} {er pl : Int} {v : Value} {d : Int}
end

end Go.Proofs.YtcgondjekpcpgaaDoor.Sy

/- The landed reader: what it sees, what it takes, a name, digits, an escape, a byte of a class. -/
namespace Go.Proofs.YtcgondjekpcpgaaDoor.Sy
open Go.RowKit

set_option maxHeartbeats 400000 in
theorem pdigit_any (c : Nat) (w : World) : Calls Tryd.prog 81 #[.int .u8 (c : Int)] w fun e w' => e = .returned (.bool (digitB c)) ∧ w' = w := by
  by_cases h1 : 48 ≤ c
  · have h1i : (48 : Int) ≤ (c : Int) := by omega
    by_cases h2 : c ≤ 57
    · have HV : Hid (digitB c = true) := by show _ = _; simp [digitB, h1, h2]
      have h2i : (c : Int) ≤ 57 := by omega
      go_enter Tryd.func81, Tryd.ntmps81
      go_wp2
      go_ret
      exact ⟨by rw [HV.out]; rfl, rfl⟩
    · have HV : Hid (digitB c = false) := by show _ = _; simp [digitB]; omega
      have h2i : ¬ (c : Int) ≤ 57 := by omega
      go_enter Tryd.func81, Tryd.ntmps81
      go_wp2
      go_ret
      exact ⟨by rw [HV.out]; rfl, rfl⟩
  · have HV : Hid (digitB c = false) := by show _ = _; simp [digitB]; omega
    have h1i : ¬ (48 : Int) ≤ (c : Int) := by omega
    go_enter Tryd.func81, Tryd.ntmps81
    go_wp2
    go_ret
    exact ⟨by rw [HV.out]; rfl, rfl⟩

section
variable {w : World} {b : Nat} {s : ByteArray} {er pl : Int} {v : Value} {d : Int}

end

end Go.Proofs.YtcgondjekpcpgaaDoor.Sy

/- The landed reader: digits, what stands up to a brace, an escape. -/
namespace Go.Proofs.YtcgondjekpcpgaaDoor.Sy
open Go.RowKit
set_option maxRecDepth 100000

/-- Where a parser is. -/
def atOf (w : World) (b : Nat) : Nat := match w.cell? ⟨b, 1, none⟩ with
  | some (.int _ k) => k.toNat
  | _ => 0
section
variable {w w' : World} {b : Nat} {s : ByteArray} {er pl : Int} {v : Value} {d : Int}
theorem ex_bs (s : ByteArray) (i j : Nat) : bs (s.extract i j) = cut (bs s) i j := by
  unfold bs cut
  rw [← List.map_drop, ← List.map_take]
  congr 1
  rw [ByteArray.data_extract, Array.toList_extract]

end

end Go.Proofs.YtcgondjekpcpgaaDoor.Sy

/- The landed reader: what stands up to a brace, two digits, an escape, a byte of a class. -/
namespace Go.Proofs.YtcgondjekpcpgaaDoor.Sy
open Go.RowKit
set_option maxRecDepth 100000

section
variable {w w' : World} {b : Nat} {s : ByteArray} {er pl : Int} {v : Value} {d : Int}

end

end Go.Proofs.YtcgondjekpcpgaaDoor.Sy

/- The landed reader: an escape, a byte of a class. -/
namespace Go.Proofs.YtcgondjekpcpgaaDoor.Sy
open Go.RowKit
set_option maxRecDepth 100000

section
variable {t : List Nat} {i : Nat}
end

section
variable {w w' : World} {b : Nat} {s : ByteArray} {er pl : Int} {v : Value} {d : Int}
end

end Go.Proofs.YtcgondjekpcpgaaDoor.Sy

/- The landed parser: a byte of a class, and two with what is between them. -/
namespace Go.Proofs.YtcgondjekpcpgaaDoor.Sy
open Go.RowKit
set_option maxRecDepth 100000

section
variable {t : List Nat}
end

section
variable {w w' : World} {b : Nat} {s : ByteArray} {er pl : Int} {v : Value} {d : Int}
end

end Go.Proofs.YtcgondjekpcpgaaDoor.Sy

/- The landed parser: a byte of a class, or two and what is between them. -/
namespace Go.Proofs.YtcgondjekpcpgaaDoor
open Go.RowKit
section
variable {w w' : World}
theorem Touch.fresh {g h : Nat} (a : Touch g h w w') {x : Addr} (hx : w.heap.size ≤ x.block) (u : Value) : Touch g h w (w'.setCell x u) :=
  ⟨a.os, a.tape, a.output, by simpa [World.setCell] using a.size, fun k hk h1 h2 => (Below.heap_setCell _ _ _ _ (by omega)).trans (a.block k hk h1 h2)⟩
theorem Touch.alloc {g h : Nat} (a : Touch g h w w') (o : Obj) : Touch g h w (w'.alloc o) := a.below ((Below.refl _ _).alloc (Nat.le_refl _) o)
end
end Go.Proofs.YtcgondjekpcpgaaDoor
namespace Go.Proofs.YtcgondjekpcpgaaDoor.Sy
open Go.RowKit
set_option maxRecDepth 100000

section
variable {w w' : World} {b : Nat} {s : ByteArray} {er pl : Int} {v : Value} {d : Int}

end

end Go.Proofs.YtcgondjekpcpgaaDoor.Sy

/- The landed parser: numbers of bounds. -/
namespace Go.Proofs.YtcgondjekpcpgaaDoor.Sy
open Go.RowKit
set_option maxRecDepth 100000

/-- A number of bounds by its digits, if it is one. -/
def numV (l : List Nat) : Option Nat := if 6 < l.length ∨ (l.getD 0 0 = 48 ∧ 1 < l.length) then none else some (value l)
/-- The same as the landed code tells it. -/
def numI (l : List Nat) : Int := match numV l with | some n => (n : Int) | none => 4097
/-- May something be repeated from lo to hi times? -/
def bndB (lo hi : Int) : Bool := decide (0 ≤ lo) && decide (lo ≤ 4096) && (hi == -1 || (decide (1 ≤ hi) && decide (lo ≤ hi) && decide (hi ≤ 4096)))
set_option maxHeartbeats 1000000 in
theorem arebnd_any (lo hi : Int) (w : World) : Calls Tryd.prog 71 #[.int .i64 lo, .int .i64 hi] w fun e w' => e = .returned (.bool (bndB lo hi)) ∧ w' = w := by
  by_cases h1 : lo < 0
  · skip
    have HV : Hid (bndB lo hi = false) := by show _ = _; unfold bndB; simp; omega
    go_enter Tryd.func71, Tryd.ntmps71
    go_wp2
    go_ret
    exact ⟨by rw [HV.out]; rfl, rfl⟩
  · by_cases h2 : 4096 < lo
    · have h2i : decide ((4096 : Int) < lo) = true := decide_eq_true h2
      have HV : Hid (bndB lo hi = false) := by show _ = _; unfold bndB; simp; omega
      go_enter Tryd.func71, Tryd.ntmps71
      go_wp2
      go_ret
      exact ⟨by rw [HV.out]; rfl, rfl⟩
    · have h2i : decide ((4096 : Int) < lo) = false := decide_eq_false h2
      by_cases h3 : hi = -1
      · subst h3
        have HV : Hid (bndB lo (-1) = true) := by show _ = _; unfold bndB; simp; omega
        go_enter Tryd.func71, Tryd.ntmps71
        go_wp2
        go_ret
        exact ⟨by rw [HV.out]; rfl, rfl⟩
      · have h3i : (hi == -1) = false := beq_eq_false_iff_ne.2 h3
        by_cases h4 : 1 ≤ hi
        · by_cases h5 : lo ≤ hi
          · by_cases h6 : hi ≤ 4096
            · have h6i : decide (hi ≤ 4096) = true := decide_eq_true h6
              have HV : Hid (bndB lo hi = true) := by show _ = _; unfold bndB; simp; omega
              go_enter Tryd.func71, Tryd.ntmps71
              go_wp2
              go_ret
              exact ⟨by rw [HV.out]; rfl, rfl⟩
            · have h6i : decide (hi ≤ 4096) = false := decide_eq_false h6
              have HV : Hid (bndB lo hi = false) := by show _ = _; unfold bndB; simp; omega
              go_enter Tryd.func71, Tryd.ntmps71
              go_wp2
              go_ret
              exact ⟨by rw [HV.out]; rfl, rfl⟩
          · skip
            have HV : Hid (bndB lo hi = false) := by show _ = _; unfold bndB; simp; omega
            go_enter Tryd.func71, Tryd.ntmps71
            go_wp2
            go_ret
            exact ⟨by rw [HV.out]; rfl, rfl⟩
        · skip
          have HV : Hid (bndB lo hi = false) := by show _ = _; unfold bndB; simp; omega
          go_enter Tryd.func71, Tryd.ntmps71
          go_wp2
          go_ret
          exact ⟨by rw [HV.out]; rfl, rfl⟩

end Go.Proofs.YtcgondjekpcpgaaDoor.Sy

/- The landed parser: bounds, and how often something is repeated. -/
namespace Go.Proofs.YtcgondjekpcpgaaDoor.Sy
open Go.RowKit
set_option maxRecDepth 100000

section
variable {t : List Nat}
/-- What stands behind the first number: P, and the greatest number as its digits m tell it (none: there are none). -/
structure HiP (t : List Nat) (i P : Nat) (l m : List Nat) : Prop where
  lo : loPart t i = numV l
  pl : (hiPart t (loPart t i) (loEnd t i)).2 = P
  hi : (hiPart t (loPart t i) (loEnd t i)).1 = if m = [] then none else some (numV m)
theorem HiP.no {i P : Nat} {l m : List Nat} (h : HiP t i P l m) (hP : P < t.length) (hn : at_ t P ≠ 125) : bounds t i = .error (41, P) := by
  unfold bounds; rw [h.pl, if_neg (by omega), if_pos hn]
theorem HiP.ok {i P : Nat} {l m : List Nat} (h : HiP t i P l m) (hP : P < t.length) (hn : at_ t P = 125) :
    bounds t i = if bndB (numI l) (if m = [] then -1 else numI m) = true then .ok ((numI l, if m = [] then -1 else numI m), P + 1) else .error (45, i) := by
  unfold bounds
  rw [h.pl, if_neg (by omega), if_neg (fun e => e hn), h.hi, h.lo]
  unfold numI bndB
  cases numV l with
  | none => simp [okBounds]
  | some a =>
    by_cases hm : m = []
    · simp only [hm, if_true]
      by_cases ha : a ≤ 4096
      · rw [show okBounds (some a) none = some ((a : Int), -1) from by simp [okBounds, ha]]
        simp
        omega
      · rw [show okBounds (some a) none = none from by simp [okBounds, ha]]
        simp
        omega
    · simp only [hm, if_false]
      cases numV m with
      | none => simp [okBounds]
      | some c =>
        by_cases ha : a ≤ 4096 ∧ c ≤ 4096 ∧ 1 ≤ c ∧ a ≤ c
        · rw [show okBounds (some a) (some (some c)) = some ((a : Int), (c : Int)) from by simp [okBounds, ha]]
          simp
          omega
        · rw [show okBounds (some a) (some (some c)) = none from by simp [okBounds, ha]]
          simp
          omega
end
end Go.Proofs.YtcgondjekpcpgaaDoor.Sy

/- The landed parser: bounds, and how often something is repeated. -/
namespace Go.Proofs.YtcgondjekpcpgaaDoor
end Go.Proofs.YtcgondjekpcpgaaDoor
namespace Go.Proofs.YtcgondjekpcpgaaDoor.Sy
open Go.RowKit
set_option maxRecDepth 100000

section
variable {w w' : World} {b : Nat} {s : ByteArray} {er pl : Int} {v : Value} {d : Int}
end
end Go.Proofs.YtcgondjekpcpgaaDoor.Sy

/- How a pattern is read, by chapter 4; what follows for the laws. Plain lists. -/
import Derived.WalkKit
/- How a pattern is read, by chapter 4: one byte, escape, class, name or bounds at a time, with a stack of open parentheses. Plain lists; nothing of the program. -/
namespace Go.Proofs.YtcidimjjclanmaaDoor.Sy

/-- A node: its kind, its set, its kids, its bounds, its name. -/
structure Nd where
  op : Nat
  s : Nat → Bool
  l : List Nat
  lo : Int
  hi : Int
  name : List Nat

def noS (_ : Nat) : Bool := false
def oneS (c x : Nat) : Bool := x == c
def rngS (lo hi x : Nat) : Bool := decide (lo ≤ x) && decide (x ≤ hi)
def dotS (x : Nat) : Bool := !(x == 10)
def uniS (p q : Nat → Bool) (x : Nat) : Bool := p x || q x
def negS (b : Bool) (p : Nat → Bool) (x : Nat) : Bool := if b then !p x else p x

def ndEmpty : Nd := ⟨1, noS, [], 0, 0, []⟩
def ndBytes (p : Nat → Bool) : Nd := ⟨2, p, [], 0, 0, []⟩
def ndCat (l : List Nat) : Nd := ⟨3, noS, l, 0, 0, []⟩
def ndAlt (l : List Nat) : Nd := ⟨4, noS, l, 0, 0, []⟩
def ndRep (k : Nat) (lo hi : Int) : Nd := ⟨5, noS, [k], lo, hi, []⟩
def ndRef (nm : List Nat) : Nd := ⟨6, noS, [], 0, 0, nm⟩

def letterB (c : Nat) : Bool := (decide (97 ≤ c) && decide (c ≤ 122)) || (decide (65 ≤ c) && decide (c ≤ 90)) || c == 95
def digitB (c : Nat) : Bool := decide (48 ≤ c) && decide (c ≤ 57)
/-- Is each byte from a place on one that a name may have there? -/
def nameAt : Nat → List Nat → Bool
  | _, [] => true
  | i, c :: r => (letterB c || (decide (0 < i) && digitB c)) && nameAt (i + 1) r
def nameB (l : List Nat) : Bool := decide (1 ≤ l.length) && decide (l.length ≤ 32) && nameAt 0 l
def specialB (c : Nat) : Bool := [124, 42, 43, 63, 123, 125, 40, 41, 91, 93, 46, 92, 47, 36, 94, 34].contains c
def hexV (c : Nat) : Option Nat := if digitB c then some (c - 48) else if 97 ≤ c ∧ c ≤ 102 then some (c - 97 + 10) else none

/-- What is wrong, and where. -/
abbrev Bad := Nat × Nat

section
variable (s : List Nat)
def at_ (i : Nat) : Nat := s.getD i 0
/-- Is there a byte at i, and is it c? -/
def is (i c : Nat) : Bool := decide (i < s.length) && at_ s i == c
def dig (i : Nat) : Bool := decide (i < s.length) && digitB (at_ s i)

/-- A byte, or an escape; behind it. -/
def one (i : Nat) : Except Bad (Nat × Nat) :=
  if at_ s i ≠ 92 then .ok (at_ s i, i + 1)
  else if s.length ≤ i + 1 then .error (40, s.length)
  else
    let d := at_ s (i + 1)
    if d = 110 then .ok (10, i + 2)
    else if d = 116 then .ok (9, i + 2)
    else if d = 114 then .ok (13, i + 2)
    else if d = 120 then
      if s.length ≤ i + 3 then .error (40, s.length)
      else match hexV (at_ s (i + 2)), hexV (at_ s (i + 3)) with
        | some x, some y => .ok (16 * x + y, i + 4)
        | _, _ => .error (43, i)
    else if specialB d || d == 45 then .ok (d, i + 2)
    else .error (43, i)

/-- A byte of a class. -/
def member (i : Nat) : Except Bad (Nat × Nat) :=
  if s.length ≤ i then .error (40, s.length)
  else if at_ s i = 93 ∨ at_ s i = 45 ∨ at_ s i = 94 then .error (44, i)
  else one s i

/-- A byte of a class, or two with a dash between. -/
def part (i : Nat) : Except Bad ((Nat × Nat) × Nat) :=
  match member s i with
  | .error e => .error e
  | .ok (lo, j) =>
    if is s j 45 then
      match member s (j + 1) with
      | .error e => .error e
      | .ok (hi, k) => if hi < lo then .error (44, j + 1) else .ok ((lo, hi), k)
    else .ok ((lo, lo), j)

/-- The bytes of a class, up to its end; more: whether there is one already. -/
def parts : Nat → Bool → (Nat → Bool) → Nat → Except Bad ((Nat → Bool) × Nat)
  | 0, _, _, _ => .error (0, 0)
  | f + 1, more, p, i =>
    if more && is s i 93 then .ok (p, i)
    else match part s i with
      | .error e => .error e
      | .ok ((lo, hi), j) => parts f true (uniS p (rngS lo hi)) j

def emptyS (p : Nat → Bool) : Bool := (List.range 256).all fun x => !p x

/-- A class, from its bracket on. -/
def class_ (i : Nat) : Except Bad ((Nat → Bool) × Nat) :=
  let neg := is s (i + 1) 94
  match parts s (s.length + 1) false noS (if neg then i + 2 else i + 1) with
  | .error e => .error e
  | .ok (p, j) => if emptyS (negS neg p) then .error (44, j) else .ok (negS neg p, j + 1)

/-- Behind the digits from i on. -/
def digEnd : Nat → Nat → Nat
  | 0, i => i
  | f + 1, i => if dig s i then digEnd f (i + 1) else i
def value (l : List Nat) : Nat := l.foldl (fun v c => v * 10 + (c - 48)) 0
def cut (i j : Nat) : List Nat := (s.drop i).take (j - i)
/-- A number of bounds, if it is one. -/
def number (i j : Nat) : Option Nat := if 6 < j - i ∨ (at_ s i = 48 ∧ 1 < j - i) then none else some (value (cut s i j))
/-- What is wrong with bounds: nothing, if they may be. -/
def okBounds (lo : Option Nat) (hi : Option (Option Nat)) : Option (Int × Int) :=
  match lo, hi with
  | some a, none => if a ≤ 4096 then some (a, -1) else none
  | some a, some (some b) => if a ≤ 4096 ∧ b ≤ 4096 ∧ 1 ≤ b ∧ a ≤ b then some (a, b) else none
  | _, _ => none
/-- What stands behind the first number: the greatest one (none: there is no end), and where it ends. -/
def hiPart (lo : Option Nat) (j : Nat) : Option (Option Nat) × Nat :=
  if is s j 44 then
    if dig s (j + 1) then (some (number s (j + 1) (digEnd s s.length (j + 1))), digEnd s s.length (j + 1))
    else (none, j + 1)
  else (some lo, j)
def loEnd (i : Nat) : Nat := digEnd s s.length (i + 1)
def loPart (i : Nat) : Option Nat := number s (i + 1) (loEnd s i)
/-- Bounds, from their brace on. -/
def bounds (i : Nat) : Except Bad ((Int × Int) × Nat) :=
  if s.length ≤ (hiPart s (loPart s i) (loEnd s i)).2 then .error (40, s.length)
  else if at_ s (hiPart s (loPart s i) (loEnd s i)).2 ≠ 125 then .error (41, (hiPart s (loPart s i) (loEnd s i)).2)
  else match okBounds (loPart s i) (hiPart s (loPart s i) (loEnd s i)).1 with
    | some b => .ok (b, (hiPart s (loPart s i) (loEnd s i)).2 + 1)
    | none => .error (45, i)

/-- Where a brace closes, from i on. -/
def braceEnd : Nat → Nat → Nat
  | 0, i => i
  | f + 1, i => if i < s.length then (if at_ s i = 125 then i else braceEnd f (i + 1)) else i
/-- A name in braces, from the first one on. -/
def name_ (i : Nat) : Except Bad (List Nat × Nat) :=
  let j := braceEnd s s.length (i + 1)
  if s.length ≤ j then .error (40, s.length)
  else if nameB (cut s (i + 1) j) then .ok (cut s (i + 1) j, j + 1) else .error (41, i + 1)

/-- What was read so far: the place, the nodes; of each open parenthesis, the outermost last, the rows that are done and the items of the row; the same of the innermost one. -/
structure St where
  at_ : Nat
  ns : List Nd
  st : List (List Nat × List Nat)
  as : List Nat
  is : List Nat

/-- A row's node: the nodes with it, and its place. -/
def mkRow (ns : List Nd) : List Nat → List Nd × Nat
  | [] => (ns ++ [ndEmpty], ns.length)
  | [k] => (ns, k)
  | l => (ns ++ [ndCat l], ns.length)
def mkAlt (ns : List Nd) : List Nat → List Nd × Nat
  | [] => (ns, 0)
  | [k] => (ns, k)
  | l => (ns ++ [ndAlt l], ns.length)
/-- All rows of a parenthesis done. -/
def close (ns : List Nd) (as is : List Nat) : List Nd × Nat := mkAlt (mkRow ns is).1 (as ++ [(mkRow ns is).2])

def rep (σ : St) (lo hi : Int) (j : Nat) : St := { σ with at_ := j, ns := σ.ns ++ [ndRep (σ.is.getLastD 0) lo hi], is := σ.is.dropLast ++ [σ.ns.length] }
def item (σ : St) (n : Nd) (j : Nat) : St := { σ with at_ := j, ns := σ.ns ++ [n], is := σ.is ++ [σ.ns.length] }

/-- An atom. -/
def atom (σ : St) : Except Bad St :=
  let c := at_ s σ.at_
  if c = 40 then (if 64 ≤ σ.st.length then .error (46, σ.at_) else .ok { σ with at_ := σ.at_ + 1, st := (σ.as, σ.is) :: σ.st, as := [], is := [] })
  else if c = 91 then (match class_ s σ.at_ with | .error e => .error e | .ok (p, j) => .ok (item σ (ndBytes p) j))
  else if c = 46 then .ok (item σ (ndBytes dotS) (σ.at_ + 1))
  else if c = 123 ∧ dig s (σ.at_ + 1) = false then (match name_ s σ.at_ with | .error e => .error e | .ok (nm, j) => .ok (item σ (ndRef nm) j))
  else if c = 47 ∨ c = 36 then .error (42, σ.at_)
  else if c ≠ 92 ∧ specialB c = true then .error (41, σ.at_)
  else match one s σ.at_ with | .error e => .error e | .ok (b, j) => .ok (item σ (ndBytes (oneS b)) j)

/-- What stands at a place. -/
def step (σ : St) : Except Bad St :=
  let c := at_ s σ.at_
  if c = 124 then .ok { σ with at_ := σ.at_ + 1, ns := (mkRow σ.ns σ.is).1, as := σ.as ++ [(mkRow σ.ns σ.is).2], is := [] }
  else if c = 41 then
    match σ.st with
    | [] => .error (41, σ.at_)
    | (as, is) :: st => .ok ⟨σ.at_ + 1, (close σ.ns σ.as σ.is).1, st, as, is ++ [(close σ.ns σ.as σ.is).2]⟩
  else if σ.is ≠ [] ∧ c = 42 then .ok (rep σ 0 (-1) (σ.at_ + 1))
  else if σ.is ≠ [] ∧ c = 43 then .ok (rep σ 1 (-1) (σ.at_ + 1))
  else if σ.is ≠ [] ∧ c = 63 then .ok (rep σ 0 1 (σ.at_ + 1))
  else if σ.is ≠ [] ∧ c = 123 ∧ dig s (σ.at_ + 1) = true then (match bounds s σ.at_ with | .error e => .error e | .ok ((lo, hi), j) => .ok (rep σ lo hi j))
  else atom s σ

/-- The end. -/
def fin (σ : St) : Except Bad (List Nd) := match σ.st with
  | [] => .ok (close σ.ns σ.as σ.is).1
  | _ => .error (40, s.length)

def runF : Nat → St → Except Bad (List Nd)
  | 0, _ => .error (0, 0)
  | f + 1, σ => if σ.at_ < s.length then (match step s σ with | .error e => .error e | .ok σ' => runF f σ') else fin s σ

/-- All that is left to read. -/
def run (σ : St) : Except Bad (List Nd) := runF s (s.length + 1 - σ.at_) σ
def start : St := ⟨0, [], [], [], []⟩

/-- Parse: P4.3. -/
def parse : Except Bad (List Nd) :=
  if 1024 < s.length then .error (3, 0)
  else match run s start with
    | .error e => .error e
    | .ok ns => if 1024 < ns.length then .error (3, 0) else .ok ns
end

/-- For trying: what a tree looks like, a set by its bytes. -/
def show1 (n : Nd) : Nat × List Nat × List Nat × Int × Int × List Nat := (n.op, (List.range 256).filter n.s, n.l, n.lo, n.hi, n.name)

end Go.Proofs.YtcidimjjclanmaaDoor.Sy

/- Reading a pattern goes on, and ends. Plain lists. -/
namespace Go.Proofs.YtcidimjjclanmaaDoor.Sy

section
variable {s : List Nat}
theorem one_ok {i b j : Nat} (h : one s i = .ok (b, j)) (hi : i < s.length) : i < j ∧ j ≤ s.length := by
  unfold one at h
  split at h
  · cases h; omega
  · split at h
    · cases h
    · simp only at h
      split at h
      · cases h; omega
      · split at h
        · cases h; omega
        · split at h
          · cases h; omega
          · split at h
            · split at h
              · cases h
              · split at h
                · cases h; omega
                · cases h
            · split at h
              · cases h; omega
              · cases h
theorem member_ok {i b j : Nat} (h : member s i = .ok (b, j)) : i < j ∧ j ≤ s.length := by
  unfold member at h
  split at h
  · cases h
  · split at h
    · cases h
    · exact one_ok h (by omega)
theorem part_ok {i : Nat} {b : Nat × Nat} {j : Nat} (h : part s i = .ok (b, j)) : i < j ∧ j ≤ s.length := by
  unfold part at h
  split at h
  · cases h
  · rename_i lo j1 h1
    have := member_ok h1
    split at h
    · split at h
      · cases h
      · rename_i hi k h2
        have := member_ok h2
        split at h
        · cases h
        · cases h; omega
    · cases h; omega
theorem is_lt {i c : Nat} (h : is s i c = true) : i < s.length ∧ at_ s i = c := by
  unfold is at h
  simpa using h
theorem parts_ok : ∀ (f : Nat) (more : Bool) (p : Nat → Bool) (i : Nat) (q : Nat → Bool) (j : Nat), parts s f more p i = .ok (q, j) → i ≤ j ∧ j < s.length ∧ at_ s j = 93
  | 0, _, _, _, _, _, h => by cases h
  | f + 1, more, p, i, q, j, h => by
    unfold parts at h
    split at h
    · rename_i hc
      cases h
      simp only [Bool.and_eq_true] at hc
      have := is_lt hc.2
      omega
    · split at h
      · cases h
      · rename_i lo hi k h1
        have h2 := part_ok h1
        have h3 := parts_ok f _ _ _ _ _ h
        omega
theorem class_ok {i : Nat} {q : Nat → Bool} {j : Nat} (h : class_ s i = .ok (q, j)) : i < j ∧ j ≤ s.length := by
  unfold class_ at h
  simp only at h
  split at h
  · cases h
  · rename_i p k h1
    have h2 := parts_ok _ _ _ _ _ _ h1
    split at h
    · cases h
    · cases h
      split at h2 <;> omega
theorem digEnd_ge : ∀ (f i : Nat), i ≤ digEnd s f i
  | 0, _ => Nat.le_refl _
  | f + 1, i => by
    unfold digEnd
    split
    · have := digEnd_ge f (i + 1)
      omega
    · exact Nat.le_refl _
theorem hiPart_ge (lo : Option Nat) (j : Nat) : j ≤ (hiPart s lo j).2 := by
  unfold hiPart
  split
  · split
    · have := digEnd_ge (s := s) s.length (j + 1)
      simp only
      omega
    · simp only
      omega
  · exact Nat.le_refl _
theorem loEnd_ge (i : Nat) : i < loEnd s i := digEnd_ge (s := s) s.length (i + 1)
theorem bounds_ok {i : Nat} {b : Int × Int} {j : Nat} (h : bounds s i = .ok (b, j)) : i < j ∧ j ≤ s.length := by
  have h1 := hiPart_ge (s := s) (loPart s i) (loEnd s i)
  have h2 := loEnd_ge (s := s) i
  unfold bounds at h
  split at h
  · cases h
  · split at h
    · cases h
    · split at h
      · cases h; omega
      · cases h
theorem braceEnd_ge : ∀ (f i : Nat), i ≤ braceEnd s f i
  | 0, _ => Nat.le_refl _
  | f + 1, i => by
    unfold braceEnd
    split
    · split
      · exact Nat.le_refl _
      · have := braceEnd_ge f (i + 1)
        omega
    · exact Nat.le_refl _
theorem name_ok {i : Nat} {nm : List Nat} {j : Nat} (h : name_ s i = .ok (nm, j)) : i < j ∧ j ≤ s.length := by
  unfold name_ at h
  simp only at h
  have := braceEnd_ge (s := s) s.length (i + 1)
  split at h
  · cases h
  · split at h
    · cases h; omega
    · cases h
theorem atom_ok {σ σ' : St} (hi : σ.at_ < s.length) (h : atom s σ = .ok σ') : σ.at_ < σ'.at_ ∧ σ'.at_ ≤ s.length := by
  unfold atom at h
  simp only at h
  split at h
  · split at h
    · cases h
    · cases h
      exact ⟨Nat.lt_succ_self _, hi⟩
  · split at h
    · split at h
      · cases h
      · rename_i h1
        cases h
        exact class_ok h1
    · split at h
      · cases h
        exact ⟨Nat.lt_succ_self _, hi⟩
      · split at h
        · split at h
          · cases h
          · rename_i h1
            cases h
            exact name_ok h1
        · split at h
          · cases h
          · split at h
            · cases h
            · split at h
              · cases h
              · rename_i h1
                cases h
                exact one_ok h1 hi
theorem step_ok {σ σ' : St} (hi : σ.at_ < s.length) (h : step s σ = .ok σ') : σ.at_ < σ'.at_ ∧ σ'.at_ ≤ s.length := by
  unfold step at h
  simp only at h
  split at h
  · cases h
    exact ⟨Nat.lt_succ_self _, hi⟩
  · split at h
    · split at h
      · cases h
      · cases h
        exact ⟨Nat.lt_succ_self _, hi⟩
    · split at h
      · cases h
        exact ⟨Nat.lt_succ_self _, hi⟩
      · split at h
        · cases h
          exact ⟨Nat.lt_succ_self _, hi⟩
        · split at h
          · cases h
            exact ⟨Nat.lt_succ_self _, hi⟩
          · split at h
            · split at h
              · cases h
              · rename_i h1
                cases h
                exact bounds_ok h1
            · exact atom_ok hi h

theorem runF_fuel : ∀ (f g : Nat) (σ : St), σ.at_ ≤ s.length → s.length + 1 - σ.at_ ≤ f → s.length + 1 - σ.at_ ≤ g → runF s f σ = runF s g σ
  | 0, _, σ, h, h1, _ => by omega
  | _ + 1, 0, σ, h, _, h2 => by omega
  | f + 1, g + 1, σ, h, h1, h2 => by
    unfold runF
    by_cases hi : σ.at_ < s.length
    · rw [if_pos hi, if_pos hi]
      cases hs : step s σ with
      | error e => rfl
      | ok σ' =>
        have := step_ok hi hs
        exact runF_fuel f g σ' this.2 (by omega) (by omega)
    · rw [if_neg hi, if_neg hi]
theorem runF_succ (f : Nat) (σ : St) : runF s (f + 1) σ = if σ.at_ < s.length then (match step s σ with | .error e => .error e | .ok σ' => runF s f σ') else fin s σ := rfl
theorem run_step {σ : St} (hi : σ.at_ < s.length) : run s σ = match step s σ with | .error e => .error e | .ok σ' => run s σ' := by
  unfold run
  rw [show s.length + 1 - σ.at_ = (s.length - σ.at_) + 1 from by omega]
  rw [runF_succ, if_pos hi]
  cases hs : step s σ with
  | error e => rfl
  | ok σ' =>
    have := step_ok hi hs
    exact runF_fuel (s.length - σ.at_) (s.length + 1 - σ'.at_) σ' this.2 (by omega) (Nat.le_refl _)
theorem run_ok {σ σ' : St} (hi : σ.at_ < s.length) (h : step s σ = .ok σ') : run s σ = run s σ' := by rw [run_step hi, h]
theorem run_bad {σ : St} {e : Bad} (hi : σ.at_ < s.length) (h : step s σ = .error e) : run s σ = .error e := by rw [run_step hi, h]
theorem run_end {σ : St} (hi : σ.at_ = s.length) : run s σ = fin s σ := by
  unfold run
  rw [show s.length + 1 - σ.at_ = 0 + 1 from by omega]
  unfold runF
  rw [if_neg (by omega)]
end

end Go.Proofs.YtcidimjjclanmaaDoor.Sy

/- What is read is a tree, or told where it is none. Plain lists. -/
namespace Go.Proofs.YtcidimjjclanmaaDoor.Sy

/-- Has a node just what its kind has? -/
def zeroB (n : Nd) : Bool := emptyS n.s && n.lo == 0 && n.hi == 0
def shapeB (n : Nd) : Bool :=
  if n.op = 1 then zeroB n && n.name == [] && n.l == []
  else if n.op = 2 then !emptyS n.s && n.lo == 0 && n.hi == 0 && n.name == [] && n.l == []
  else if n.op = 3 ∨ n.op = 4 then zeroB n && n.name == [] && decide (2 ≤ n.l.length)
  else if n.op = 5 then emptyS n.s && n.name == [] && decide (n.l.length = 1) && decide (0 ≤ n.lo) && decide (n.lo ≤ 4096) && (n.hi == -1 || (decide (1 ≤ n.hi) && decide (n.hi ≤ 4096) && decide (n.lo ≤ n.hi)))
  else if n.op = 6 then zeroB n && nameB n.name && n.l == []
  else false

/-- The nodes from a up to b are trees, one behind the other, with these roots. -/
inductive Forest (ns : List Nd) : Nat → Nat → List Nat → Prop
  | nil (a : Nat) : Forest ns a a []
  | snoc {a b c : Nat} {ks : List Nat} {n : Nd} : Forest ns a b ks → ns[c]? = some n → Forest ns b c n.l → Forest ns a (c + 1) (ks ++ [c])

section
variable {ns : List Nd}
theorem Forest.le {a b : Nat} {ks : List Nat} (h : Forest ns a b ks) : a ≤ b := by
  induction h with
  | nil => exact Nat.le_refl _
  | snoc _ _ _ h1 h2 => omega
theorem Forest.more {a b : Nat} {ks : List Nat} (h : Forest ns a b ks) (m : List Nd) : Forest (ns ++ m) a b ks := by
  induction h with
  | nil a => exact .nil a
  | snoc _ hn _ h1 h2 => exact .snoc h1 (by rw [List.getElem?_append_left (List.getElem?_eq_some_iff.1 hn).1]; exact hn) h2
theorem Forest.join {a b c : Nat} {xs ys : List Nat} (h : Forest ns a b xs) (h2 : Forest ns b c ys) : Forest ns a c (xs ++ ys) := by
  induction h2 with
  | nil => rw [List.append_nil]; exact h
  | snoc _ hn hk h1 _ => rw [← List.append_assoc]; exact .snoc (h1 h) hn hk
theorem Forest.split {a c : Nat} {ks : List Nat} (h : Forest ns a c ks) : ∀ xs ys, ks = xs ++ ys → ∃ b, Forest ns a b xs ∧ Forest ns b c ys := by
  induction h with
  | nil a =>
    intro xs ys e
    have e := e.symm
    rw [List.append_eq_nil_iff] at e
    rw [e.1, e.2]
    exact ⟨a, .nil a, .nil a⟩
  | @snoc a b c ks n h hn hk ih _ =>
    intro xs ys e
    rcases List.eq_nil_or_concat ys with rfl | ⟨ys', y, rfl⟩
    · rw [List.append_nil] at e
      subst e
      exact ⟨c + 1, .snoc h hn hk, .nil _⟩
    · rw [List.concat_eq_append, ← List.append_assoc] at e
      obtain ⟨e1, e2⟩ := List.append_inj' e rfl
      cases e2
      obtain ⟨b', h1, h2⟩ := ih xs ys' e1
      exact ⟨b', h1, by rw [List.concat_eq_append]; exact .snoc h2 hn hk⟩
/-- A new node over the last trees. -/
theorem Forest.put {a : Nat} {xs ys : List Nat} {n : Nd} (h : Forest ns a ns.length (xs ++ ys)) (hn : n.l = ys) : Forest (ns ++ [n]) a (ns ++ [n]).length (xs ++ [ns.length]) := by
  obtain ⟨b, h1, h2⟩ := h.split xs ys rfl
  rw [List.length_append, List.length_singleton]
  exact .snoc (h1.more _) (n := n) (by simp) (by rw [hn]; exact h2.more _)
theorem Forest.leaf {a : Nat} {xs : List Nat} {n : Nd} (h : Forest ns a ns.length xs) (hn : n.l = []) : Forest (ns ++ [n]) a (ns ++ [n]).length (xs ++ [ns.length]) :=
  Forest.put (ys := []) (by rw [List.append_nil]; exact h) hn
theorem Forest.last {a b k : Nat} (h : Forest ns a b [k]) : b = k + 1 := by
  generalize e : [k] = ks at h
  cases h with
  | nil => cases e
  | @snoc a b' c ks' n _ _ _ =>
    cases ks' with
    | nil => simp at e; rw [e]
    | cons x r => simp at e

def Shp (ns : List Nd) : Prop := ∀ n ∈ ns, shapeB n = true
theorem Shp.put {n : Nd} (h : Shp ns) (hn : shapeB n = true) : Shp (ns ++ [n]) := by
  intro m hm
  rcases List.mem_append.1 hm with hm | hm
  · exact h m hm
  · rw [List.mem_singleton] at hm; rw [hm]; exact hn
end

theorem emptyS_no : emptyS noS = true := by
  unfold emptyS
  rw [List.all_eq_true]
  intro x _
  rfl
theorem shape_empty : shapeB ndEmpty = true := by simp [shapeB, ndEmpty, zeroB, emptyS_no]
theorem shape_bytes {p : Nat → Bool} (h : emptyS p = false) : shapeB (ndBytes p) = true := by simp [shapeB, ndBytes, h]
theorem shape_kids {l : List Nat} (h : 2 ≤ l.length) : shapeB (ndCat l) = true ∧ shapeB (ndAlt l) = true := by
  simp [shapeB, ndCat, ndAlt, zeroB, emptyS_no, h]
theorem shape_rep {k : Nat} {lo hi : Int} (h0 : 0 ≤ lo) (h1 : lo ≤ 4096) (h2 : hi = -1 ∨ (1 ≤ hi ∧ hi ≤ 4096 ∧ lo ≤ hi)) : shapeB (ndRep k lo hi) = true := by
  simp only [shapeB, ndRep, emptyS_no]
  simp [h0, h1]
  rcases h2 with h2 | h2
  · exact .inl h2
  · simp [h2.1, h2.2.1, h2.2.2]
theorem shape_ref {nm : List Nat} (h : nameB nm = true) : shapeB (ndRef nm) = true := by simp [shapeB, ndRef, zeroB, emptyS_no, h]
theorem emptyS_of {p : Nat → Bool} {x : Nat} (hx : x < 256) (h : p x = true) : emptyS p = false := by
  unfold emptyS
  rw [List.all_eq_false]
  exact ⟨x, List.mem_range.2 hx, by simp [h]⟩

/-- The roots of what was read. -/
def flatS : List (List Nat × List Nat) → List Nat
  | [] => []
  | f :: r => flatS r ++ (f.1 ++ f.2)
def roots (σ : St) : List Nat := flatS σ.st ++ σ.as ++ σ.is
structure Inv (σ : St) : Prop where
  shp : Shp σ.ns
  frs : Forest σ.ns 0 σ.ns.length (roots σ)

section
variable {ns : List Nd}
theorem mkRow_inv {pre is : List Nat} (hs : Shp ns) (h : Forest ns 0 ns.length (pre ++ is)) : Shp (mkRow ns is).1 ∧ Forest (mkRow ns is).1 0 (mkRow ns is).1.length (pre ++ [(mkRow ns is).2]) := by
  unfold mkRow
  split
  · exact ⟨hs.put shape_empty, Forest.leaf (by rw [List.append_nil] at h; exact h) rfl⟩
  · exact ⟨hs, h⟩
  · rename_i h1 h2
    refine ⟨hs.put (shape_kids ?_).1, h.put rfl⟩
    match is, h1, h2 with
    | _ :: _ :: _, _, _ => simp
    | [x], _, h2 => exact absurd rfl (h2 x)
    | [], h1, _ => exact absurd rfl h1
theorem mkAlt_inv {pre as : List Nat} (hne : as ≠ []) (hs : Shp ns) (h : Forest ns 0 ns.length (pre ++ as)) : Shp (mkAlt ns as).1 ∧ Forest (mkAlt ns as).1 0 (mkAlt ns as).1.length (pre ++ [(mkAlt ns as).2]) := by
  unfold mkAlt
  split
  · exact absurd rfl hne
  · exact ⟨hs, h⟩
  · rename_i h1 h2
    refine ⟨hs.put (shape_kids ?_).2, h.put rfl⟩
    match as, h1, h2 with
    | _ :: _ :: _, _, _ => simp
    | [x], _, h2 => exact absurd rfl (h2 x)
    | [], h1, _ => exact absurd rfl h1
theorem close_inv {pre as is : List Nat} (hs : Shp ns) (h : Forest ns 0 ns.length (pre ++ as ++ is)) : Shp (close ns as is).1 ∧ Forest (close ns as is).1 0 (close ns as is).1.length (pre ++ [(close ns as is).2]) := by
  obtain ⟨h1, h2⟩ := mkRow_inv hs h
  rw [List.append_assoc] at h2
  exact mkAlt_inv (by simp) h1 h2
end

theorem inv_start : Inv start := ⟨fun _ hn => (by cases hn), Forest.nil 0⟩
theorem inv_item {σ : St} {n : Nd} (h : Inv σ) (hn : shapeB n = true) (hl : n.l = []) (j : Nat) : Inv (item σ n j) := by
  refine ⟨h.shp.put hn, ?_⟩
  have := h.frs.leaf (n := n) hl
  unfold roots at this ⊢
  simp only [item]
  rw [← List.append_assoc]
  exact this
theorem inv_rep {σ : St} {lo hi : Int} (h : Inv σ) (hne : σ.is ≠ []) (h0 : 0 ≤ lo) (h1 : lo ≤ 4096) (h2 : hi = -1 ∨ (1 ≤ hi ∧ hi ≤ 4096 ∧ lo ≤ hi)) (j : Nat) : Inv (rep σ lo hi j) := by
  refine ⟨h.shp.put (shape_rep h0 h1 h2), ?_⟩
  have e : σ.is = σ.is.dropLast ++ [σ.is.getLastD 0] := by
    have := List.dropLast_concat_getLast hne
    rw [List.getLastD_eq_getLast?, List.getLast?_eq_some_getLast hne]
    exact this.symm
  have hf := h.frs
  unfold roots at hf ⊢
  rw [e, ← List.append_assoc] at hf
  have := hf.put (n := ndRep (σ.is.getLastD 0) lo hi) rfl
  simp only [rep]
  rw [← List.append_assoc]
  exact this

section
variable {s : List Nat}
theorem hexV_lt {c x : Nat} (h : hexV c = some x) : x < 16 := by
  unfold hexV digitB at h
  split at h
  · rename_i h1
    simp at h1
    cases h
    omega
  · split at h
    · cases h; omega
    · cases h
theorem at_lt (hb : ∀ c ∈ s, c < 256) (i : Nat) : at_ s i < 256 := by
  unfold at_
  rw [List.getD_eq_getElem?_getD]
  rcases Nat.lt_or_ge i s.length with h | h
  · rw [List.getElem?_eq_getElem h]
    exact hb _ (List.getElem_mem h)
  · rw [List.getElem?_eq_none h]
    decide
theorem one_lt (hb : ∀ c ∈ s, c < 256) {i b j : Nat} (h : one s i = .ok (b, j)) : b < 256 := by
  have h1 := at_lt hb i
  have h2 := at_lt hb (i + 1)
  unfold one at h
  split at h
  · cases h; exact h1
  · split at h
    · cases h
    · simp only at h
      split at h
      · cases h; omega
      · split at h
        · cases h; omega
        · split at h
          · cases h; omega
          · split at h
            · split at h
              · cases h
              · split at h
                · rename_i hx hy
                  have := hexV_lt hx
                  have := hexV_lt hy
                  cases h; omega
                · cases h
            · split at h
              · cases h; exact h2
              · cases h
theorem class_ne {i : Nat} {q : Nat → Bool} {j : Nat} (h : class_ s i = .ok (q, j)) : emptyS q = false := by
  unfold class_ at h
  simp only at h
  split at h
  · cases h
  · split at h
    · cases h
    · rename_i h1
      cases h
      simpa using h1
theorem bounds_fit {i : Nat} {lo hi : Int} {j : Nat} (h : bounds s i = .ok ((lo, hi), j)) : 0 ≤ lo ∧ lo ≤ 4096 ∧ (hi = -1 ∨ (1 ≤ hi ∧ hi ≤ 4096 ∧ lo ≤ hi)) := by
  unfold bounds at h
  split at h
  · cases h
  · split at h
    · cases h
    · split at h
      · rename_i b hb
        cases h
        unfold okBounds at hb
        split at hb
        · split at hb
          · cases hb
            omega
          · cases hb
        · split at hb
          · cases hb
            omega
          · cases hb
        · cases hb
      · cases h
theorem name_fit {i : Nat} {nm : List Nat} {j : Nat} (h : name_ s i = .ok (nm, j)) : nameB nm = true := by
  unfold name_ at h
  simp only at h
  split at h
  · cases h
  · split at h
    · rename_i h1
      cases h
      exact h1
    · cases h

theorem atom_inv (hb : ∀ c ∈ s, c < 256) {σ σ' : St} (hI : Inv σ) (h : atom s σ = .ok σ') : Inv σ' := by
  unfold atom at h
  simp only at h
  split at h
  · split at h
    · cases h
    · cases h
      refine ⟨hI.shp, ?_⟩
      have := hI.frs
      unfold roots at this ⊢
      simp only [flatS, List.append_nil]
      rw [← List.append_assoc]
      exact this
  · split at h
    · split at h
      · cases h
      · rename_i h1
        cases h
        exact inv_item hI (shape_bytes (class_ne h1)) rfl _
    · split at h
      · cases h
        exact inv_item hI (shape_bytes (emptyS_of (x := 0) (by decide) rfl)) rfl _
      · split at h
        · split at h
          · cases h
          · rename_i h1
            cases h
            exact inv_item hI (shape_ref (name_fit h1)) rfl _
        · split at h
          · cases h
          · split at h
            · cases h
            · split at h
              · cases h
              · rename_i h1
                cases h
                exact inv_item hI (shape_bytes (emptyS_of (one_lt hb h1) (by simp [oneS]))) rfl _
theorem step_inv (hb : ∀ c ∈ s, c < 256) {σ σ' : St} (hI : Inv σ) (h : step s σ = .ok σ') : Inv σ' := by
  unfold step at h
  simp only at h
  split at h
  · cases h
    obtain ⟨h1, h2⟩ := mkRow_inv hI.shp hI.frs
    refine ⟨h1, ?_⟩
    unfold roots
    simp only [List.append_nil]
    rw [← List.append_assoc]
    exact h2
  · split at h
    · split at h
      · cases h
      · rename_i as is st hst
        cases h
        have hf := hI.frs
        unfold roots at hf
        rw [hst] at hf
        obtain ⟨h1, h2⟩ := close_inv hI.shp hf
        refine ⟨h1, ?_⟩
        unfold roots
        simp only [flatS] at h2 ⊢
        simp only [List.append_assoc] at h2 ⊢
        exact h2
    · split at h
      · rename_i h1
        cases h
        exact inv_rep hI h1.1 (by decide) (by decide) (.inl rfl) _
      · split at h
        · rename_i h1
          cases h
          exact inv_rep hI h1.1 (by decide) (by decide) (.inl rfl) _
        · split at h
          · rename_i h1
            cases h
            exact inv_rep hI h1.1 (by decide) (by decide) (.inr (by decide)) _
          · split at h
            · rename_i h1
              split at h
              · cases h
              · rename_i h2
                cases h
                obtain ⟨b0, b1, b2⟩ := bounds_fit h2
                exact inv_rep hI h1.1 b0 b1 b2 _
            · exact atom_inv hb hI h

theorem runF_tree (hb : ∀ c ∈ s, c < 256) : ∀ (f : Nat) (σ : St) (ns : List Nd), Inv σ → runF s f σ = .ok ns → Shp ns ∧ 1 ≤ ns.length ∧ Forest ns 0 ns.length [ns.length - 1]
  | 0, _, _, _, h => by cases h
  | f + 1, σ, ns, hI, h => by
    rw [runF_succ] at h
    split at h
    · split at h
      · cases h
      · rename_i h1
        exact runF_tree hb f _ ns (step_inv hb hI h1) h
    · unfold fin at h
      split at h
      · rename_i hst
        cases h
        have hf := hI.frs
        unfold roots at hf
        rw [hst] at hf
        obtain ⟨h1, h2⟩ := close_inv (pre := []) hI.shp hf
        have e := Forest.last (k := (close σ.ns σ.as σ.is).2) h2
        refine ⟨h1, by omega, ?_⟩
        rw [show (close σ.ns σ.as σ.is).1.length - 1 = (close σ.ns σ.as σ.is).2 from by omega]
        exact h2
      · cases h
/-- P4.4. -/
theorem parse_tree (hb : ∀ c ∈ s, c < 256) {ns : List Nd} (h : parse s = .ok ns) : Shp ns ∧ 1 ≤ ns.length ∧ ns.length ≤ 1024 ∧ Forest ns 0 ns.length [ns.length - 1] ∧ s.length ≤ 1024 := by
  unfold parse at h
  split at h
  · cases h
  · rename_i hl
    split at h
    · cases h
    · rename_i ms hm
      split at h
      · cases h
      · rename_i hn
        cases h
        obtain ⟨h1, h2, h3⟩ := runF_tree hb _ _ _ inv_start hm
        exact ⟨h1, h2, by omega, h3, by omega⟩
end

end Go.Proofs.YtcidimjjclanmaaDoor.Sy

/- What is wrong is told at a place of the text, or its end; and a text makes no more nodes than twice its bytes, and two. Plain lists. -/
namespace Go.Proofs.YtcidimjjclanmaaDoor.Sy

/-- An error, and its place. -/
def Fine (s : List Nat) (e : Bad) : Prop := e.2 ≤ s.length ∧ (e.1 = 40 → e.2 = s.length) ∧ 40 ≤ e.1 ∧ e.1 ≤ 46

section
variable {s : List Nat}
theorem fine_end : Fine s (40, s.length) := ⟨Nat.le_refl _, fun _ => rfl, (by show 40 ≤ 40; omega), (by show 40 ≤ 46; omega)⟩
theorem fine_at {e p : Nat} (h : p ≤ s.length) (h1 : 41 ≤ e) (h2 : e ≤ 46) : Fine s (e, p) := ⟨h, fun h => (by simp only at h; omega), by simp only; omega, h2⟩
theorem one_bad {i : Nat} {e : Bad} (h : one s i = .error e) : Fine s e := by
  unfold one at h
  split at h
  · cases h
  · split at h
    · cases h; exact fine_end
    · simp only at h
      split at h
      · cases h
      · split at h
        · cases h
        · split at h
          · cases h
          · split at h
            · split at h
              · cases h; exact fine_end
              · split at h
                · cases h
                · cases h; exact fine_at (by omega) (by decide) (by decide)
            · split at h
              · cases h
              · cases h; exact fine_at (by omega) (by decide) (by decide)
theorem member_bad {i : Nat} {e : Bad} (h : member s i = .error e) : Fine s e := by
  unfold member at h
  split at h
  · cases h; exact fine_end
  · split at h
    · cases h; exact fine_at (by omega) (by decide) (by decide)
    · exact one_bad h
theorem part_bad {i : Nat} {e : Bad} (h : part s i = .error e) : Fine s e := by
  unfold part at h
  split at h
  · rename_i h1
    cases h; exact member_bad h1
  · rename_i lo j h1
    have hj := member_ok h1
    split at h
    · split at h
      · rename_i h2
        cases h; exact member_bad h2
      · rename_i h0 hi k h2
        have := member_ok h2
        split at h
        · cases h; exact fine_at (by omega) (by decide) (by decide)
        · cases h
    · cases h
theorem parts_bad : ∀ (f : Nat) (more : Bool) (p : Nat → Bool) (i : Nat) (e : Bad), i ≤ s.length → s.length + 1 ≤ f + i → parts s f more p i = .error e → Fine s e
  | 0, _, _, i, _, h0, h1, _ => by omega
  | f + 1, more, p, i, e, h0, h1, h => by
    unfold parts at h
    split at h
    · cases h
    · split at h
      · rename_i h2
        cases h; exact part_bad h2
      · rename_i lo hi j h2
        have := part_ok h2
        exact parts_bad f _ _ _ _ this.2 (by omega) h
theorem class_bad {i : Nat} {e : Bad} (h : class_ s i = .error e) (hi : i < s.length) : Fine s e := by
  unfold class_ at h
  simp only at h
  split at h
  · rename_i h1
    cases h
    by_cases hn : is s (i + 1) 94 = true
    · have := is_lt hn
      rw [if_pos hn] at h1
      exact parts_bad _ _ _ _ _ (by omega) (by omega) h1
    · rw [if_neg hn] at h1
      exact parts_bad _ _ _ _ _ (by omega) (by omega) h1
  · rename_i h1
    have := parts_ok _ _ _ _ _ _ h1
    split at h
    · cases h; exact fine_at (by omega) (by decide) (by decide)
    · cases h
theorem bounds_bad {i : Nat} {e : Bad} (h : bounds s i = .error e) (hi : i < s.length) : Fine s e := by
  unfold bounds at h
  split at h
  · cases h; exact fine_end
  · split at h
    · cases h; exact fine_at (by omega) (by decide) (by decide)
    · split at h
      · cases h
      · cases h; exact fine_at (by omega) (by decide) (by decide)
theorem name_bad {i : Nat} {e : Bad} (h : name_ s i = .error e) (hi : i < s.length) : Fine s e := by
  unfold name_ at h
  simp only at h
  split at h
  · cases h; exact fine_end
  · split at h
    · cases h
    · cases h; exact fine_at (by omega) (by decide) (by decide)
theorem atom_bad {σ : St} {e : Bad} (hi : σ.at_ < s.length) (h : atom s σ = .error e) : Fine s e := by
  unfold atom at h
  simp only at h
  split at h
  · split at h
    · cases h; exact fine_at (by omega) (by decide) (by decide)
    · cases h
  · split at h
    · split at h
      · rename_i h1
        cases h; exact class_bad h1 hi
      · cases h
    · split at h
      · cases h
      · split at h
        · split at h
          · rename_i h1
            cases h; exact name_bad h1 hi
          · cases h
        · split at h
          · cases h; exact fine_at (by omega) (by decide) (by decide)
          · split at h
            · cases h; exact fine_at (by omega) (by decide) (by decide)
            · split at h
              · rename_i h1
                cases h; exact one_bad h1
              · cases h
theorem step_bad {σ : St} {e : Bad} (hi : σ.at_ < s.length) (h : step s σ = .error e) : Fine s e := by
  unfold step at h
  simp only at h
  split at h
  · cases h
  · split at h
    · split at h
      · cases h; exact fine_at (by omega) (by decide) (by decide)
      · cases h
    · split at h
      · cases h
      · split at h
        · cases h
        · split at h
          · cases h
          · split at h
            · split at h
              · rename_i h1
                cases h; exact bounds_bad h1 hi
              · cases h
            · exact atom_bad hi h
theorem runF_bad : ∀ (f : Nat) (σ : St) (e : Bad), σ.at_ ≤ s.length → s.length + 1 - σ.at_ ≤ f → runF s f σ = .error e → Fine s e
  | 0, σ, _, h0, h1, _ => by omega
  | f + 1, σ, e, h0, h1, h => by
    rw [runF_succ] at h
    split at h
    · rename_i hi
      split at h
      · rename_i h2
        cases h; exact step_bad hi h2
      · rename_i h2
        have := step_ok hi h2
        exact runF_bad f _ e this.2 (by omega) h
    · unfold fin at h
      split at h
      · cases h
      · cases h; exact fine_end
theorem run_fine {σ : St} {e : Bad} (h0 : σ.at_ ≤ s.length) (h : run s σ = .error e) : Fine s e := runF_bad _ σ e h0 (Nat.le_refl _) h
/-- The error of Parse: ErrLong at 0, or another one at its place. -/
theorem parse_bad {e : Bad} (h : parse s = .error e) : e = (3, 0) ∨ Fine s e := by
  unfold parse at h
  split at h
  · cases h; exact .inl rfl
  · split at h
    · rename_i h1
      cases h
      exact .inr (run_fine (Nat.zero_le _) h1)
    · split at h
      · cases h; exact .inl rfl
      · cases h

/-- How many nodes there are at most. -/
theorem mkRow_len (ns : List Nd) (is : List Nat) : (mkRow ns is).1.length ≤ ns.length + 1 := by
  unfold mkRow
  split <;> simp
theorem mkAlt_len (ns : List Nd) (as : List Nat) : (mkAlt ns as).1.length ≤ ns.length + 1 := by
  unfold mkAlt
  split <;> simp
theorem close_len (ns : List Nd) (as is : List Nat) : (close ns as is).1.length ≤ ns.length + 2 := by
  unfold close
  have h1 := mkRow_len ns is
  have h2 := mkAlt_len (mkRow ns is).1 (as ++ [(mkRow ns is).2])
  omega
theorem atom_len {σ σ' : St} (h : atom s σ = .ok σ') : σ'.ns.length ≤ σ.ns.length + 1 := by
  unfold atom at h
  simp only at h
  split at h
  · split at h
    · cases h
    · cases h; exact Nat.le_succ _
  · split at h
    · split at h
      · cases h
      · cases h; simp [item]
    · split at h
      · cases h; simp [item]
      · split at h
        · split at h
          · cases h
          · cases h; simp [item]
        · split at h
          · cases h
          · split at h
            · cases h
            · split at h
              · cases h
              · cases h; simp [item]
theorem step_len {σ σ' : St} (h : step s σ = .ok σ') : σ'.ns.length ≤ σ.ns.length + 2 := by
  unfold step at h
  simp only at h
  split at h
  · cases h
    have := mkRow_len σ.ns σ.is
    simp only
    omega
  · split at h
    · split at h
      · cases h
      · cases h
        exact close_len _ _ _
    · split at h
      · cases h; simp [rep]
      · split at h
        · cases h; simp [rep]
        · split at h
          · cases h; simp [rep]
          · split at h
            · split at h
              · cases h
              · cases h; simp [rep]
            · have := atom_len h
              omega
theorem runF_len : ∀ (f : Nat) (σ : St) (ns : List Nd), σ.at_ ≤ s.length → runF s f σ = .ok ns → ns.length ≤ σ.ns.length + 2 * (s.length - σ.at_) + 2
  | 0, _, _, _, h => by cases h
  | f + 1, σ, ns, h0, h => by
    rw [runF_succ] at h
    split at h
    · rename_i hi
      split at h
      · cases h
      · rename_i h2
        have h3 := step_ok hi h2
        have h4 := step_len h2
        have := runF_len f _ ns h3.2 h
        omega
    · unfold fin at h
      split at h
      · cases h
        have := close_len σ.ns σ.as σ.is
        omega
      · cases h
theorem run_len {ns : List Nd} (h : run s start = .ok ns) : ns.length ≤ 2 * s.length + 2 := by
  have := runF_len _ _ _ (Nat.zero_le _) h
  simp only [start, List.length_nil] at this
  omega
/-- A text of 511 bytes at most is never too long. -/
theorem parse_short (h : s.length ≤ 511) : parse s = run s start := by
  unfold parse
  rw [if_neg (by omega)]
  cases hr : run s start with
  | error e => rfl
  | ok ns =>
    have := run_len hr
    simp only
    rw [if_neg (by omega)]
end

end Go.Proofs.YtcidimjjclanmaaDoor.Sy

/- A pattern in parentheses is read as without them, one place further on. Plain lists. -/
namespace Go.Proofs.YtcidimjjclanmaaDoor.Sy

/-- In parentheses. -/
def par (x : List Nat) : List Nat := 40 :: (x ++ [41])
theorem par_len (x : List Nat) : (par x).length = x.length + 2 := by simp [par]

section
variable {x : List Nat}
theorem par_at {i : Nat} (h : i < x.length) : at_ (par x) (i + 1) = at_ x i := by
  unfold at_ par
  rw [List.getD_cons_succ, List.getD_eq_getElem?_getD, List.getD_eq_getElem?_getD, List.getElem?_append_left h]
theorem par_end : at_ (par x) (x.length + 1) = 41 := by
  unfold at_ par
  rw [List.getD_cons_succ, List.getD_eq_getElem?_getD, List.getElem?_append_right (Nat.le_refl _)]
  simp
theorem par_is (i c : Nat) (hc : c ≠ 41) : is (par x) (i + 1) c = is x i c := by
  unfold is
  rw [par_len]
  rcases Nat.lt_trichotomy i x.length with h | h | h
  · rw [par_at h]
    simp [h]
    omega
  · subst h
    rw [par_end]
    simp
    exact fun e => hc e.symm
  · have h1 : ¬ i < x.length := by omega
    have h2 : ¬ i + 1 < x.length + 2 := by omega
    simp [h1, h2]
theorem par_dig (i : Nat) : dig (par x) (i + 1) = dig x i := by
  unfold dig
  rw [par_len]
  rcases Nat.lt_trichotomy i x.length with h | h | h
  · rw [par_at h]
    simp [h]
    omega
  · subst h
    rw [par_end]
    simp [digitB]
  · have h1 : ¬ i < x.length := by omega
    have h2 : ¬ i + 1 < x.length + 2 := by omega
    simp [h1, h2]

/-- What may become of an error at the end: an error, or all is read. -/
def Lost {α : Type} (n : Nat) (r : Except Bad (α × Nat)) : Prop := (∃ e, r = .error e) ∨ ∃ b, r = .ok (b, n)

theorem one_par_ok {i b j : Nat} (h : one x i = .ok (b, j)) (hi : i < x.length) : one (par x) (i + 1) = .ok (b, j + 1) := by
  unfold one at h ⊢
  rw [par_len, par_at hi]
  split at h
  · rename_i hc
    cases h
    rw [if_pos hc]
  · rename_i hc
    rw [if_neg hc]
    split at h
    · cases h
    · rename_i hl
      rw [if_neg (by omega), show i + 1 + 1 = (i + 1) + 1 from rfl, par_at (by omega : i + 1 < x.length)]
      simp only at h ⊢
      split at h
      · rename_i hd; cases h; rw [if_pos hd]
      · rename_i hd; rw [if_neg hd]
        split at h
        · rename_i hd; cases h; rw [if_pos hd]
        · rename_i hd; rw [if_neg hd]
          split at h
          · rename_i hd; cases h; rw [if_pos hd]
          · rename_i hd; rw [if_neg hd]
            split at h
            · rename_i hd; rw [if_pos hd]
              split at h
              · cases h
              · rename_i hl2
                rw [if_neg (by omega), show i + 1 + 2 = (i + 2) + 1 from by omega, show i + 1 + 3 = (i + 3) + 1 from by omega, par_at (by omega : i + 2 < x.length), par_at (by omega : i + 3 < x.length)]
                split at h
                · cases h
                  rw [show i + 1 + 4 = i + 4 + 1 from by omega]
                · cases h
            · rename_i hd; rw [if_neg hd]
              split at h
              · rename_i hd; cases h; rw [if_pos hd]
              · cases h
theorem one_par_bad {i e p : Nat} (h : one x i = .error (e, p)) (hi : i < x.length) (he : e ≠ 40) : one (par x) (i + 1) = .error (e, p + 1) := by
  unfold one at h ⊢
  rw [par_len, par_at hi]
  split at h
  · cases h
  · rename_i hc
    rw [if_neg hc]
    split at h
    · cases h; exact absurd rfl he
    · rename_i hl
      rw [if_neg (by omega), show i + 1 + 1 = (i + 1) + 1 from rfl, par_at (by omega : i + 1 < x.length)]
      simp only at h ⊢
      split at h
      · cases h
      · rename_i hd; rw [if_neg hd]
        split at h
        · cases h
        · rename_i hd; rw [if_neg hd]
          split at h
          · cases h
          · rename_i hd; rw [if_neg hd]
            split at h
            · rename_i hd; rw [if_pos hd]
              split at h
              · cases h; exact absurd rfl he
              · rename_i hl2
                rw [if_neg (by omega), show i + 1 + 2 = (i + 2) + 1 from by omega, show i + 1 + 3 = (i + 3) + 1 from by omega, par_at (by omega : i + 2 < x.length), par_at (by omega : i + 3 < x.length)]
                split at h
                · cases h
                · cases h
                  rfl
            · rename_i hd; rw [if_neg hd]
              split at h
              · cases h
              · rename_i hd; cases h; rw [if_neg hd]
theorem one_par_end {i p : Nat} (h : one x i = .error (40, p)) (hi : i < x.length) : Lost (x.length + 2) (one (par x) (i + 1)) := by
  cases h1 : one (par x) (i + 1) with
  | error e => exact .inl ⟨e, rfl⟩
  | ok r =>
    obtain ⟨b, j⟩ := r
    have hj := one_ok h1 (by rw [par_len]; omega)
    rw [par_len] at hj
    refine .inr ⟨b, ?_⟩
    have : j = x.length + 2 := by
      rcases Nat.lt_or_ge j (x.length + 2) with hlt | hge
      · exfalso
        -- the escape would lie within x
        unfold one at h h1
        rw [par_len, par_at hi] at h1
        split at h
        · cases h
        · rename_i hc
          rw [if_neg hc] at h1
          split at h
          · rename_i hl
            rw [if_neg (by omega)] at h1
            simp only at h1
            have he : i + 1 = x.length := by omega
            rw [show i + 1 + 1 = x.length + 1 from by omega, par_end] at h1
            simp at h1
            obtain ⟨h1, h2⟩ := h1
            omega
          · rename_i hl
            rw [if_neg (by omega), par_at (by omega : i + 1 < x.length)] at h1
            simp only at h h1
            split at h
            · cases h
            · rename_i hd; rw [if_neg hd] at h1
              split at h
              · cases h
              · rename_i hd; rw [if_neg hd] at h1
                split at h
                · cases h
                · rename_i hd; rw [if_neg hd] at h1
                  split at h
                  · rename_i hd; rw [if_pos hd] at h1
                    split at h
                    · rename_i hl2
                      split at h1
                      · cases h1
                      · split at h1
                        · cases h1
                          omega
                        · cases h1
                    · split at h
                      · cases h
                      · cases h
                  · split at h
                    · cases h
                    · cases h
      · omega
    rw [this]

theorem member_par_ok {i b j : Nat} (h : member x i = .ok (b, j)) : member (par x) (i + 1) = .ok (b, j + 1) := by
  unfold member at h ⊢
  rw [par_len]
  split at h
  · cases h
  · rename_i hl
    rw [if_neg (by omega), par_at (by omega)]
    split at h
    · cases h
    · rename_i hc
      rw [if_neg hc]
      exact one_par_ok h (by omega)
theorem member_par_bad {i e p : Nat} (h : member x i = .error (e, p)) (he : e ≠ 40) : member (par x) (i + 1) = .error (e, p + 1) := by
  unfold member at h ⊢
  rw [par_len]
  split at h
  · cases h; exact absurd rfl he
  · rename_i hl
    rw [if_neg (by omega), par_at (by omega)]
    split at h
    · rename_i hc
      cases h
      rw [if_pos hc]
    · rename_i hc
      rw [if_neg hc]
      exact one_par_bad h (by omega) he
theorem member_par_end {i p : Nat} (h : member x i = .error (40, p)) (hi : i ≤ x.length) : Lost (x.length + 2) (member (par x) (i + 1)) := by
  unfold member at h ⊢
  rw [par_len]
  split at h
  · rename_i hl
    have : i = x.length := by omega
    subst this
    rw [if_neg (by omega), par_end, if_neg (by omega)]
    refine .inr ⟨41, ?_⟩
    unfold one
    rw [par_end]
    rfl
  · rename_i hl
    rw [if_neg (by omega), par_at (by omega)]
    split at h
    · cases h
    · rename_i hc
      rw [if_neg hc]
      exact one_par_end h (by omega)
theorem part_par_ok {i : Nat} {b : Nat × Nat} {j : Nat} (h : part x i = .ok (b, j)) : part (par x) (i + 1) = .ok (b, j + 1) := by
  unfold part at h ⊢
  cases h1 : member x i with
  | error e => rw [h1] at h; cases h
  | ok r =>
    obtain ⟨lo, j1⟩ := r
    rw [h1] at h
    rw [member_par_ok h1]
    simp only at h ⊢
    rw [par_is j1 45 (by decide)]
    by_cases hd : is x j1 45 = true
    · rw [if_pos hd] at h ⊢
      cases h2 : member x (j1 + 1) with
      | error e => rw [h2] at h; cases h
      | ok r2 =>
        obtain ⟨hi, k⟩ := r2
        rw [h2] at h
        rw [member_par_ok h2]
        simp only at h ⊢
        split at h
        · cases h
        · rename_i hlt
          cases h
          rw [if_neg hlt]
    · rw [if_neg hd] at h ⊢
      cases h
      rfl
theorem part_par_bad {i e p : Nat} (h : part x i = .error (e, p)) (he : e ≠ 40) : part (par x) (i + 1) = .error (e, p + 1) := by
  unfold part at h ⊢
  cases h1 : member x i with
  | error e1 =>
    rw [h1] at h
    cases h
    rw [member_par_bad h1 he]
  | ok r =>
    obtain ⟨lo, j1⟩ := r
    rw [h1] at h
    rw [member_par_ok h1]
    simp only at h ⊢
    rw [par_is j1 45 (by decide)]
    by_cases hd : is x j1 45 = true
    · rw [if_pos hd] at h ⊢
      cases h2 : member x (j1 + 1) with
      | error e2 =>
        rw [h2] at h
        cases h
        rw [member_par_bad h2 he]
      | ok r2 =>
        obtain ⟨hi, k⟩ := r2
        rw [h2] at h
        rw [member_par_ok h2]
        simp only at h ⊢
        split at h
        · rename_i hlt
          cases h
          rw [if_pos hlt]
        · cases h
    · rw [if_neg hd] at h
      cases h
theorem is_far {s : List Nat} {i c : Nat} (h : s.length ≤ i) : is s i c = false := by
  unfold is
  simp
  intro h2
  omega
theorem part_par_end {i p : Nat} (h : part x i = .error (40, p)) (hi : i ≤ x.length) : Lost (x.length + 2) (part (par x) (i + 1)) := by
  unfold part at h ⊢
  cases h1 : member x i with
  | error e1 =>
    rw [h1] at h
    cases h
    rcases member_par_end h1 hi with ⟨e, h2⟩ | ⟨b, h2⟩
    · rw [h2]; exact .inl ⟨e, rfl⟩
    · rw [h2]
      simp only
      rw [is_far (by rw [par_len]; omega)]
      exact .inr ⟨_, rfl⟩
  | ok r =>
    obtain ⟨lo, j1⟩ := r
    rw [h1] at h
    rw [member_par_ok h1]
    simp only at h ⊢
    rw [par_is j1 45 (by decide)]
    by_cases hd : is x j1 45 = true
    · rw [if_pos hd] at h ⊢
      have hj := is_lt hd
      cases h2 : member x (j1 + 1) with
      | error e2 =>
        rw [h2] at h
        cases h
        rcases member_par_end h2 (by omega) with ⟨e, h3⟩ | ⟨b, h3⟩
        · rw [h3]; exact .inl ⟨e, rfl⟩
        · rw [h3]
          simp only
          split
          · exact .inl ⟨_, rfl⟩
          · exact .inr ⟨_, rfl⟩
      | ok r2 =>
        obtain ⟨hi, k⟩ := r2
        rw [h2] at h
        simp only at h
        split at h
        · cases h
        · cases h
    · rw [if_neg hd] at h
      cases h

theorem parts_par_ok : ∀ (f : Nat) (more : Bool) (p : Nat → Bool) (i : Nat) (q : Nat → Bool) (j : Nat), parts x f more p i = .ok (q, j) → parts (par x) f more p (i + 1) = .ok (q, j + 1)
  | 0, _, _, _, _, _, h => by cases h
  | f + 1, more, p, i, q, j, h => by
    unfold parts at h ⊢
    rw [par_is i 93 (by decide)]
    by_cases hc : (more && is x i 93) = true
    · rw [if_pos hc] at h ⊢
      cases h
      rfl
    · rw [if_neg hc] at h ⊢
      cases h1 : part x i with
      | error e => rw [h1] at h; cases h
      | ok r =>
        obtain ⟨⟨lo, hi⟩, k⟩ := r
        rw [h1] at h
        rw [part_par_ok h1]
        exact parts_par_ok f _ _ _ _ _ h
theorem parts_par_bad : ∀ (f : Nat) (more : Bool) (p : Nat → Bool) (i e a : Nat), parts x f more p i = .error (e, a) → e ≠ 40 → e ≠ 0 → parts (par x) f more p (i + 1) = .error (e, a + 1)
  | 0, _, _, _, _, _, h, _, h0 => by cases h; exact absurd rfl h0
  | f + 1, more, p, i, e, a, h, he, h0 => by
    unfold parts at h ⊢
    rw [par_is i 93 (by decide)]
    by_cases hc : (more && is x i 93) = true
    · rw [if_pos hc] at h
      cases h
    · rw [if_neg hc] at h ⊢
      cases h1 : part x i with
      | error e =>
        rw [h1] at h
        cases h
        rw [part_par_bad h1 he]
      | ok r =>
        obtain ⟨⟨lo, hi⟩, k⟩ := r
        rw [h1] at h
        rw [part_par_ok h1]
        exact parts_par_bad f _ _ _ _ _ h he h0
theorem parts_far {s : List Nat} (f : Nat) (more : Bool) (p : Nat → Bool) (i : Nat) (h : s.length ≤ i) : ∃ e, parts s f more p i = .error e := by
  cases f with
  | zero => exact ⟨_, rfl⟩
  | succ f =>
    unfold parts
    rw [is_far h, Bool.and_false, if_neg (by decide)]
    unfold part member
    rw [if_pos h]
    exact ⟨_, rfl⟩
theorem parts_par_end : ∀ (f : Nat) (more : Bool) (p : Nat → Bool) (i a : Nat), i ≤ x.length → parts x f more p i = .error (40, a) → ∀ f', ∃ e, parts (par x) f' more p (i + 1) = .error e
  | _, _, _, _, _, _, _, 0 => ⟨_, rfl⟩
  | 0, _, _, _, _, _, h, _ + 1 => by cases h
  | f + 1, more, p, i, a, hi, h, f' + 1 => by
    unfold parts at h ⊢
    rw [par_is i 93 (by decide)]
    by_cases hc : (more && is x i 93) = true
    · rw [if_pos hc] at h
      cases h
    · rw [if_neg hc] at h ⊢
      cases h1 : part x i with
      | error e =>
        rw [h1] at h
        cases h
        rcases part_par_end h1 hi with ⟨e, h2⟩ | ⟨b, h2⟩
        · rw [h2]; exact ⟨e, rfl⟩
        · rw [h2]
          exact parts_far _ _ _ _ (by rw [par_len]; omega)
      | ok r =>
        obtain ⟨⟨lo, hi'⟩, k⟩ := r
        rw [h1] at h
        rw [part_par_ok h1]
        exact parts_par_end f _ _ _ _ (part_ok h1).2 h f'
theorem parts_more {s : List Nat} : ∀ (f : Nat) (more : Bool) (p : Nat → Bool) (i : Nat) (r : Except Bad ((Nat → Bool) × Nat)), parts s f more p i = r → (∀ a, r ≠ .error (0, a)) → parts s (f + 1) more p i = r
  | 0, _, _, _, r, h, h0 => by exact absurd h.symm (h0 0)
  | f + 1, more, p, i, r, h, h0 => by
    unfold parts at h ⊢
    by_cases hc : (more && is s i 93) = true
    · rw [if_pos hc] at h ⊢
      exact h
    · rw [if_neg hc] at h ⊢
      cases h1 : part s i with
      | error e => rw [h1] at h; exact h
      | ok r1 =>
        obtain ⟨⟨lo, hi'⟩, k⟩ := r1
        rw [h1] at h
        exact parts_more f _ _ _ _ h h0
theorem class_par_ok {i : Nat} {q : Nat → Bool} {j : Nat} (h : class_ x i = .ok (q, j)) : class_ (par x) (i + 1) = .ok (q, j + 1) := by
  unfold class_ at h ⊢
  rw [par_is (i + 1) 94 (by decide), par_len]
  simp only at h ⊢
  have e : (if is x (i + 1) 94 = true then i + 1 + 2 else i + 1 + 1) = (if is x (i + 1) 94 = true then i + 2 else i + 1) + 1 := by split <;> rfl
  rw [e]
  cases h1 : parts x (x.length + 1) false noS (if is x (i + 1) 94 = true then i + 2 else i + 1) with
  | error e => rw [h1] at h; cases h
  | ok r =>
    obtain ⟨p, k⟩ := r
    rw [h1] at h
    have h2 := parts_more _ _ _ _ _ (parts_more _ _ _ _ _ (parts_par_ok _ _ _ _ _ _ h1) (fun a => by simp)) (fun a => by simp)
    rw [h2]
    simp only at h ⊢
    split at h
    · cases h
    · rename_i hz
      cases h
      rw [if_neg hz]
theorem class_par_bad {i e a : Nat} (h : class_ x i = .error (e, a)) (he : e ≠ 40) (h0 : e ≠ 0) : class_ (par x) (i + 1) = .error (e, a + 1) := by
  unfold class_ at h ⊢
  rw [par_is (i + 1) 94 (by decide), par_len]
  simp only at h ⊢
  have e1 : (if is x (i + 1) 94 = true then i + 1 + 2 else i + 1 + 1) = (if is x (i + 1) 94 = true then i + 2 else i + 1) + 1 := by split <;> rfl
  rw [e1]
  cases h1 : parts x (x.length + 1) false noS (if is x (i + 1) 94 = true then i + 2 else i + 1) with
  | error e2 =>
    rw [h1] at h
    cases h
    have h2 := parts_more _ _ _ _ _ (parts_more _ _ _ _ _ (parts_par_bad _ _ _ _ _ _ h1 he h0) (fun a => by simp [h0])) (fun a => by simp [h0])
    rw [h2]
  | ok r =>
    obtain ⟨p, k⟩ := r
    rw [h1] at h
    have h2 := parts_more _ _ _ _ _ (parts_more _ _ _ _ _ (parts_par_ok _ _ _ _ _ _ h1) (fun a => by simp)) (fun a => by simp)
    rw [h2]
    simp only at h ⊢
    split at h
    · rename_i hz
      cases h
      rw [if_pos hz]
    · cases h
theorem class_par_end {i a : Nat} (h : class_ x i = .error (40, a)) (hi : i < x.length) : ∃ e, class_ (par x) (i + 1) = .error e := by
  unfold class_ at h ⊢
  rw [par_is (i + 1) 94 (by decide), par_len]
  simp only at h ⊢
  have e1 : (if is x (i + 1) 94 = true then i + 1 + 2 else i + 1 + 1) = (if is x (i + 1) 94 = true then i + 2 else i + 1) + 1 := by split <;> rfl
  rw [e1]
  have hle : (if is x (i + 1) 94 = true then i + 2 else i + 1) ≤ x.length := by
    split
    · rename_i hn
      have := is_lt hn
      omega
    · omega
  cases h1 : parts x (x.length + 1) false noS (if is x (i + 1) 94 = true then i + 2 else i + 1) with
  | error e2 =>
    rw [h1] at h
    cases h
    obtain ⟨e, h2⟩ := parts_par_end _ _ _ _ _ hle h1 (x.length + 2 + 1)
    rw [h2]
    exact ⟨e, rfl⟩
  | ok r =>
    obtain ⟨p, k⟩ := r
    rw [h1] at h
    simp only at h
    split at h
    · cases h
    · cases h
end

end Go.Proofs.YtcidimjjclanmaaDoor.Sy

/- A pattern in parentheses: bounds, names, and the whole. Plain lists. -/
namespace Go.Proofs.YtcidimjjclanmaaDoor.Sy

section
variable {s x : List Nat}
/-- The digits from i on end at j. -/
theorem digEnd_spec : ∀ (f i : Nat), i ≤ s.length → s.length ≤ f + i → (∀ k, i ≤ k → k < digEnd s f i → dig s k = true) ∧ dig s (digEnd s f i) = false ∧ digEnd s f i ≤ s.length
  | 0, i, h0, h => by
    have : i = s.length := by omega
    subst this
    refine ⟨fun k h1 h2 => ?_, ?_, Nat.le_refl _⟩
    · unfold digEnd at h2; omega
    · unfold digEnd dig; simp
  | f + 1, i, h0, h => by
    unfold digEnd
    by_cases hd : dig s i = true
    · rw [if_pos hd]
      have hlt : i < s.length := by unfold dig at hd; simp at hd; exact hd.1
      obtain ⟨h1, h2, h3⟩ := digEnd_spec f (i + 1) hlt (by omega)
      refine ⟨fun k k1 k2 => ?_, h2, h3⟩
      rcases Nat.lt_or_ge i k with hk | hk
      · exact h1 k hk k2
      · rw [show k = i from by omega]; exact hd
    · rw [if_neg hd]
      exact ⟨fun k k1 k2 => by omega, by simpa using hd, h0⟩
theorem digEnd_uniq {i j : Nat} (f : Nat) (h0 : i ≤ s.length) (hf : s.length ≤ f + i) (hj : i ≤ j) (h1 : ∀ k, i ≤ k → k < j → dig s k = true) (h2 : dig s j = false) : digEnd s f i = j := by
  obtain ⟨a1, a2, a3⟩ := digEnd_spec (s := s) f i h0 hf
  have a0 := digEnd_ge (s := s) f i
  rcases Nat.lt_trichotomy (digEnd s f i) j with h | h | h
  · have := h1 _ a0 h
    rw [a2] at this; cases this
  · exact h
  · have := a1 j hj h
    rw [h2] at this; cases this
theorem dig_lt {i : Nat} (h : dig s i = true) : i < s.length := by unfold dig at h; simp at h; exact h.1
theorem digEnd_par {i : Nat} (hi : i ≤ x.length) : digEnd (par x) (par x).length (i + 1) = digEnd x x.length i + 1 := by
  obtain ⟨a1, a2, a3⟩ := digEnd_spec (s := x) x.length i hi (by omega)
  have a0 := digEnd_ge (s := x) x.length i
  refine digEnd_uniq _ (by rw [par_len]; omega) (by omega) (by omega) (fun k k1 k2 => ?_) (by rw [par_dig]; exact a2)
  obtain ⟨m, rfl⟩ : ∃ m, k = m + 1 := ⟨k - 1, by omega⟩
  rw [par_dig]
  exact a1 m (by omega) (by omega)
theorem par_cut {i j : Nat} (hj : j ≤ x.length) : cut (par x) (i + 1) (j + 1) = cut x i j := by
  unfold cut par
  rw [List.drop_succ_cons, show j + 1 - (i + 1) = j - i from by omega]
  rcases Nat.lt_or_ge i j with h | h
  · rw [List.drop_append_of_le_length (by omega), List.take_append_of_le_length (by rw [List.length_drop]; omega)]
  · rw [show j - i = 0 from by omega]
    simp
theorem number_par {i j : Nat} (hi : i < x.length) (hj : j ≤ x.length) : number (par x) (i + 1) (j + 1) = number x i j := by
  unfold number
  rw [par_at hi, par_cut hj, show j + 1 - (i + 1) = j - i from by omega]
theorem lo_par {i : Nat} (h : dig x (i + 1) = true) : loEnd (par x) (i + 1) = loEnd x i + 1 ∧ loPart (par x) (i + 1) = loPart x i ∧ loEnd x i ≤ x.length := by
  have hl := dig_lt h
  have e : loEnd (par x) (i + 1) = loEnd x i + 1 := digEnd_par (by omega)
  have hle : loEnd x i ≤ x.length := (digEnd_spec (s := x) x.length (i + 1) (by omega) (by omega)).2.2
  refine ⟨e, ?_, hle⟩
  unfold loPart
  rw [e, number_par (i := i + 1) hl hle]
theorem hi_par (lo : Option Nat) {j : Nat} (hj : j ≤ x.length) : hiPart (par x) lo (j + 1) = ((hiPart x lo j).1, (hiPart x lo j).2 + 1) ∧ (hiPart x lo j).2 ≤ x.length := by
  unfold hiPart
  rw [par_is j 44 (by decide), par_dig]
  by_cases h : is x j 44 = true
  · have hl := is_lt h
    rw [if_pos h, if_pos h]
    by_cases hd : dig x (j + 1) = true
    · have hd2 := dig_lt hd
      have hle := (digEnd_spec (s := x) x.length (j + 1) (by omega) (by omega)).2.2
      rw [if_pos hd, if_pos hd]
      rw [digEnd_par (by omega), number_par hd2 hle]
      exact ⟨rfl, hle⟩
    · rw [if_neg hd, if_neg hd]
      exact ⟨rfl, hl.1⟩
  · rw [if_neg h, if_neg h]
    exact ⟨rfl, hj⟩
theorem bounds_par_ok {i : Nat} {b : Int × Int} {j : Nat} (hd : dig x (i + 1) = true) (h : bounds x i = .ok (b, j)) : bounds (par x) (i + 1) = .ok (b, j + 1) := by
  obtain ⟨e1, e2, e3⟩ := lo_par hd
  obtain ⟨f1, f2⟩ := hi_par (x := x) (loPart x i) e3
  unfold bounds at h ⊢
  rw [e1, e2, f1, par_len]
  simp only
  split at h
  · cases h
  · rename_i hl
    rw [if_neg (by omega), par_at (by omega)]
    split at h
    · cases h
    · rename_i hc
      rw [if_neg hc]
      cases ho : okBounds (loPart x i) (hiPart x (loPart x i) (loEnd x i)).1 with
      | none => rw [ho] at h; cases h
      | some b' => rw [ho] at h; cases h; rfl
theorem bounds_par_bad {i e a : Nat} (hd : dig x (i + 1) = true) (h : bounds x i = .error (e, a)) (he : e ≠ 40) : bounds (par x) (i + 1) = .error (e, a + 1) := by
  obtain ⟨e1, e2, e3⟩ := lo_par hd
  obtain ⟨f1, f2⟩ := hi_par (x := x) (loPart x i) e3
  unfold bounds at h ⊢
  rw [e1, e2, f1, par_len]
  simp only
  split at h
  · cases h; exact absurd rfl he
  · rename_i hl
    rw [if_neg (by omega), par_at (by omega)]
    split at h
    · rename_i hc
      cases h
      rw [if_pos hc]
    · rename_i hc
      rw [if_neg hc]
      cases ho : okBounds (loPart x i) (hiPart x (loPart x i) (loEnd x i)).1 with
      | none => rw [ho] at h; cases h; rfl
      | some b' => rw [ho] at h; cases h
theorem bounds_par_end {i a : Nat} (hd : dig x (i + 1) = true) (h : bounds x i = .error (40, a)) : ∃ e, bounds (par x) (i + 1) = .error e := by
  obtain ⟨e1, e2, e3⟩ := lo_par hd
  obtain ⟨f1, f2⟩ := hi_par (x := x) (loPart x i) e3
  unfold bounds at h ⊢
  rw [e1, e2, f1, par_len]
  simp only
  split at h
  · rename_i hl
    have e : (hiPart x (loPart x i) (loEnd x i)).2 = x.length := by omega
    rw [e, if_neg (by omega), par_end, if_pos (by decide)]
    exact ⟨_, rfl⟩
  · split at h
    · cases h
    · split at h
      · cases h
      · cases h

theorem braceEnd_spec : ∀ (f i : Nat), i ≤ s.length → s.length ≤ f + i → (∀ k, i ≤ k → k < braceEnd s f i → at_ s k ≠ 125) ∧ braceEnd s f i ≤ s.length ∧ (braceEnd s f i < s.length → at_ s (braceEnd s f i) = 125)
  | 0, i, h0, h => by
    have : i = s.length := by omega
    subst this
    refine ⟨fun k h1 h2 => ?_, Nat.le_refl _, fun h => ?_⟩
    · unfold braceEnd at h2; omega
    · unfold braceEnd at h; omega
  | f + 1, i, h0, h => by
    unfold braceEnd
    by_cases hl : i < s.length
    · rw [if_pos hl]
      by_cases hd : at_ s i = 125
      · rw [if_pos hd]
        exact ⟨fun k k1 k2 => by omega, h0, fun _ => hd⟩
      · rw [if_neg hd]
        obtain ⟨h1, h2, h3⟩ := braceEnd_spec f (i + 1) hl (by omega)
        refine ⟨fun k k1 k2 => ?_, h2, h3⟩
        rcases Nat.lt_or_ge i k with hk | hk
        · exact h1 k hk k2
        · rw [show k = i from by omega]; exact hd
    · rw [if_neg hl]
      exact ⟨fun k k1 k2 => by omega, h0, fun h => absurd h hl⟩
theorem braceEnd_uniq {i j : Nat} (f : Nat) (h0 : i ≤ s.length) (hf : s.length ≤ f + i) (hj : i ≤ j) (h1 : ∀ k, i ≤ k → k < j → at_ s k ≠ 125) (h2 : j ≤ s.length) (h3 : j < s.length → at_ s j = 125) : braceEnd s f i = j := by
  obtain ⟨a1, a2, a3⟩ := braceEnd_spec (s := s) f i h0 hf
  have a0 := braceEnd_ge (s := s) f i
  rcases Nat.lt_trichotomy (braceEnd s f i) j with h | h | h
  · exact absurd (a3 (by omega)) (h1 _ a0 h)
  · exact h
  · exact absurd (h3 (by omega)) (a1 j hj h)
theorem brace_par_in {i : Nat} (hi : i ≤ x.length) (h : braceEnd x x.length i < x.length) : braceEnd (par x) (par x).length (i + 1) = braceEnd x x.length i + 1 := by
  obtain ⟨a1, a2, a3⟩ := braceEnd_spec (s := x) x.length i hi (by omega)
  have a0 := braceEnd_ge (s := x) x.length i
  refine braceEnd_uniq _ (by rw [par_len]; omega) (by omega) (by omega) (fun k k1 k2 => ?_) (by rw [par_len]; omega) (fun _ => by rw [par_at h]; exact a3 h)
  obtain ⟨m, rfl⟩ : ∃ m, k = m + 1 := ⟨k - 1, by omega⟩
  rw [par_at (by omega)]
  exact a1 m (by omega) (by omega)
theorem brace_par_out {i : Nat} (hi : i ≤ x.length) (h : x.length ≤ braceEnd x x.length i) : braceEnd (par x) (par x).length (i + 1) = x.length + 2 := by
  obtain ⟨a1, a2, a3⟩ := braceEnd_spec (s := x) x.length i hi (by omega)
  refine braceEnd_uniq _ (by rw [par_len]; omega) (by omega) (by omega) (fun k k1 k2 => ?_) (by rw [par_len]; omega) (fun h => by rw [par_len] at h; omega)
  obtain ⟨m, rfl⟩ : ∃ m, k = m + 1 := ⟨k - 1, by omega⟩
  rcases Nat.lt_or_ge m x.length with hm | hm
  · rw [par_at hm]
    exact a1 m (by omega) (by omega)
  · rw [show m = x.length from by omega, par_end]
    decide
theorem name_par_ok {i : Nat} {nm : List Nat} {j : Nat} (hi : i < x.length) (h : name_ x i = .ok (nm, j)) : name_ (par x) (i + 1) = .ok (nm, j + 1) := by
  unfold name_ at h ⊢
  simp only at h ⊢
  split at h
  · cases h
  · rename_i hl
    rw [brace_par_in (i := i + 1) (by omega) (by omega), par_len, if_neg (by omega), par_cut (by omega)]
    split at h
    · rename_i hn
      cases h
      rw [if_pos hn]
    · cases h
theorem name_par_bad {i e a : Nat} (hi : i < x.length) (h : name_ x i = .error (e, a)) (he : e ≠ 40) : name_ (par x) (i + 1) = .error (e, a + 1) := by
  unfold name_ at h ⊢
  simp only at h ⊢
  split at h
  · cases h; exact absurd rfl he
  · rename_i hl
    rw [brace_par_in (i := i + 1) (by omega) (by omega), par_len, if_neg (by omega), par_cut (by omega)]
    split at h
    · cases h
    · rename_i hn
      cases h
      rw [if_neg hn]
theorem name_par_end {i a : Nat} (hi : i < x.length) (h : name_ x i = .error (40, a)) : ∃ e, name_ (par x) (i + 1) = .error e := by
  unfold name_ at h ⊢
  simp only at h ⊢
  split at h
  · rename_i hl
    rw [brace_par_out (i := i + 1) (by omega) hl, par_len, if_pos (by omega)]
    exact ⟨_, rfl⟩
  · split at h
    · cases h
    · cases h

/-- The same, within one parenthesis more. -/
def sh (σ : St) : St := { σ with at_ := σ.at_ + 1, st := σ.st ++ [([], [])] }
theorem sh_item (σ : St) (n : Nd) (j : Nat) : item (sh σ) n (j + 1) = sh (item σ n j) := rfl
theorem sh_rep (σ : St) (lo hi : Int) (j : Nat) : rep (sh σ) lo hi (j + 1) = sh (rep σ lo hi j) := rfl

theorem atom_par_ok {σ τ : St} (hi : σ.at_ < x.length) (hd : at_ x σ.at_ = 40 → σ.st.length < 63) (h : atom x σ = .ok τ) : atom (par x) (sh σ) = .ok (sh τ) := by
  unfold atom at h ⊢
  simp only [show (sh σ).at_ = σ.at_ + 1 from rfl, par_at hi, par_dig] at h ⊢
  split at h
  · rename_i hc
    have := hd hc
    rw [if_pos hc, if_neg (by simp [sh]; omega)]
    split at h
    · cases h
    · cases h
      rfl
  · rename_i hc; rw [if_neg hc]
    split at h
    · rename_i hc; rw [if_pos hc]
      cases h1 : class_ x σ.at_ with
      | error e => rw [h1] at h; cases h
      | ok r => obtain ⟨p, j⟩ := r; rw [h1] at h; cases h; rw [class_par_ok h1]; rfl
    · rename_i hc; rw [if_neg hc]
      split at h
      · rename_i hc; rw [if_pos hc]; cases h; rfl
      · rename_i hc; rw [if_neg hc]
        split at h
        · rename_i hc; rw [if_pos hc]
          cases h1 : name_ x σ.at_ with
          | error e => rw [h1] at h; cases h
          | ok r => obtain ⟨p, j⟩ := r; rw [h1] at h; cases h; rw [name_par_ok hi h1]; rfl
        · rename_i hc; rw [if_neg hc]
          split at h
          · cases h
          · rename_i hc; rw [if_neg hc]
            split at h
            · cases h
            · rename_i hc; rw [if_neg hc]
              cases h1 : one x σ.at_ with
              | error e => rw [h1] at h; cases h
              | ok r => obtain ⟨p, j⟩ := r; rw [h1] at h; cases h; rw [one_par_ok h1 hi]; rfl
theorem step_par_ok {σ τ : St} (hi : σ.at_ < x.length) (hd : at_ x σ.at_ = 40 → σ.st.length < 63) (h : step x σ = .ok τ) : step (par x) (sh σ) = .ok (sh τ) := by
  unfold step at h ⊢
  simp only [show (sh σ).at_ = σ.at_ + 1 from rfl, show (sh σ).is = σ.is from rfl, show (sh σ).ns = σ.ns from rfl, show (sh σ).as = σ.as from rfl, show (sh σ).st = σ.st ++ [([], [])] from rfl, par_at hi, par_dig] at h ⊢
  split at h
  · rename_i hc; rw [if_pos hc]; cases h; rfl
  · rename_i hc; rw [if_neg hc]
    split at h
    · rename_i hc; rw [if_pos hc]
      cases hst : σ.st with
      | nil => rw [hst] at h; cases h
      | cons f r =>
        obtain ⟨as, is⟩ := f
        rw [hst] at h
        cases h
        rfl
    · rename_i hc; rw [if_neg hc]
      split at h
      · rename_i hc; rw [if_pos hc]; cases h; rfl
      · rename_i hc; rw [if_neg hc]
        split at h
        · rename_i hc; rw [if_pos hc]; cases h; rfl
        · rename_i hc; rw [if_neg hc]
          split at h
          · rename_i hc; rw [if_pos hc]; cases h; rfl
          · rename_i hc; rw [if_neg hc]
            split at h
            · rename_i hc; rw [if_pos hc]
              cases h1 : bounds x σ.at_ with
              | error e => rw [h1] at h; cases h
              | ok r => obtain ⟨⟨lo, hi⟩, j⟩ := r; rw [h1] at h; cases h; rw [bounds_par_ok hc.2.2 h1]; rfl
            · rename_i hc; rw [if_neg hc]
              exact atom_par_ok hi hd h
end

end Go.Proofs.YtcidimjjclanmaaDoor.Sy

/- A pattern in parentheses: what is wrong with it, and the whole. Plain lists. -/
namespace Go.Proofs.YtcidimjjclanmaaDoor.Sy

section
variable {x : List Nat}
theorem atom_par_bad {σ : St} {e a : Nat} (hi : σ.at_ < x.length) (hd : at_ x σ.at_ = 40 → σ.st.length < 63) (h : atom x σ = .error (e, a)) (he : e ≠ 40) (h0 : e ≠ 0) : atom (par x) (sh σ) = .error (e, a + 1) := by
  unfold atom at h ⊢
  simp only [show (sh σ).at_ = σ.at_ + 1 from rfl, par_at hi, par_dig] at h ⊢
  split at h
  · rename_i hc
    have := hd hc
    rw [if_neg (by omega)] at h
    cases h
  · rename_i hc; rw [if_neg hc]
    split at h
    · rename_i hc; rw [if_pos hc]
      cases h1 : class_ x σ.at_ with
      | error e => rw [h1] at h; cases h; rw [class_par_bad h1 he h0]
      | ok r => rw [h1] at h; cases h
    · rename_i hc; rw [if_neg hc]
      split at h
      · cases h
      · rename_i hc; rw [if_neg hc]
        split at h
        · rename_i hc; rw [if_pos hc]
          cases h1 : name_ x σ.at_ with
          | error e => rw [h1] at h; cases h; rw [name_par_bad hi h1 he]
          | ok r => rw [h1] at h; cases h
        · rename_i hc; rw [if_neg hc]
          split at h
          · rename_i hc; rw [if_pos hc]; cases h; rfl
          · rename_i hc; rw [if_neg hc]
            split at h
            · rename_i hc; rw [if_pos hc]; cases h; rfl
            · rename_i hc; rw [if_neg hc]
              cases h1 : one x σ.at_ with
              | error e => rw [h1] at h; cases h; rw [one_par_bad h1 hi he]
              | ok r => rw [h1] at h; cases h
theorem step_par_bad {σ : St} {e a : Nat} (hi : σ.at_ < x.length) (hd : at_ x σ.at_ = 40 → σ.st.length < 63) (h : step x σ = .error (e, a)) (he : e ≠ 40) (h0 : e ≠ 0) : step (par x) (sh σ) = .error (e, a + 1) ∨ (e = 41 ∧ a < x.length ∧ at_ x a = 41) := by
  unfold step at h ⊢
  simp only [show (sh σ).at_ = σ.at_ + 1 from rfl, show (sh σ).is = σ.is from rfl, show (sh σ).ns = σ.ns from rfl, show (sh σ).as = σ.as from rfl, show (sh σ).st = σ.st ++ [([], [])] from rfl, par_at hi, par_dig] at h ⊢
  split at h
  · cases h
  · rename_i hc; rw [if_neg hc]
    split at h
    · rename_i hc
      cases hst : σ.st with
      | nil =>
        rw [hst] at h
        cases h
        exact .inr ⟨rfl, hi, hc⟩
      | cons f r => rw [hst] at h; cases h
    · rename_i hc; rw [if_neg hc]
      split at h
      · cases h
      · rename_i hc; rw [if_neg hc]
        split at h
        · cases h
        · rename_i hc; rw [if_neg hc]
          split at h
          · cases h
          · rename_i hc; rw [if_neg hc]
            split at h
            · rename_i hc; rw [if_pos hc]
              cases h1 : bounds x σ.at_ with
              | error e => rw [h1] at h; cases h; rw [bounds_par_bad hc.2.2 h1 he]; exact .inl rfl
              | ok r => rw [h1] at h; cases h
            · rename_i hc; rw [if_neg hc]
              exact .inl (atom_par_bad hi hd h he h0)

/-- At the end of x something is missing: in parentheses too, or all is read and a parenthesis stands open. -/
def LostS (n : Nat) (r : Except Bad St) : Prop := (∃ e, r = .error e) ∨ ∃ τ, r = .ok τ ∧ τ.at_ = n ∧ τ.st ≠ []
theorem atom_par_end {σ : St} {a : Nat} (hi : σ.at_ < x.length) (h : atom x σ = .error (40, a)) : LostS (x.length + 2) (atom (par x) (sh σ)) := by
  unfold atom at h ⊢
  simp only [show (sh σ).at_ = σ.at_ + 1 from rfl, par_at hi, par_dig] at h ⊢
  split at h
  · split at h
    · cases h
    · cases h
  · rename_i hc; rw [if_neg hc]
    split at h
    · rename_i hc; rw [if_pos hc]
      cases h1 : class_ x σ.at_ with
      | error e =>
        rw [h1] at h
        cases h
        obtain ⟨e, h2⟩ := class_par_end h1 hi
        rw [h2]
        exact .inl ⟨e, rfl⟩
      | ok r => rw [h1] at h; cases h
    · rename_i hc; rw [if_neg hc]
      split at h
      · cases h
      · rename_i hc; rw [if_neg hc]
        split at h
        · rename_i hc; rw [if_pos hc]
          cases h1 : name_ x σ.at_ with
          | error e =>
            rw [h1] at h
            cases h
            obtain ⟨e, h2⟩ := name_par_end hi h1
            rw [h2]
            exact .inl ⟨e, rfl⟩
          | ok r => rw [h1] at h; cases h
        · rename_i hc; rw [if_neg hc]
          split at h
          · cases h
          · rename_i hc; rw [if_neg hc]
            split at h
            · cases h
            · rename_i hc; rw [if_neg hc]
              cases h1 : one x σ.at_ with
              | error e =>
                rw [h1] at h
                cases h
                rcases one_par_end h1 hi with ⟨e, h2⟩ | ⟨b, h2⟩
                · rw [h2]; exact .inl ⟨e, rfl⟩
                · rw [h2]; exact .inr ⟨_, rfl, rfl, by simp [item, sh]⟩
              | ok r => rw [h1] at h; cases h
theorem step_par_end {σ : St} {a : Nat} (hi : σ.at_ < x.length) (h : step x σ = .error (40, a)) : LostS (x.length + 2) (step (par x) (sh σ)) := by
  unfold step at h ⊢
  simp only [show (sh σ).at_ = σ.at_ + 1 from rfl, show (sh σ).is = σ.is from rfl, show (sh σ).ns = σ.ns from rfl, show (sh σ).as = σ.as from rfl, show (sh σ).st = σ.st ++ [([], [])] from rfl, par_at hi, par_dig] at h ⊢
  split at h
  · cases h
  · rename_i hc; rw [if_neg hc]
    split at h
    · cases hst : σ.st with
      | nil => rw [hst] at h; cases h
      | cons f r => rw [hst] at h; cases h
    · rename_i hc; rw [if_neg hc]
      split at h
      · cases h
      · rename_i hc; rw [if_neg hc]
        split at h
        · cases h
        · rename_i hc; rw [if_neg hc]
          split at h
          · cases h
          · rename_i hc; rw [if_neg hc]
            split at h
            · rename_i hc; rw [if_pos hc]
              cases h1 : bounds x σ.at_ with
              | error e =>
                rw [h1] at h
                cases h
                obtain ⟨e, h2⟩ := bounds_par_end hc.2.2 h1
                rw [h2]
                exact .inl ⟨e, rfl⟩
              | ok r => rw [h1] at h; cases h
            · rename_i hc; rw [if_neg hc]
              exact atom_par_end hi h

/-- No more parentheses are open than have been read. -/
theorem atom_deep {s : List Nat} {σ τ : St} (h : atom s σ = .ok τ) : τ.st.length ≤ σ.st.length + (if at_ s σ.at_ = 40 then 1 else 0) := by
  unfold atom at h
  simp only at h
  split at h
  · rename_i hc
    rw [if_pos hc]
    split at h
    · cases h
    · cases h; simp
  · rename_i hc
    rw [if_neg hc]
    split at h
    · split at h
      · cases h
      · cases h; exact Nat.le_refl _
    · split at h
      · cases h; exact Nat.le_refl _
      · split at h
        · split at h
          · cases h
          · cases h; exact Nat.le_refl _
        · split at h
          · cases h
          · split at h
            · cases h
            · split at h
              · cases h
              · cases h; exact Nat.le_refl _
theorem step_deep {s : List Nat} {σ τ : St} (h : step s σ = .ok τ) : τ.st.length ≤ σ.st.length + (if at_ s σ.at_ = 40 then 1 else 0) := by
  unfold step at h
  simp only at h
  split at h
  · cases h; exact Nat.le_add_right _ _
  · split at h
    · split at h
      · cases h
      · rename_i hst
        cases h
        rw [hst]
        simp
        omega
    · split at h
      · cases h; exact Nat.le_add_right _ _
      · split at h
        · cases h; exact Nat.le_add_right _ _
        · split at h
          · cases h; exact Nat.le_add_right _ _
          · split at h
            · split at h
              · cases h
              · cases h; exact Nat.le_add_right _ _
            · exact atom_deep h
/-- How many parentheses open ahead of a place. -/
def opens (s : List Nat) (i : Nat) : Nat := (s.take i).count 40
theorem opens_le (s : List Nat) {i j : Nat} (h : i ≤ j) : opens s i ≤ opens s j := by
  unfold opens
  rw [show s.take i = (s.take j).take i from by rw [List.take_take, Nat.min_eq_left h]]
  exact (List.take_sublist i (s.take j)).count_le 40
theorem opens_next {s : List Nat} {i : Nat} (h : i < s.length) (hc : at_ s i = 40) : opens s (i + 1) = opens s i + 1 := by
  unfold opens
  rw [List.take_succ_eq_append_getElem h, List.count_append]
  have : s[i] = 40 := by
    unfold at_ at hc
    rw [List.getD_eq_getElem?_getD, List.getElem?_eq_getElem h] at hc
    exact hc
  rw [this]
  simp
theorem opens_all (s : List Nat) (i : Nat) : opens s i ≤ s.count 40 := (List.take_sublist i s).count_le 40

theorem run_sh_end {σ : St} (he : σ.at_ = x.length) : run (par x) (sh σ) = match σ.st with | [] => .ok (close σ.ns σ.as σ.is).1 | _ => .error (40, x.length + 2) := by
  have hi : (sh σ).at_ < (par x).length := by rw [par_len]; show σ.at_ + 1 < _; omega
  have hc : at_ (par x) (sh σ).at_ = 41 := by show at_ (par x) (σ.at_ + 1) = 41; rw [he]; exact par_end
  cases hst : σ.st with
  | nil =>
    have hs : step (par x) (sh σ) = .ok ⟨σ.at_ + 2, (close σ.ns σ.as σ.is).1, [], [], [(close σ.ns σ.as σ.is).2]⟩ := by
      unfold step
      simp only [hc]
      rw [if_neg (by decide), if_pos trivial]
      simp [sh, hst]
    rw [run_ok hi hs, run_end (by rw [par_len]; simp only; omega)]
    rfl
  | cons f r =>
    obtain ⟨as, is⟩ := f
    have hs : step (par x) (sh σ) = .ok ⟨σ.at_ + 2, (close σ.ns σ.as σ.is).1, r ++ [([], [])], as, is ++ [(close σ.ns σ.as σ.is).2]⟩ := by
      unfold step
      simp only [hc]
      rw [if_neg (by decide), if_pos trivial]
      simp [sh, hst]
    rw [run_ok hi hs, run_end (by rw [par_len]; simp only; omega)]
    unfold fin
    simp only
    split
    · rename_i h
      simp at h
    · rw [par_len]

/-- What a result in parentheses must be. -/
def Grp (x : List Nat) (r r' : Except Bad (List Nd)) : Prop :=
  match r with
  | .ok ns => r' = .ok ns
  | .error (e, a) => if e = 40 then ∃ e', r' = .error e' else r' = .error (e, a + 1) ∨ (e = 41 ∧ a < x.length ∧ at_ x a = 41)
theorem runF_par (hx : x.count 40 < 64) : ∀ (f : Nat) (σ : St), σ.at_ ≤ x.length → x.length + 1 - σ.at_ ≤ f → σ.st.length ≤ opens x σ.at_ → Grp x (runF x f σ) (run (par x) (sh σ))
  | 0, σ, h0, h1, _ => by omega
  | f + 1, σ, h0, h1, hd => by
    rw [runF_succ]
    by_cases hi : σ.at_ < x.length
    · rw [if_pos hi]
      have hi2 : (sh σ).at_ < (par x).length := by rw [par_len]; show σ.at_ + 1 < _; omega
      have hop : at_ x σ.at_ = 40 → σ.st.length < 63 := fun hc => by
        have a1 := opens_next hi hc
        have a2 := opens_all x (σ.at_ + 1)
        omega
      cases hs : step x σ with
      | error e =>
        obtain ⟨e, a⟩ := e
        have hf := step_bad hi hs
        show if e = 40 then _ else _
        by_cases he : e = 40
        · rw [if_pos he]
          subst he
          rcases step_par_end hi hs with ⟨e', h2⟩ | ⟨τ, h2, h3, h4⟩
          · exact ⟨e', run_bad hi2 h2⟩
          · rw [run_ok hi2 h2, run_end (by rw [par_len]; exact h3)]
            unfold fin
            split
            · rename_i h5; exact absurd h5 h4
            · exact ⟨_, rfl⟩
        · rw [if_neg he]
          have h40 := hf.2.2.1
          simp only at h40
          rcases step_par_bad hi hop hs he (by omega) with h2 | h2
          · exact .inl (run_bad hi2 h2)
          · exact .inr h2
      | ok τ =>
        have hk := step_ok hi hs
        have hdp := step_deep hs
        rw [run_ok hi2 (step_par_ok hi hop hs)]
        refine runF_par hx f τ hk.2 (by omega) ?_
        have hm := opens_le x (i := σ.at_ + 1) (j := τ.at_) (by omega)
        split at hdp
        · rename_i hc
          have := opens_next hi hc
          omega
        · have := opens_le x (i := σ.at_) (j := τ.at_) (by omega)
          omega
    · rw [if_neg hi, run_sh_end (by omega)]
      unfold fin
      cases hst : σ.st with
      | nil => rfl
      | cons f r => exact ⟨_, rfl⟩
/-- P4.2, P4.3: a pattern in parentheses. -/
theorem parse_par (hx : x.count 40 < 64) (hl : x.length ≤ 500) : Grp x (parse x) (parse (par x)) := by
  rw [parse_short (by omega), parse_short (by rw [par_len]; omega)]
  have h1 : run (par x) start = run (par x) (sh start) := by
    refine run_ok (by rw [par_len]; show 0 < _; omega) ?_
    unfold step atom
    simp [start, sh, at_, par]
  rw [h1]
  exact runF_par hx _ start (Nat.zero_le _) (Nat.le_refl _) (Nat.zero_le _)
end

end Go.Proofs.YtcidimjjclanmaaDoor.Sy

/- The patterns of the laws: letters, letters with bars, a name in braces, bounds. Plain lists. -/
namespace Go.Proofs.YtcidimjjclanmaaDoor.Sy

theorem at_app (p q : List Nat) (c : Nat) : at_ (p ++ c :: q) p.length = c := by
  unfold at_
  rw [List.getD_eq_getElem?_getD, List.getElem?_append_right (Nat.le_refl _)]
  simp
theorem at_app2 {p q : List Nat} {i : Nat} (h : i < p.length) : at_ (p ++ q) i = at_ p i := by
  unfold at_
  rw [List.getD_eq_getElem?_getD, List.getD_eq_getElem?_getD, List.getElem?_append_left h]
theorem at_app3 (p q : List Nat) (i : Nat) : at_ (p ++ q) (p.length + i) = at_ q i := by
  unfold at_
  rw [List.getD_eq_getElem?_getD, List.getD_eq_getElem?_getD, List.getElem?_append_right (by omega), show p.length + i - p.length = i from by omega]

section
variable {s : List Nat}
/-- A byte that stands for itself. -/
theorem step_plain {σ : St} (h : specialB (at_ s σ.at_) = false) : step s σ = .ok (item σ (ndBytes (oneS (at_ s σ.at_))) (σ.at_ + 1)) := by
  have hne : ∀ c, specialB c = true → at_ s σ.at_ ≠ c := fun c hc e => by rw [e, hc] at h; cases h
  have n1 := hne 124 (by decide)
  have n2 := hne 41 (by decide)
  have n3 := hne 42 (by decide)
  have n4 := hne 43 (by decide)
  have n5 := hne 63 (by decide)
  have n6 := hne 123 (by decide)
  have n7 := hne 40 (by decide)
  have n8 := hne 91 (by decide)
  have n9 := hne 46 (by decide)
  have n10 := hne 47 (by decide)
  have n11 := hne 36 (by decide)
  have n12 := hne 92 (by decide)
  unfold step
  simp only
  rw [if_neg n1, if_neg n2, if_neg (fun e => n3 e.2), if_neg (fun e => n4 e.2), if_neg (fun e => n5 e.2), if_neg (fun e => n6 e.2.1)]
  unfold atom
  simp only
  rw [if_neg n7, if_neg n8, if_neg n9, if_neg (fun e => n6 e.1), if_neg (fun e => e.elim n10 n11), if_neg (fun e => by rw [h] at e; exact Bool.false_ne_true e.2)]
  unfold one
  rw [if_pos n12]
theorem step_bar {σ : St} (h : at_ s σ.at_ = 124) : step s σ = .ok { σ with at_ := σ.at_ + 1, ns := (mkRow σ.ns σ.is).1, as := σ.as ++ [(mkRow σ.ns σ.is).2], is := [] } := by
  unfold step
  simp only
  rw [if_pos h]
end

/-- Nodes of single bytes. -/
def litN (ds : List Nat) : List Nd := ds.map fun c => ndBytes (oneS c)
theorem litN_len (ds : List Nat) : (litN ds).length = ds.length := by simp [litN]
theorem run_letters (ds : List Nat) (hp : ∀ c ∈ ds, specialB c = false) : ∀ (n k : Nat), k + n = ds.length → run ds ⟨k, litN (ds.take k), [], [], List.range k⟩ = .ok (close (litN ds) [] (List.range ds.length)).1
  | 0, k, h => by
    have : k = ds.length := by omega
    subst this
    rw [run_end rfl, List.take_length]
    rfl
  | n + 1, k, h => by
    have hk : k < ds.length := by omega
    have hc : at_ ds k = ds[k] := by unfold at_; rw [List.getD_eq_getElem?_getD, List.getElem?_eq_getElem hk]; rfl
    have hs := step_plain (s := ds) (σ := ⟨k, litN (ds.take k), [], [], List.range k⟩) (by show specialB (at_ ds k) = false; rw [hc]; exact hp _ (List.getElem_mem hk))
    rw [run_ok (by exact hk) hs]
    have e : item ⟨k, litN (ds.take k), [], [], List.range k⟩ (ndBytes (oneS (at_ ds k))) (k + 1) = ⟨k + 1, litN (ds.take (k + 1)), [], [], List.range (k + 1)⟩ := by
      unfold item
      rw [hc]
      simp only [litN_len, List.length_take, Nat.min_eq_left (Nat.le_of_lt hk)]
      rw [List.range_succ, List.take_succ_eq_append_getElem hk]
      simp only [litN, List.map_append, List.map_cons, List.map_nil]
    rw [show item ⟨k, litN (ds.take k), [], [], List.range k⟩ (ndBytes (oneS (at_ ds k))) (k + 1) = _ from e]
    exact run_letters ds hp n (k + 1) (by omega)
theorem close_many {ns : List Nd} {n : Nat} (h : 2 ≤ n) : (close ns [] (List.range n)).1 = ns ++ [ndCat (List.range n)] := by
  obtain ⟨m, rfl⟩ : ∃ m, n = m + 2 := ⟨n - 2, by omega⟩
  unfold close mkRow
  rw [List.range_succ_eq_map, List.range_succ_eq_map]
  rfl
/-- P4.2: letters, one behind the other. -/
theorem parse_letters (ds : List Nat) (hp : ∀ c ∈ ds, specialB c = false) (hl : ds.length ≤ 511) : parse ds = .ok (close (litN ds) [] (List.range ds.length)).1 := by
  rw [parse_short hl]
  exact run_letters ds hp ds.length 0 (by omega)
theorem parse_cat (ds : List Nat) (hp : ∀ c ∈ ds, specialB c = false) (hl : ds.length ≤ 511) (h2 : 2 ≤ ds.length) : parse ds = .ok (litN ds ++ [ndCat (List.range ds.length)]) := by
  rw [parse_letters ds hp hl, close_many h2]
theorem parse_one (c : Nat) (hp : specialB c = false) : parse [c] = .ok [ndBytes (oneS c)] := by
  rw [parse_letters [c] (by simpa using hp) (by simp)]
  rfl
theorem parse_none : parse [] = .ok [ndEmpty] := rfl

/-- With a bar between each two. -/
def bars : List Nat → List Nat
  | [] => []
  | [c] => [c]
  | c :: r => c :: 124 :: bars r
theorem bars_snoc (ds : List Nat) (c : Nat) (h : ds ≠ []) : bars (ds ++ [c]) = bars ds ++ [124, c] := by
  induction ds with
  | nil => exact absurd rfl h
  | cons d r ih =>
    cases r with
    | nil => rfl
    | cons e r =>
      have := ih (by simp)
      simp only [List.cons_append, bars] at this ⊢
      rw [this]
theorem bars_len (ds : List Nat) : (bars ds).length ≤ 2 * ds.length := by
  induction ds with
  | nil => exact Nat.le_refl _
  | cons d r ih =>
    cases r with
    | nil => simp [bars]
    | cons e r =>
      simp only [bars, List.length_cons] at ih ⊢
      omega
theorem run_bars (s : List Nat) : ∀ (ds : List Nat) (p : List Nat) (ns : List Nd) (as : List Nat), s = p ++ bars ds → ds ≠ [] → (∀ c ∈ ds, specialB c = false) → as = List.range ns.length →
    run s ⟨p.length, ns, [], as, []⟩ = .ok (mkAlt (ns ++ litN ds) (List.range (ns.length + ds.length))).1
  | [], _, _, _, _, h, _, _ => absurd rfl h
  | [c], p, ns, as, hs, _, hp, ha => by
    have hc : at_ s p.length = c := by rw [hs]; exact at_app p [] c
    have hlen : s.length = p.length + 1 := by rw [hs]; simp [bars]
    have h1 := step_plain (s := s) (σ := ⟨p.length, ns, [], as, []⟩) (by show specialB (at_ s p.length) = false; rw [hc]; exact hp c (by simp))
    rw [run_ok (by show p.length < _; omega) h1, run_end (by show p.length + 1 = _; omega)]
    show Except.ok (close _ _ _).1 = _
    unfold close
    simp only [item, List.nil_append, mkRow, hc, ha]
    rw [show ns.length + [c].length = ns.length + 1 from rfl, List.range_succ]
    rfl
  | c :: d :: r, p, ns, as, hs, _, hp, ha => by
    have hs' : s = p ++ c :: (124 :: bars (d :: r)) := hs
    have hc : at_ s p.length = c := by rw [hs']; exact at_app p _ c
    have hb : at_ s (p.length + 1) = 124 := by
      have := at_app (p ++ [c]) (bars (d :: r)) 124
      rw [List.append_assoc, List.length_append] at this
      rw [hs']
      exact this
    have hlen : p.length + 2 ≤ s.length := by rw [hs']; simp
    have h1 := step_plain (s := s) (σ := ⟨p.length, ns, [], as, []⟩) (by show specialB (at_ s p.length) = false; rw [hc]; exact hp c (by simp))
    rw [run_ok (by show p.length < _; omega) h1]
    have h2 := step_bar (s := s) (σ := item ⟨p.length, ns, [], as, []⟩ (ndBytes (oneS (at_ s p.length))) (p.length + 1)) (by show at_ s (p.length + 1) = 124; exact hb)
    rw [run_ok (by show p.length + 1 < _; omega) h2]
    have ih := run_bars s (d :: r) (p ++ [c, 124]) (ns ++ [ndBytes (oneS c)]) (List.range (ns.length + 1)) (by rw [hs']; simp) (by simp) (fun x hx => hp x (by simp [hx])) (by simp)
    have e : ({ item ⟨p.length, ns, [], as, []⟩ (ndBytes (oneS (at_ s p.length))) (p.length + 1) with
        at_ := (item ⟨p.length, ns, [], as, []⟩ (ndBytes (oneS (at_ s p.length))) (p.length + 1)).at_ + 1,
        ns := (mkRow (item ⟨p.length, ns, [], as, []⟩ (ndBytes (oneS (at_ s p.length))) (p.length + 1)).ns (item ⟨p.length, ns, [], as, []⟩ (ndBytes (oneS (at_ s p.length))) (p.length + 1)).is).1,
        as := (item ⟨p.length, ns, [], as, []⟩ (ndBytes (oneS (at_ s p.length))) (p.length + 1)).as ++ [(mkRow (item ⟨p.length, ns, [], as, []⟩ (ndBytes (oneS (at_ s p.length))) (p.length + 1)).ns (item ⟨p.length, ns, [], as, []⟩ (ndBytes (oneS (at_ s p.length))) (p.length + 1)).is).2],
        is := [] } : St) = ⟨(p ++ [c, 124]).length, ns ++ [ndBytes (oneS c)], [], List.range (ns.length + 1), []⟩ := by
      simp [item, mkRow, hc, ha, List.range_succ]
    rw [e, ih]
    congr 2
    rw [show (ns ++ [ndBytes (oneS c)]).length + (d :: r).length = ns.length + (c :: d :: r).length from by simp; omega]
    simp [litN]
theorem mkAlt_many {ns : List Nd} {n : Nat} (h : 2 ≤ n) : (mkAlt ns (List.range n)).1 = ns ++ [ndAlt (List.range n)] := by
  obtain ⟨m, rfl⟩ : ∃ m, n = m + 2 := ⟨n - 2, by omega⟩
  unfold mkAlt
  rw [List.range_succ_eq_map, List.range_succ_eq_map]
  rfl
theorem parse_alt (ds : List Nat) (hp : ∀ c ∈ ds, specialB c = false) (hl : ds.length ≤ 255) (h2 : 2 ≤ ds.length) : parse (bars ds) = .ok (litN ds ++ [ndAlt (List.range ds.length)]) := by
  have hb := bars_len ds
  rw [parse_short (by omega)]
  have := run_bars (bars ds) ds [] [] [] rfl (fun e => by subst e; simp at h2) hp rfl
  simp only [List.length_nil, List.nil_append, Nat.zero_add] at this
  rw [mkAlt_many h2] at this
  exact this

/-- P4.2, P4.3: a name in braces. -/
theorem parse_name (b : List Nat) (hl : b.length ≤ 500) (hb : ∀ c ∈ b, c ≠ 125) (hd : ∀ c r, b = c :: r → digitB c = false) :
    parse (123 :: (b ++ [125])) = if nameB b = true then .ok [ndRef b] else .error (41, 1) := by
  have hlen : (123 :: (b ++ [125])).length = b.length + 2 := by simp
  rw [parse_short (by omega)]
  have hat : ∀ i, i < b.length → at_ (123 :: (b ++ [125])) (i + 1) = at_ b i := fun i hi => by
    unfold at_
    rw [List.getD_cons_succ, List.getD_eq_getElem?_getD, List.getD_eq_getElem?_getD, List.getElem?_append_left hi]
  have hend : at_ (123 :: (b ++ [125])) (b.length + 1) = 125 := by
    unfold at_
    rw [List.getD_cons_succ, List.getD_eq_getElem?_getD, List.getElem?_append_right (Nat.le_refl _)]
    simp
  have hdig : dig (123 :: (b ++ [125])) 1 = false := by
    unfold dig
    cases b with
    | nil => rfl
    | cons c r =>
      have := hd c r rfl
      have e : at_ (123 :: (c :: r ++ [125])) 1 = c := rfl
      rw [e, this, Bool.and_false]
  have hbr : braceEnd (123 :: (b ++ [125])) (123 :: (b ++ [125])).length 1 = b.length + 1 := by
    refine braceEnd_uniq _ (by omega) (by omega) (by omega) (fun k k1 k2 => ?_) (by omega) (fun _ => hend)
    obtain ⟨m, rfl⟩ : ∃ m, k = m + 1 := ⟨k - 1, by omega⟩
    rw [hat m (by omega)]
    unfold at_
    rw [List.getD_eq_getElem?_getD, List.getElem?_eq_getElem (by omega)]
    exact hb _ (List.getElem_mem _)
  have hcut : cut (123 :: (b ++ [125])) 1 (b.length + 1) = b := by
    unfold cut
    simp
  have hnm : name_ (123 :: (b ++ [125])) 0 = if nameB b = true then .ok (b, b.length + 2) else .error (41, 1) := by
    unfold name_
    simp only
    rw [Nat.zero_add, hbr, if_neg (by omega), hcut]
  have hst : step (123 :: (b ++ [125])) start = (match name_ (123 :: (b ++ [125])) 0 with | .error e => .error e | .ok (nm, j) => .ok (item start (ndRef nm) j)) := by
    have hc : at_ (123 :: (b ++ [125])) start.at_ = 123 := rfl
    unfold step
    simp only [hc]
    rw [if_neg (by decide), if_neg (by decide), if_neg (fun e => e.1 rfl), if_neg (fun e => e.1 rfl), if_neg (fun e => e.1 rfl), if_neg (fun e => e.1 rfl)]
    unfold atom
    simp only [hc]
    rw [if_neg (by decide), if_neg (by decide), if_neg (by decide), if_pos ⟨trivial, hdig⟩]
    rfl
  rw [hnm] at hst
  by_cases hn : nameB b = true
  · rw [if_pos hn] at hst ⊢
    rw [run_ok (by show 0 < _; omega) hst, run_end (by show b.length + 2 = _; omega)]
    rfl
  · rw [if_neg hn] at hst ⊢
    exact run_bad (by show 0 < _; omega) hst

/-- A number's digits. -/
def digs (n : Nat) : List Nat := if 9 < n then digs (n / 10) ++ [48 + n % 10] else [48 + n]
termination_by n
decreasing_by omega
theorem digs_small {n : Nat} (h : n ≤ 9) : digs n = [48 + n] := by rw [digs, if_neg (by omega)]
theorem digs_great {n : Nat} (h : 9 < n) : digs n = digs (n / 10) ++ [48 + n % 10] := by rw [digs, if_pos h]
theorem value_snoc (l : List Nat) (c : Nat) : value (l ++ [c]) = value l * 10 + (c - 48) := by simp [value]
theorem digs_all : ∀ n : Nat, value (digs n) = n ∧ (∀ c ∈ digs n, digitB c = true) ∧ digs n ≠ [] ∧ (9 < n → (digs n).head? ≠ some 48) := by
  intro n
  induction n using Nat.strongRecOn with
  | ind n ih =>
    rcases Nat.lt_or_ge 9 n with h | h
    · obtain ⟨h1, h2, h3, h4⟩ := ih (n / 10) (by omega)
      rw [digs_great h]
      refine ⟨?_, ?_, by simp, fun _ => ?_⟩
      · rw [value_snoc, h1]; omega
      · intro c hc
        rcases List.mem_append.1 hc with hc | hc
        · exact h2 c hc
        · rw [List.mem_singleton] at hc
          subst hc
          unfold digitB
          simp
          omega
      · rcases Nat.lt_or_ge 9 (n / 10) with g | g
        · have h5 := h4 g
          cases hd : digs (n / 10) with
          | nil => exact absurd hd h3
          | cons c r => rw [hd] at h5; simpa using h5
        · rw [digs_small g]
          simp
          omega
    · rw [digs_small h]
      refine ⟨by simp [value], fun c hc => ?_, by simp, fun h2 => by omega⟩
      rw [List.mem_singleton] at hc
      subst hc
      unfold digitB
      simp
      omega
theorem digs_len {n : Nat} (h : n ≤ 9999) : (digs n).length ≤ 4 := by
  rcases Nat.lt_or_ge 9 n with a | a
  · rw [digs_great a]
    rcases Nat.lt_or_ge 9 (n / 10) with b | b
    · rw [digs_great b]
      rcases Nat.lt_or_ge 9 (n / 10 / 10) with c | c
      · rw [digs_great c, digs_small (by omega)]
        simp
      · rw [digs_small c]; simp
    · rw [digs_small b]; simp
  · rw [digs_small a]; simp

section
variable {s : List Nat}
/-- Digits in the midst of a text. -/
theorem digEnd_mid (p D T : List Nat) (hs : s = p ++ D ++ T) (hD : ∀ c ∈ D, digitB c = true) (hT : ∀ c r, T = c :: r → digitB c = false) : digEnd s s.length p.length = p.length + D.length ∧ cut s p.length (p.length + D.length) = D := by
  have hlen : s.length = p.length + D.length + T.length := by rw [hs]; simp; omega
  constructor
  · refine digEnd_uniq _ (by omega) (by omega) (by omega) (fun k k1 k2 => ?_) ?_
    · obtain ⟨m, rfl⟩ : ∃ m, k = p.length + m := ⟨k - p.length, by omega⟩
      unfold dig
      rw [hs, List.append_assoc, at_app3, at_app2 (by omega)]
      have hm : m < D.length := by omega
      have : at_ D m = D[m] := by unfold at_; rw [List.getD_eq_getElem?_getD, List.getElem?_eq_getElem hm]; rfl
      rw [this, hD _ (List.getElem_mem hm)]
      simp
      omega
    · unfold dig
      cases T with
      | nil =>
        have : ¬ p.length + D.length < s.length := by rw [hlen]; simp
        simp [this]
      | cons c r =>
        have e : at_ s (p.length + D.length) = c := by
          rw [hs, ← List.length_append]
          exact at_app (p ++ D) r c
        rw [e, hT c r rfl, Bool.and_false]
  · unfold cut
    rw [hs, List.append_assoc, List.drop_append_of_le_length (Nat.le_refl _), List.drop_length, List.nil_append, show p.length + D.length - p.length = D.length from by omega]
    simp
theorem number_mid (p T : List Nat) (n : Nat) (hn : n ≤ 9999) (hs : s = p ++ digs n ++ T) : number s p.length (p.length + (digs n).length) = some n := by
  obtain ⟨h1, h2, h3, h4⟩ := digs_all n
  have hl := digs_len hn
  have hc : cut s p.length (p.length + (digs n).length) = digs n := by
    unfold cut
    rw [hs, List.append_assoc, List.drop_append_of_le_length (Nat.le_refl _), List.drop_length, List.nil_append, show p.length + (digs n).length - p.length = (digs n).length from by omega]
    simp
  have ha : at_ s p.length = at_ (digs n) 0 := by
    have : 0 < (digs n).length := by cases hd : digs n; exact absurd hd h3; simp
    have e := at_app3 p (digs n ++ T) 0
    rw [hs, List.append_assoc, ← Nat.add_zero p.length, e, at_app2 this]
  unfold number
  rw [hc, h1, if_neg]
  rintro (h | ⟨h, h5⟩)
  · omega
  · rw [ha] at h
    rcases Nat.lt_or_ge 9 n with g | g
    · apply h4 g
      cases hd : digs n with
      | nil => exact absurd hd h3
      | cons c r => rw [hd] at h; simpa [at_] using h
    · rw [digs_small g] at h5
      simp at h5
end

/-- P4.2, P4.3: bounds in digits. -/
def bnd (a : Nat) (t : List Nat) : List Nat := [120, 123] ++ digs a ++ t
theorem bnd_len {a : Nat} (ha : a ≤ 9999) (t : List Nat) : (bnd a t).length ≤ t.length + 6 := by
  have := digs_len ha
  unfold bnd
  simp
  omega
theorem run_bnd (a : Nat) (t : List Nat) : run (bnd a t) start = match bounds (bnd a t) 1 with | .error e => .error e | .ok ((lo, hi), j) => run (bnd a t) ⟨j, [ndBytes (oneS 120), ndRep 0 lo hi], [], [], [1]⟩ := by
  obtain ⟨h1, h2, h3, h4⟩ := digs_all a
  have hpos : 0 < (digs a).length := by cases hd : digs a; exact absurd hd h3; simp
  have hlen : (bnd a t).length = 2 + (digs a).length + t.length := by unfold bnd; simp; omega
  have hs0 := step_plain (s := bnd a t) (σ := start) (by show specialB 120 = false; decide)
  rw [run_ok (by show 0 < _; omega) hs0]
  have hdig : dig (bnd a t) 2 = true := by
    unfold dig bnd
    have e := at_app3 [120, 123] (digs a ++ t) 0
    rw [show [120, 123].length + 0 = 2 from rfl] at e
    rw [List.append_assoc, e, at_app2 hpos]
    cases hd : digs a with
    | nil => exact absurd hd h3
    | cons c r =>
      have := h2 c (by rw [hd]; simp)
      simp [at_, this]
  have hs1 : step (bnd a t) (item start (ndBytes (oneS (at_ (bnd a t) start.at_))) (start.at_ + 1)) = match bounds (bnd a t) 1 with | .error e => .error e | .ok ((lo, hi), j) => .ok (rep (item start (ndBytes (oneS (at_ (bnd a t) start.at_))) (start.at_ + 1)) lo hi j) := by
    have hc : at_ (bnd a t) (item start (ndBytes (oneS (at_ (bnd a t) start.at_))) (start.at_ + 1)).at_ = 123 := rfl
    unfold step
    simp only [hc]
    rw [if_neg (by decide), if_neg (by decide), if_neg (fun e => by cases e.2), if_neg (fun e => by cases e.2), if_neg (fun e => by cases e.2), if_pos ⟨by simp [item], trivial, hdig⟩]
    rfl
  rw [run_step (by show 1 < _; omega), hs1]
  cases bounds (bnd a t) 1 with
  | error e => rfl
  | ok r => rfl
theorem bounds_bnd {a : Nat} (ha : a ≤ 9999) (t : List Nat) (ht : ∀ c r, t = c :: r → digitB c = false) : loEnd (bnd a t) 1 = 2 + (digs a).length ∧ loPart (bnd a t) 1 = some a := by
  obtain ⟨h1, h2, h3, h4⟩ := digs_all a
  have e := (digEnd_mid (s := bnd a t) [120, 123] (digs a) t rfl h2 ht).1
  have e1 : loEnd (bnd a t) 1 = 2 + (digs a).length := e
  refine ⟨e1, ?_⟩
  unfold loPart
  rw [e1]
  exact number_mid [120, 123] t a ha rfl
theorem fin_bnd {a : Nat} {t : List Nat} {j : Nat} {lo hi : Int} (h : j = (bnd a t).length) : run (bnd a t) ⟨j, [ndBytes (oneS 120), ndRep 0 lo hi], [], [], [1]⟩ = .ok [ndBytes (oneS 120), ndRep 0 lo hi] := by
  rw [run_end (by exact h)]
  rfl
theorem at_bnd (a : Nat) (t : List Nat) (i : Nat) : at_ (bnd a t) (2 + (digs a).length + i) = at_ t i := by
  have := at_app3 ([120, 123] ++ digs a) t i
  rw [List.length_append] at this
  exact this
/-- x{a} -/
theorem parse_bnd1 {a : Nat} (ha : a ≤ 9999) : parse (bnd a [125]) = if a ≤ 4096 ∧ 1 ≤ a then .ok [ndBytes (oneS 120), ndRep 0 (a : Int) (a : Int)] else .error (45, 1) := by
  have hl := bnd_len ha [125]
  have hlen : (bnd a [125]).length = 2 + (digs a).length + 1 := by unfold bnd; simp; omega
  obtain ⟨e1, e2⟩ := bounds_bnd ha [125] (fun c r h => by cases h; rfl)
  have hx := at_bnd a [125] 0
  rw [Nat.add_zero] at hx
  have hb : bounds (bnd a [125]) 1 = if a ≤ 4096 ∧ 1 ≤ a then .ok (((a : Int), (a : Int)), (bnd a [125]).length) else .error (45, 1) := by
    have hh : hiPart (bnd a [125]) (some a) (2 + (digs a).length) = (some (some a), 2 + (digs a).length) := by
      unfold hiPart is
      rw [hx]
      simp [at_]
    unfold bounds
    rw [e1, e2, hh]
    simp only
    rw [if_neg (by omega), hx, if_neg (by simp [at_])]
    unfold okBounds
    simp only
    by_cases h : a ≤ 4096 ∧ 1 ≤ a
    · rw [if_pos ⟨h.1, h.1, h.2, Nat.le_refl _⟩, if_pos h, hlen]
    · rw [if_neg (fun g => h ⟨g.1, g.2.2.1⟩), if_neg h]
  rw [parse_short (by simp at hl; omega), run_bnd a, hb]
  by_cases h : a ≤ 4096 ∧ 1 ≤ a
  · rw [if_pos h, if_pos h]
    exact fin_bnd rfl
  · rw [if_neg h, if_neg h]
/-- x{a,} -/
theorem parse_bnd2 {a : Nat} (ha : a ≤ 4096) : parse (bnd a [44, 125]) = .ok [ndBytes (oneS 120), ndRep 0 (a : Int) (-1)] := by
  have hl := bnd_len (a := a) (by omega) [44, 125]
  have hlen : (bnd a [44, 125]).length = 2 + (digs a).length + 2 := by unfold bnd; simp; omega
  obtain ⟨e1, e2⟩ := bounds_bnd (a := a) (by omega) [44, 125] (fun c r h => by cases h; rfl)
  have hx := at_bnd a [44, 125] 0
  rw [Nat.add_zero] at hx
  have hy := at_bnd a [44, 125] 1
  have hb : bounds (bnd a [44, 125]) 1 = .ok (((a : Int), (-1 : Int)), (bnd a [44, 125]).length) := by
    have hh : hiPart (bnd a [44, 125]) (some a) (2 + (digs a).length) = (none, 2 + (digs a).length + 1) := by
      unfold hiPart is dig
      rw [hx, hy, hlen]
      simp [at_, digitB]
    unfold bounds
    rw [e1, e2, hh]
    simp only
    rw [if_neg (by omega), hy, if_neg (by simp [at_])]
    unfold okBounds
    simp only
    rw [if_pos ha, hlen]
  rw [parse_short (by simp at hl; omega), run_bnd a, hb]
  exact fin_bnd rfl
/-- x{a,b} -/
theorem parse_bnd3 {a b : Nat} (ha : a ≤ 9999) (hb : b ≤ 9999) : parse (bnd a (44 :: (digs b ++ [125]))) = if a ≤ 4096 ∧ b ≤ 4096 ∧ 1 ≤ b ∧ a ≤ b then .ok [ndBytes (oneS 120), ndRep 0 (a : Int) (b : Int)] else .error (45, 1) := by
  have hl := bnd_len ha (44 :: (digs b ++ [125]))
  have hdl := digs_len hb
  obtain ⟨g1, g2, g3, g4⟩ := digs_all b
  have hpos : 0 < (digs b).length := by cases hd : digs b; exact absurd hd g3; simp
  have hlen : (bnd a (44 :: (digs b ++ [125]))).length = 2 + (digs a).length + 1 + (digs b).length + 1 := by unfold bnd; simp; omega
  obtain ⟨e1, e2⟩ := bounds_bnd ha (44 :: (digs b ++ [125])) (fun c r h => by cases h; rfl)
  have hx := at_bnd a (44 :: (digs b ++ [125])) 0
  rw [Nat.add_zero] at hx
  have hp : bnd a (44 :: (digs b ++ [125])) = ([120, 123] ++ digs a ++ [44]) ++ digs b ++ [125] := by unfold bnd; simp
  have hpl : ([120, 123] ++ digs a ++ [44]).length = 2 + (digs a).length + 1 := by simp; omega
  have hde := (digEnd_mid (s := bnd a (44 :: (digs b ++ [125]))) ([120, 123] ++ digs a ++ [44]) (digs b) [125] hp g2 (fun c r h => by cases h; rfl)).1
  have hnu := number_mid (s := bnd a (44 :: (digs b ++ [125]))) ([120, 123] ++ digs a ++ [44]) [125] b hb hp
  rw [hpl] at hde hnu
  have hdg : dig (bnd a (44 :: (digs b ++ [125]))) (2 + (digs a).length + 1) = true := by
    have hz := at_bnd a (44 :: (digs b ++ [125])) 1
    have hz2 : at_ (44 :: (digs b ++ [125])) 1 = at_ (digs b) 0 := by
      show at_ (digs b ++ [125]) 0 = _
      exact at_app2 hpos
    unfold dig
    rw [hz, hz2, hlen]
    cases hd : digs b with
    | nil => exact absurd hd g3
    | cons c r =>
      have := g2 c (by rw [hd]; simp)
      simp [at_, this]
      omega
  have hend : at_ (bnd a (44 :: (digs b ++ [125]))) (2 + (digs a).length + 1 + (digs b).length) = 125 := by
    have := at_app ([120, 123] ++ digs a ++ [44] ++ digs b) [] 125
    rw [hp]
    rw [List.length_append, hpl] at this
    exact this
  have hbb : bounds (bnd a (44 :: (digs b ++ [125]))) 1 = if a ≤ 4096 ∧ b ≤ 4096 ∧ 1 ≤ b ∧ a ≤ b then .ok (((a : Int), (b : Int)), (bnd a (44 :: (digs b ++ [125]))).length) else .error (45, 1) := by
    have hh : hiPart (bnd a (44 :: (digs b ++ [125]))) (some a) (2 + (digs a).length) = (some (some b), 2 + (digs a).length + 1 + (digs b).length) := by
      have hi : is (bnd a (44 :: (digs b ++ [125]))) (2 + (digs a).length) 44 = true := by
        unfold is
        rw [hx, hlen]
        simp [at_]
        omega
      unfold hiPart
      rw [if_pos hi, if_pos hdg, hde, hnu]
    unfold bounds
    rw [e1, e2, hh]
    simp only
    rw [if_neg (by omega), hend, if_neg (by decide)]
    unfold okBounds
    simp only
    by_cases h : a ≤ 4096 ∧ b ≤ 4096 ∧ 1 ≤ b ∧ a ≤ b
    · rw [if_pos h, if_pos h, hlen]
    · rw [if_neg h, if_neg h]
  rw [parse_short (by simp at hl; omega), run_bnd a, hbb]
  by_cases h : a ≤ 4096 ∧ b ≤ 4096 ∧ 1 ≤ b ∧ a ≤ b
  · rw [if_pos h, if_pos h]
    exact fin_bnd rfl
  · rw [if_neg h, if_neg h]

/-- The document's examples. -/
theorem parse_ex1 : parse [97, 98, 124, 99, 42] = .ok [ndBytes (oneS 97), ndBytes (oneS 98), ndCat [0, 1], ndBytes (oneS 99), ndRep 3 0 (-1), ndAlt [2, 4]] := rfl
theorem parse_ex2 : parse [97, 123, 50, 44, 49, 125] = .error (45, 1) := rfl
theorem parse_ex3 : parse [97, 47, 98] = .error (42, 1) := rfl

end Go.Proofs.YtcidimjjclanmaaDoor.Sy

/- The reference's walk over a tree: it comes to each node once, in order, just if the nodes are trees one behind the other. Plain lists. -/
namespace Go.Proofs.YtcidimjjclanmaaDoor.Sy

mutual
/-- The nodes under a node, as they are come to; none: it is no tree, or too many were come to. K: each node's kids; n: how many nodes there are. -/
def walkF (K : Nat → List Int) (n : Nat) : Nat → Nat → List Nat → Option (List Nat)
  | 0, _, _ => none
  | f + 1, at', seen => if n ≤ seen.length then none else (kidsF K n f at' (K at') seen).map (· ++ [at'])
/-- .. under its kids, one by one. -/
def kidsF (K : Nat → List Int) (n : Nat) : Nat → Nat → List Int → List Nat → Option (List Nat)
  | _, _, [], seen => some seen
  | f, at', k :: r, seen => if k < 0 ∨ (at' : Int) ≤ k then none else
    match walkF K n f k.toNat seen with
    | none => none
    | some seen' => kidsF K n f at' r seen'
end

theorem range_more {b c : Nat} (h : b ≤ c) : List.range' b (c - b) ++ [c] = List.range' b (c + 1 - b) := by
  rw [show c + 1 - b = (c - b) + 1 from by omega, List.range'_1_concat, show b + (c - b) = c from by omega]
theorem range_join {a b c : Nat} (h1 : a ≤ b) (h2 : b ≤ c) : List.range' a (b - a) ++ List.range' b (c - b) = List.range' a (c - a) := by
  have := List.range'_append_1 (s := a) (m := b - a) (n := c - b)
  rw [show a + (b - a) = b from by omega, show (b - a) + (c - b) = c - a from by omega] at this
  exact this
section
variable {K : Nat → List Int} {n : Nat} {ns : List Nd}
theorem kidsF_app (f at' : Nat) : ∀ (xs ys : List Int) (seen : List Nat), kidsF K n f at' (xs ++ ys) seen = (kidsF K n f at' xs seen).bind (kidsF K n f at' ys)
  | [], ys, seen => by rw [kidsF]; rfl
  | k :: r, ys, seen => by
    rw [List.cons_append, kidsF, kidsF]
    split
    · rfl
    · cases walkF K n f k.toNat seen with
      | none => rfl
      | some s => exact kidsF_app f at' r ys s

/-- A forest is come to in order. -/
theorem forest_walk (hK : ∀ i m, ns[i]? = some m → K i = m.l.map fun k : Nat => (k : Int)) {a b : Nat} {ks : List Nat} (h : Forest ns a b ks) :
    ∀ (f at' : Nat) (seen : List Nat), b ≤ at' → b ≤ f → seen.length + (b - a) ≤ n → kidsF K n f at' (ks.map fun k : Nat => (k : Int)) seen = some (seen ++ List.range' a (b - a)) := by
  induction h with
  | nil a => intro f at' seen _ _ _; rw [List.map_nil, kidsF, Nat.sub_self]; simp
  | @snoc a b c ks m h1 hn h2 i1 i2 =>
    intro f at' seen hb hf hs
    have l1 := h1.le
    have l2 := h2.le
    rw [List.map_append, kidsF_app, i1 f at' seen (by omega) (by omega) (by omega)]
    show kidsF K n f at' [(c : Int)] _ = _
    rw [kidsF, if_neg (by omega)]
    obtain ⟨f, rfl⟩ : ∃ g, f = g + 1 := ⟨f - 1, by omega⟩
    have hw : walkF K n (f + 1) (c : Int).toNat (seen ++ List.range' a (b - a)) = some (seen ++ List.range' a (c + 1 - a)) := by
      rw [Int.toNat_natCast, walkF, if_neg (by simp; omega), hK c m hn, i2 f c _ (Nat.le_refl _) (by omega) (by simp; omega)]
      show some (seen ++ List.range' a (b - a) ++ List.range' b (c - b) ++ [c]) = some _
      rw [List.append_assoc, List.append_assoc, range_more l2, range_join l1 (by omega)]
    rw [hw]
    show kidsF K n (f + 1) at' [] _ = _
    rw [kidsF]

theorem range_split {a : Nat} {r1 r2 : List Nat} (h : r1 ++ r2 = List.range' a (r1 ++ r2).length) : r1 = List.range' a r1.length ∧ r2 = List.range' (a + r1.length) r2.length := by
  rw [List.length_append, ← List.range'_append_1] at h
  exact List.append_inj h (by simp)
/-- What is known of what was come to, if that is in order. -/
def Told (K : Nat → List Int) (ns : List Nd) (ks : List Int) (rest : List Nat) : Prop :=
  ∀ a, rest = List.range' a rest.length → (∀ i ∈ rest, ∀ k ∈ K i, 0 ≤ k) ∧ (∀ k ∈ ks, 0 ≤ k) ∧ Forest ns a (a + rest.length) (ks.map Int.toNat)
theorem kids_told {f : Nat} (hw : ∀ (at' : Nat) (seen out : List Nat), at' < ns.length → walkF K n f at' seen = some out → ∃ rest, out = seen ++ rest ∧ Told K ns [(at' : Int)] rest) :
    ∀ (ks : List Int) (at' : Nat) (seen out : List Nat), at' ≤ ns.length → kidsF K n f at' ks seen = some out → ∃ rest, out = seen ++ rest ∧ Told K ns ks rest
  | [], at', seen, out, _, h => by
    rw [kidsF] at h
    cases h
    refine ⟨[], by simp, fun a _ => ⟨by simp, by simp, .nil a⟩⟩
  | k :: r, at', seen, out, hl, h => by
    rw [kidsF] at h
    split at h
    · cases h
    · rename_i hk
      cases h1 : walkF K n f k.toNat seen with
      | none => rw [h1] at h; cases h
      | some s1 =>
        rw [h1] at h
        obtain ⟨r1, e1, t1⟩ := hw k.toNat seen s1 (by omega) h1
        obtain ⟨r2, e2, t2⟩ := kids_told hw r at' s1 out hl h
        refine ⟨r1 ++ r2, by rw [e2, e1, List.append_assoc], fun a ha => ?_⟩
        obtain ⟨a1, a2⟩ := range_split ha
        obtain ⟨p1, p2, p3⟩ := t1 a a1
        obtain ⟨q1, q2, q3⟩ := t2 _ a2
        refine ⟨fun i hi => ?_, fun x hx => ?_, ?_⟩
        · rcases List.mem_append.1 hi with hi | hi
          · exact p1 i hi
          · exact q1 i hi
        · rcases List.mem_cons.1 hx with rfl | hx
          · omega
          · exact q2 x hx
        · rw [List.length_append, ← Nat.add_assoc, List.map_cons]
          have hf : Forest ns a (a + r1.length) [k.toNat] := by
            have := p3
            rw [List.map_cons, List.map_nil, Int.toNat_natCast] at this
            exact this
          exact hf.join q3
theorem walk_told (hK : ∀ i m, ns[i]? = some m → m.l = (K i).map Int.toNat) : ∀ (f at' : Nat) (seen out : List Nat), at' < ns.length → walkF K n f at' seen = some out → ∃ rest, out = seen ++ rest ∧ Told K ns [(at' : Int)] rest
  | 0, _, _, _, _, h => by rw [walkF] at h; cases h
  | f + 1, at', seen, out, hl, h => by
    rw [walkF] at h
    split at h
    · cases h
    · cases h1 : kidsF K n f at' (K at') seen with
      | none => rw [h1] at h; cases h
      | some s1 =>
        rw [h1] at h
        obtain ⟨r, e, t⟩ := kids_told (walk_told hK f) (K at') at' seen s1 (by omega) h1
        have ho : out = s1 ++ [at'] := by simpa using h.symm
        refine ⟨r ++ [at'], by rw [ho, e, List.append_assoc], fun a ha => ?_⟩
        obtain ⟨a1, a2⟩ := range_split ha
        have hat : at' = a + r.length := by simpa using a2
        obtain ⟨p1, p2, p3⟩ := t a a1
        have hn : ns[at']? = some ns[at'] := List.getElem?_eq_getElem hl
        refine ⟨fun i hi => ?_, fun x hx => ?_, ?_⟩
        · rcases List.mem_append.1 hi with hi | hi
          · exact p1 i hi
          · rw [List.mem_singleton] at hi
            subst hi
            exact p2
        · rw [List.mem_singleton] at hx
          subst hx
          omega
        · rw [List.length_append, List.length_singleton, ← Nat.add_assoc, ← hat]
          have p4 : Forest ns a at' (ns[at']).l := by
            rw [hK at' _ hn, hat]
            rw [hat] at p3
            exact p3
          have := Forest.snoc (Forest.nil (ns := ns) a) hn p4
          simpa using this
/-- P4.1's order, by the walk: each node is come to once, in order, just if the nodes are one tree. -/
theorem walk_iff (hK : ∀ i m, ns[i]? = some m → m.l = (K i).map Int.toNat) (hn : ns.length = n) (h1 : 1 ≤ n) :
    walkF K n n (n - 1) [] = some (List.range n) ↔ (∀ i, i < n → ∀ k ∈ K i, 0 ≤ k) ∧ Forest ns 0 n [n - 1] := by
  constructor
  · intro h
    obtain ⟨rest, e, t⟩ := walk_told hK n (n - 1) [] (List.range n) (by omega) h
    rw [List.nil_append] at e
    subst e
    obtain ⟨p1, p2, p3⟩ := t 0 (by rw [List.length_range, List.range_eq_range'])
    rw [List.length_range, Nat.zero_add] at p3
    refine ⟨fun i hi => p1 i (List.mem_range.2 hi), ?_⟩
    simpa using p3
  · rintro ⟨hp, hf⟩
    obtain ⟨m, rfl⟩ : ∃ m, n = m + 1 := ⟨n - 1, by omega⟩
    rw [Nat.add_sub_cancel] at hf ⊢
    have hK2 : ∀ i m', ns[i]? = some m' → K i = m'.l.map fun k : Nat => (k : Int) := by
      intro i m' hm
      have hi : i < ns.length := (List.getElem?_eq_some_iff.1 hm).1
      rw [hK i m' hm, List.map_map]
      have hh := hp i (by omega)
      generalize K i = l at *
      induction l with
      | nil => rfl
      | cons x r ih =>
        have hx := hh x (by simp)
        rw [List.map_cons, ← ih (fun k hk => hh k (by simp [hk]))]
        congr 1
        show x = ((x.toNat : Nat) : Int)
        omega
    have := forest_walk (n := m + 1) hK2 hf (m + 1) (m + 1) [] (Nat.le_refl _) (Nat.le_refl _) (by simp)
    rw [List.map_cons, List.map_nil, kidsF, if_neg (by omega), Int.toNat_natCast] at this
    cases hwk : walkF K (m + 1) (m + 1) m [] with
    | none => rw [hwk] at this; cases this
    | some s =>
      rw [hwk] at this
      simp only at this
      rw [kidsF] at this
      rw [this, List.nil_append, Nat.sub_zero, List.range_eq_range']
end

end Go.Proofs.YtcidimjjclanmaaDoor.Sy

/- Reading a pattern, as a recursive descent comes to it: what each of its parts does to the machine. Plain lists. -/
namespace Go.Proofs.YtcidimjjclanmaaDoor.Sy

section
variable (s : List Nat)
/-- Does a repetition stand here? -/
def repAt (i : Nat) : Bool := is s i 42 || is s i 43 || is s i 63 || (is s i 123 && dig s (i + 1))
/-- How often: from its sign on. -/
def repet (i : Nat) : Except Bad ((Int × Int) × Nat) :=
  if at_ s i = 42 then .ok ((0, -1), i + 1) else if at_ s i = 43 then .ok ((1, -1), i + 1) else if at_ s i = 63 then .ok ((0, 1), i + 1) else bounds s i
/-- An atom that is no parenthesis. -/
def lone (i : Nat) : Except Bad (Nd × Nat) :=
  if at_ s i = 91 then (match class_ s i with | .error e => .error e | .ok (p, j) => .ok (ndBytes p, j))
  else if at_ s i = 46 then .ok (ndBytes dotS, i + 1)
  else if at_ s i = 123 ∧ dig s (i + 1) = false then (match name_ s i with | .error e => .error e | .ok (nm, j) => .ok (ndRef nm, j))
  else if at_ s i = 47 ∨ at_ s i = 36 then .error (42, i)
  else if at_ s i ≠ 92 ∧ specialB (at_ s i) = true then .error (41, i)
  else match one s i with | .error e => .error e | .ok (b, j) => .ok (ndBytes (oneS b), j)
end

section
variable {s : List Nat}
theorem is_of {i c : Nat} (hi : i < s.length) : is s i c = (at_ s i == c) := by
  unfold is
  rw [decide_eq_true hi, Bool.true_and]
theorem is_end {i c : Nat} (hi : s.length ≤ i) : is s i c = false := by
  unfold is
  rw [decide_eq_false (by omega), Bool.false_and]
theorem lone_ok {i : Nat} {n : Nd} {j : Nat} (hi : i < s.length) (h : lone s i = .ok (n, j)) : i < j ∧ j ≤ s.length := by
  unfold lone at h
  split at h
  · split at h
    · cases h
    · rename_i h1; cases h; exact class_ok h1
  · split at h
    · cases h; omega
    · split at h
      · split at h
        · cases h
        · rename_i h1; cases h; exact name_ok h1
      · split at h
        · cases h
        · split at h
          · cases h
          · split at h
            · cases h
            · rename_i h1; cases h; exact one_ok h1 hi
theorem repet_ok {i : Nat} {b : Int × Int} {j : Nat} (hi : i < s.length) (h : repet s i = .ok (b, j)) : i < j ∧ j ≤ s.length := by
  unfold repet at h
  split at h
  · cases h; omega
  · split at h
    · cases h; omega
    · split at h
      · cases h; omega
      · exact bounds_ok h
theorem step_atom {σ : St} (hi : σ.at_ < s.length) (h1 : at_ s σ.at_ ≠ 124) (h2 : at_ s σ.at_ ≠ 41) (h3 : σ.is = [] ∨ repAt s σ.at_ = false) : step s σ = atom s σ := by
  unfold step
  simp only
  rw [if_neg h1, if_neg h2]
  rcases h3 with h3 | h3
  · rw [if_neg (fun e => e.1 h3), if_neg (fun e => e.1 h3), if_neg (fun e => e.1 h3), if_neg (fun e => e.1 h3)]
  · unfold repAt at h3
    simp only [Bool.or_eq_false_iff, is_of hi, beq_eq_false_iff_ne] at h3
    obtain ⟨⟨⟨a, b⟩, c⟩, d⟩ := h3
    rw [if_neg (fun e => a e.2), if_neg (fun e => b e.2), if_neg (fun e => c e.2)]
    rw [if_neg (fun e => by rw [e.2.1, e.2.2] at d; simp at d)]
theorem run_atom {σ : St} (hi : σ.at_ < s.length) (h1 : at_ s σ.at_ ≠ 124) (h2 : at_ s σ.at_ ≠ 41) (h3 : σ.is = [] ∨ repAt s σ.at_ = false) :
    run s σ = match atom s σ with | .error e => .error e | .ok σ' => run s σ' := by
  rw [run_step hi, step_atom hi h1 h2 h3]
theorem run_lone {i : Nat} {ns : List Nd} {st : List (List Nat × List Nat)} {as I : List Nat} (hi : i < s.length) (h1 : at_ s i ≠ 124) (h2 : at_ s i ≠ 41) (h3 : I = [] ∨ repAt s i = false) (h4 : at_ s i ≠ 40) :
    run s ⟨i, ns, st, as, I⟩ = match lone s i with | .error e => .error e | .ok (n, j) => run s ⟨j, ns ++ [n], st, as, I ++ [ns.length]⟩ := by
  rw [run_atom (σ := ⟨i, ns, st, as, I⟩) hi h1 h2 h3]
  unfold atom lone
  simp only
  rw [if_neg h4]
  by_cases c1 : at_ s i = 91
  · rw [if_pos c1, if_pos c1]
    cases class_ s i <;> rfl
  · rw [if_neg c1, if_neg c1]
    by_cases c2 : at_ s i = 46
    · rw [if_pos c2, if_pos c2]
      rfl
    · rw [if_neg c2, if_neg c2]
      by_cases c3 : at_ s i = 123 ∧ dig s (i + 1) = false
      · rw [if_pos c3, if_pos c3]
        cases name_ s i <;> rfl
      · rw [if_neg c3, if_neg c3]
        by_cases c4 : at_ s i = 47 ∨ at_ s i = 36
        · rw [if_pos c4, if_pos c4]
        · rw [if_neg c4, if_neg c4]
          by_cases c5 : at_ s i ≠ 92 ∧ specialB (at_ s i) = true
          · rw [if_pos c5, if_pos c5]
          · rw [if_neg c5, if_neg c5]
            cases one s i <;> rfl
theorem run_deep {i : Nat} {ns : List Nd} {st : List (List Nat × List Nat)} {as I : List Nat} (hi : i < s.length) (h3 : I = [] ∨ repAt s i = false) (h4 : at_ s i = 40) (h5 : 64 ≤ st.length) : run s ⟨i, ns, st, as, I⟩ = .error (46, i) := by
  rw [run_atom (σ := ⟨i, ns, st, as, I⟩) hi (by show at_ s i ≠ _; rw [h4]; decide) (by show at_ s i ≠ _; rw [h4]; decide) h3]
  unfold atom
  simp only
  rw [if_pos h4, if_pos h5]
theorem run_open {i : Nat} {ns : List Nd} {st : List (List Nat × List Nat)} {as I : List Nat} (hi : i < s.length) (h3 : I = [] ∨ repAt s i = false) (h4 : at_ s i = 40) (h5 : st.length < 64) : run s ⟨i, ns, st, as, I⟩ = run s ⟨i + 1, ns, (as, I) :: st, [], []⟩ := by
  rw [run_atom (σ := ⟨i, ns, st, as, I⟩) hi (by show at_ s i ≠ _; rw [h4]; decide) (by show at_ s i ≠ _; rw [h4]; decide) h3]
  unfold atom
  simp only
  rw [if_pos h4, if_neg (by omega)]
theorem run_shut {i : Nat} {ns : List Nd} {st : List (List Nat × List Nat)} {as I as' I' : List Nat} (hi : i < s.length) (h4 : at_ s i = 41) :
    run s ⟨i, ns, (as', I') :: st, as, I⟩ = run s ⟨i + 1, (close ns as I).1, st, as', I' ++ [(close ns as I).2]⟩ := by
  refine run_ok hi ?_
  unfold step
  simp only
  rw [if_neg (by rw [h4]; decide), if_pos h4]
theorem run_over {i : Nat} {ns : List Nd} {as I : List Nat} (hi : i < s.length) (h4 : at_ s i = 41) : run s ⟨i, ns, [], as, I⟩ = .error (41, i) := by
  refine run_bad hi ?_
  unfold step
  simp only
  rw [if_neg (by rw [h4]; decide), if_pos h4]
theorem run_bar {i : Nat} {ns : List Nd} {st : List (List Nat × List Nat)} {as I : List Nat} (hi : i < s.length) (h4 : at_ s i = 124) :
    run s ⟨i, ns, st, as, I⟩ = run s ⟨i + 1, (mkRow ns I).1, st, as ++ [(mkRow ns I).2], []⟩ := run_ok hi (step_bar h4)
theorem run_soon {i : Nat} {ns : List Nd} {x : List Nat × List Nat} {st : List (List Nat × List Nat)} {as I : List Nat} (hi : i = s.length) : run s ⟨i, ns, x :: st, as, I⟩ = .error (40, s.length) := by
  rw [run_end hi]; rfl
theorem run_done {i : Nat} {ns : List Nd} {as I : List Nat} (hi : i = s.length) : run s ⟨i, ns, [], as, I⟩ = .ok (close ns as I).1 := by
  rw [run_end hi]; rfl
theorem run_repet {i k : Nat} {ns : List Nd} {st : List (List Nat × List Nat)} {as I : List Nat} (hi : i < s.length) (h : repAt s i = true) :
    run s ⟨i, ns, st, as, I ++ [k]⟩ = match repet s i with | .error e => .error e | .ok (b, j) => run s ⟨j, ns ++ [ndRep k b.1 b.2], st, as, I ++ [ns.length]⟩ := by
  have hne : I ++ [k] ≠ [] := by simp
  have hr : ∀ lo hi j, rep ⟨i, ns, st, as, I ++ [k]⟩ lo hi j = ⟨j, ns ++ [ndRep k lo hi], st, as, I ++ [ns.length]⟩ := by
    intro lo hi j
    unfold rep
    simp only [List.dropLast_concat]
    rw [show (I ++ [k]).getLastD 0 = k from by simp]
  unfold repAt at h
  simp only [is_of hi, Bool.or_eq_true, Bool.and_eq_true, beq_iff_eq] at h
  rw [run_step hi]
  unfold step repet
  simp only
  rcases h with ((h | h) | h) | ⟨h, h'⟩
  · rw [if_neg (by rw [h]; decide), if_neg (by rw [h]; decide), if_pos ⟨hne, h⟩, if_pos h, hr]
  · rw [if_neg (by rw [h]; decide), if_neg (by rw [h]; decide), if_neg (by rw [h]; simp), if_pos ⟨hne, h⟩, if_neg (by rw [h]; decide), if_pos h, hr]
  · rw [if_neg (by rw [h]; decide), if_neg (by rw [h]; decide), if_neg (by rw [h]; simp), if_neg (by rw [h]; simp), if_pos ⟨hne, h⟩, if_neg (by rw [h]; decide), if_neg (by rw [h]; decide), if_pos h, hr]
  · rw [if_neg (by rw [h]; decide), if_neg (by rw [h]; decide), if_neg (by rw [h]; simp), if_neg (by rw [h]; simp), if_neg (by rw [h]; simp), if_pos ⟨hne, h, h'⟩, if_neg (by rw [h]; decide), if_neg (by rw [h]; decide), if_neg (by rw [h]; decide)]
    cases bounds s i with
    | error e => rfl
    | ok x => simp only [hr]

/-- The bytes of a class, one part more. -/
theorem parts_next (f : Nat) (more : Bool) (p : Nat → Bool) (i : Nat) (h : (more && is s i 93) = false) :
    parts s (f + 1) more p i = match part s i with | .error e => .error e | .ok (b, j) => parts s f true (uniS p (rngS b.1 b.2)) j := by
  rw [parts, h]
  simp only [Bool.false_eq_true, if_false]
  cases part s i with
  | error e => rfl
  | ok x => rfl
theorem parts_last (f : Nat) (p : Nat → Bool) (i : Nat) (h : is s i 93 = true) : parts s (f + 1) true p i = .ok (p, i) := by
  rw [parts, h]
  rfl
end

end Go.Proofs.YtcidimjjclanmaaDoor.Sy

/- How a pattern is read, by chapter 4; what follows for the laws. Plain lists. -/
import Derived.WalkKit
/- How a pattern is read, by chapter 4: one byte, escape, class, name or bounds at a time, with a stack of open parentheses. Plain lists; nothing of the program. -/
namespace Go.Proofs.Ytahhiajliomcfaa.Sy

/-- A node: its kind, its set, its kids, its bounds, its name. -/
structure Nd where
  op : Nat
  s : Nat → Bool
  l : List Nat
  lo : Int
  hi : Int
  name : List Nat

def noS (_ : Nat) : Bool := false
def oneS (c x : Nat) : Bool := x == c
def rngS (lo hi x : Nat) : Bool := decide (lo ≤ x) && decide (x ≤ hi)
def dotS (x : Nat) : Bool := !(x == 10)
def uniS (p q : Nat → Bool) (x : Nat) : Bool := p x || q x
def negS (b : Bool) (p : Nat → Bool) (x : Nat) : Bool := if b then !p x else p x

def ndEmpty : Nd := ⟨1, noS, [], 0, 0, []⟩
def ndBytes (p : Nat → Bool) : Nd := ⟨2, p, [], 0, 0, []⟩
def ndCat (l : List Nat) : Nd := ⟨3, noS, l, 0, 0, []⟩
def ndAlt (l : List Nat) : Nd := ⟨4, noS, l, 0, 0, []⟩
def ndRep (k : Nat) (lo hi : Int) : Nd := ⟨5, noS, [k], lo, hi, []⟩
def ndRef (nm : List Nat) : Nd := ⟨6, noS, [], 0, 0, nm⟩

def letterB (c : Nat) : Bool := (decide (97 ≤ c) && decide (c ≤ 122)) || (decide (65 ≤ c) && decide (c ≤ 90)) || c == 95
def digitB (c : Nat) : Bool := decide (48 ≤ c) && decide (c ≤ 57)
/-- Is each byte from a place on one that a name may have there? -/
def nameAt : Nat → List Nat → Bool
  | _, [] => true
  | i, c :: r => (letterB c || (decide (0 < i) && digitB c)) && nameAt (i + 1) r
def nameB (l : List Nat) : Bool := decide (1 ≤ l.length) && decide (l.length ≤ 32) && nameAt 0 l
def specialB (c : Nat) : Bool := [124, 42, 43, 63, 123, 125, 40, 41, 91, 93, 46, 92, 47, 36, 94, 34].contains c
def hexV (c : Nat) : Option Nat := if digitB c then some (c - 48) else if 97 ≤ c ∧ c ≤ 102 then some (c - 97 + 10) else none

/-- What is wrong, and where. -/
abbrev Bad := Nat × Nat

section
variable (s : List Nat)
def at_ (i : Nat) : Nat := s.getD i 0
/-- Is there a byte at i, and is it c? -/
def is (i c : Nat) : Bool := decide (i < s.length) && at_ s i == c
def dig (i : Nat) : Bool := decide (i < s.length) && digitB (at_ s i)

/-- A byte, or an escape; behind it. -/
def one (i : Nat) : Except Bad (Nat × Nat) :=
  if at_ s i ≠ 92 then .ok (at_ s i, i + 1)
  else if s.length ≤ i + 1 then .error (40, s.length)
  else
    let d := at_ s (i + 1)
    if d = 110 then .ok (10, i + 2)
    else if d = 116 then .ok (9, i + 2)
    else if d = 114 then .ok (13, i + 2)
    else if d = 120 then
      if s.length ≤ i + 3 then .error (40, s.length)
      else match hexV (at_ s (i + 2)), hexV (at_ s (i + 3)) with
        | some x, some y => .ok (16 * x + y, i + 4)
        | _, _ => .error (43, i)
    else if specialB d || d == 45 then .ok (d, i + 2)
    else .error (43, i)

/-- A byte of a class. -/
def member (i : Nat) : Except Bad (Nat × Nat) :=
  if s.length ≤ i then .error (40, s.length)
  else if at_ s i = 93 ∨ at_ s i = 45 ∨ at_ s i = 94 then .error (44, i)
  else one s i

/-- A byte of a class, or two with a dash between. -/
def part (i : Nat) : Except Bad ((Nat × Nat) × Nat) :=
  match member s i with
  | .error e => .error e
  | .ok (lo, j) =>
    if is s j 45 then
      match member s (j + 1) with
      | .error e => .error e
      | .ok (hi, k) => if hi < lo then .error (44, j + 1) else .ok ((lo, hi), k)
    else .ok ((lo, lo), j)

/-- The bytes of a class, up to its end; more: whether there is one already. -/
def parts : Nat → Bool → (Nat → Bool) → Nat → Except Bad ((Nat → Bool) × Nat)
  | 0, _, _, _ => .error (0, 0)
  | f + 1, more, p, i =>
    if more && is s i 93 then .ok (p, i)
    else match part s i with
      | .error e => .error e
      | .ok ((lo, hi), j) => parts f true (uniS p (rngS lo hi)) j

def emptyS (p : Nat → Bool) : Bool := (List.range 256).all fun x => !p x

/-- A class, from its bracket on. -/
def class_ (i : Nat) : Except Bad ((Nat → Bool) × Nat) :=
  let neg := is s (i + 1) 94
  match parts s (s.length + 1) false noS (if neg then i + 2 else i + 1) with
  | .error e => .error e
  | .ok (p, j) => if emptyS (negS neg p) then .error (44, j) else .ok (negS neg p, j + 1)

/-- Behind the digits from i on. -/
def digEnd : Nat → Nat → Nat
  | 0, i => i
  | f + 1, i => if dig s i then digEnd f (i + 1) else i
def value (l : List Nat) : Nat := l.foldl (fun v c => v * 10 + (c - 48)) 0
def cut (i j : Nat) : List Nat := (s.drop i).take (j - i)
/-- A number of bounds, if it is one. -/
def number (i j : Nat) : Option Nat := if 6 < j - i ∨ (at_ s i = 48 ∧ 1 < j - i) then none else some (value (cut s i j))
/-- What is wrong with bounds: nothing, if they may be. -/
def okBounds (lo : Option Nat) (hi : Option (Option Nat)) : Option (Int × Int) :=
  match lo, hi with
  | some a, none => if a ≤ 4096 then some (a, -1) else none
  | some a, some (some b) => if a ≤ 4096 ∧ b ≤ 4096 ∧ 1 ≤ b ∧ a ≤ b then some (a, b) else none
  | _, _ => none
/-- What stands behind the first number: the greatest one (none: there is no end), and where it ends. -/
def hiPart (lo : Option Nat) (j : Nat) : Option (Option Nat) × Nat :=
  if is s j 44 then
    if dig s (j + 1) then (some (number s (j + 1) (digEnd s s.length (j + 1))), digEnd s s.length (j + 1))
    else (none, j + 1)
  else (some lo, j)
def loEnd (i : Nat) : Nat := digEnd s s.length (i + 1)
def loPart (i : Nat) : Option Nat := number s (i + 1) (loEnd s i)
/-- Bounds, from their brace on. -/
def bounds (i : Nat) : Except Bad ((Int × Int) × Nat) :=
  if s.length ≤ (hiPart s (loPart s i) (loEnd s i)).2 then .error (40, s.length)
  else if at_ s (hiPart s (loPart s i) (loEnd s i)).2 ≠ 125 then .error (41, (hiPart s (loPart s i) (loEnd s i)).2)
  else match okBounds (loPart s i) (hiPart s (loPart s i) (loEnd s i)).1 with
    | some b => .ok (b, (hiPart s (loPart s i) (loEnd s i)).2 + 1)
    | none => .error (45, i)

/-- Where a brace closes, from i on. -/
def braceEnd : Nat → Nat → Nat
  | 0, i => i
  | f + 1, i => if i < s.length then (if at_ s i = 125 then i else braceEnd f (i + 1)) else i
/-- A name in braces, from the first one on. -/
def name_ (i : Nat) : Except Bad (List Nat × Nat) :=
  let j := braceEnd s s.length (i + 1)
  if s.length ≤ j then .error (40, s.length)
  else if nameB (cut s (i + 1) j) then .ok (cut s (i + 1) j, j + 1) else .error (41, i + 1)

/-- What was read so far: the place, the nodes; of each open parenthesis, the outermost last, the rows that are done and the items of the row; the same of the innermost one. -/
structure St where
  at_ : Nat
  ns : List Nd
  st : List (List Nat × List Nat)
  as : List Nat
  is : List Nat

/-- A row's node: the nodes with it, and its place. -/
def mkRow (ns : List Nd) : List Nat → List Nd × Nat
  | [] => (ns ++ [ndEmpty], ns.length)
  | [k] => (ns, k)
  | l => (ns ++ [ndCat l], ns.length)
def mkAlt (ns : List Nd) : List Nat → List Nd × Nat
  | [] => (ns, 0)
  | [k] => (ns, k)
  | l => (ns ++ [ndAlt l], ns.length)
/-- All rows of a parenthesis done. -/
def close (ns : List Nd) (as is : List Nat) : List Nd × Nat := mkAlt (mkRow ns is).1 (as ++ [(mkRow ns is).2])

def rep (σ : St) (lo hi : Int) (j : Nat) : St := { σ with at_ := j, ns := σ.ns ++ [ndRep (σ.is.getLastD 0) lo hi], is := σ.is.dropLast ++ [σ.ns.length] }
def item (σ : St) (n : Nd) (j : Nat) : St := { σ with at_ := j, ns := σ.ns ++ [n], is := σ.is ++ [σ.ns.length] }

/-- An atom. -/
def atom (σ : St) : Except Bad St :=
  let c := at_ s σ.at_
  if c = 40 then (if 64 ≤ σ.st.length then .error (46, σ.at_) else .ok { σ with at_ := σ.at_ + 1, st := (σ.as, σ.is) :: σ.st, as := [], is := [] })
  else if c = 91 then (match class_ s σ.at_ with | .error e => .error e | .ok (p, j) => .ok (item σ (ndBytes p) j))
  else if c = 46 then .ok (item σ (ndBytes dotS) (σ.at_ + 1))
  else if c = 123 ∧ dig s (σ.at_ + 1) = false then (match name_ s σ.at_ with | .error e => .error e | .ok (nm, j) => .ok (item σ (ndRef nm) j))
  else if c = 47 ∨ c = 36 then .error (42, σ.at_)
  else if c ≠ 92 ∧ specialB c = true then .error (41, σ.at_)
  else match one s σ.at_ with | .error e => .error e | .ok (b, j) => .ok (item σ (ndBytes (oneS b)) j)

/-- What stands at a place. -/
def step (σ : St) : Except Bad St :=
  let c := at_ s σ.at_
  if c = 124 then .ok { σ with at_ := σ.at_ + 1, ns := (mkRow σ.ns σ.is).1, as := σ.as ++ [(mkRow σ.ns σ.is).2], is := [] }
  else if c = 41 then
    match σ.st with
    | [] => .error (41, σ.at_)
    | (as, is) :: st => .ok ⟨σ.at_ + 1, (close σ.ns σ.as σ.is).1, st, as, is ++ [(close σ.ns σ.as σ.is).2]⟩
  else if σ.is ≠ [] ∧ c = 42 then .ok (rep σ 0 (-1) (σ.at_ + 1))
  else if σ.is ≠ [] ∧ c = 43 then .ok (rep σ 1 (-1) (σ.at_ + 1))
  else if σ.is ≠ [] ∧ c = 63 then .ok (rep σ 0 1 (σ.at_ + 1))
  else if σ.is ≠ [] ∧ c = 123 ∧ dig s (σ.at_ + 1) = true then (match bounds s σ.at_ with | .error e => .error e | .ok ((lo, hi), j) => .ok (rep σ lo hi j))
  else atom s σ

/-- The end. -/
def fin (σ : St) : Except Bad (List Nd) := match σ.st with
  | [] => .ok (close σ.ns σ.as σ.is).1
  | _ => .error (40, s.length)

def runF : Nat → St → Except Bad (List Nd)
  | 0, _ => .error (0, 0)
  | f + 1, σ => if σ.at_ < s.length then (match step s σ with | .error e => .error e | .ok σ' => runF f σ') else fin s σ

/-- All that is left to read. -/
def run (σ : St) : Except Bad (List Nd) := runF s (s.length + 1 - σ.at_) σ
def start : St := ⟨0, [], [], [], []⟩

/-- Parse: P4.3. -/
def parse : Except Bad (List Nd) :=
  if 1024 < s.length then .error (3, 0)
  else match run s start with
    | .error e => .error e
    | .ok ns => if 1024 < ns.length then .error (3, 0) else .ok ns
end

end Go.Proofs.Ytahhiajliomcfaa.Sy

/- Reading a pattern goes on, and ends. Plain lists. -/
namespace Go.Proofs.Ytahhiajliomcfaa.Sy

section
variable {s : List Nat}
theorem one_ok {i b j : Nat} (h : one s i = .ok (b, j)) (hi : i < s.length) : i < j ∧ j ≤ s.length := by
  unfold one at h
  split at h
  · cases h; omega
  · split at h
    · cases h
    · simp only at h
      split at h
      · cases h; omega
      · split at h
        · cases h; omega
        · split at h
          · cases h; omega
          · split at h
            · split at h
              · cases h
              · split at h
                · cases h; omega
                · cases h
            · split at h
              · cases h; omega
              · cases h
theorem member_ok {i b j : Nat} (h : member s i = .ok (b, j)) : i < j ∧ j ≤ s.length := by
  unfold member at h
  split at h
  · cases h
  · split at h
    · cases h
    · exact one_ok h (by omega)
theorem part_ok {i : Nat} {b : Nat × Nat} {j : Nat} (h : part s i = .ok (b, j)) : i < j ∧ j ≤ s.length := by
  unfold part at h
  split at h
  · cases h
  · rename_i lo j1 h1
    have := member_ok h1
    split at h
    · split at h
      · cases h
      · rename_i hi k h2
        have := member_ok h2
        split at h
        · cases h
        · cases h; omega
    · cases h; omega
theorem is_lt {i c : Nat} (h : is s i c = true) : i < s.length ∧ at_ s i = c := by
  unfold is at h
  simpa using h
theorem parts_ok : ∀ (f : Nat) (more : Bool) (p : Nat → Bool) (i : Nat) (q : Nat → Bool) (j : Nat), parts s f more p i = .ok (q, j) → i ≤ j ∧ j < s.length ∧ at_ s j = 93
  | 0, _, _, _, _, _, h => by cases h
  | f + 1, more, p, i, q, j, h => by
    unfold parts at h
    split at h
    · rename_i hc
      cases h
      simp only [Bool.and_eq_true] at hc
      have := is_lt hc.2
      omega
    · split at h
      · cases h
      · rename_i lo hi k h1
        have h2 := part_ok h1
        have h3 := parts_ok f _ _ _ _ _ h
        omega
theorem class_ok {i : Nat} {q : Nat → Bool} {j : Nat} (h : class_ s i = .ok (q, j)) : i < j ∧ j ≤ s.length := by
  unfold class_ at h
  simp only at h
  split at h
  · cases h
  · rename_i p k h1
    have h2 := parts_ok _ _ _ _ _ _ h1
    split at h
    · cases h
    · cases h
      split at h2 <;> omega
theorem digEnd_ge : ∀ (f i : Nat), i ≤ digEnd s f i
  | 0, _ => Nat.le_refl _
  | f + 1, i => by
    unfold digEnd
    split
    · have := digEnd_ge f (i + 1)
      omega
    · exact Nat.le_refl _
theorem hiPart_ge (lo : Option Nat) (j : Nat) : j ≤ (hiPart s lo j).2 := by
  unfold hiPart
  split
  · split
    · have := digEnd_ge (s := s) s.length (j + 1)
      simp only
      omega
    · simp only
      omega
  · exact Nat.le_refl _
theorem loEnd_ge (i : Nat) : i < loEnd s i := digEnd_ge (s := s) s.length (i + 1)
theorem bounds_ok {i : Nat} {b : Int × Int} {j : Nat} (h : bounds s i = .ok (b, j)) : i < j ∧ j ≤ s.length := by
  have h1 := hiPart_ge (s := s) (loPart s i) (loEnd s i)
  have h2 := loEnd_ge (s := s) i
  unfold bounds at h
  split at h
  · cases h
  · split at h
    · cases h
    · split at h
      · cases h; omega
      · cases h
theorem braceEnd_ge : ∀ (f i : Nat), i ≤ braceEnd s f i
  | 0, _ => Nat.le_refl _
  | f + 1, i => by
    unfold braceEnd
    split
    · split
      · exact Nat.le_refl _
      · have := braceEnd_ge f (i + 1)
        omega
    · exact Nat.le_refl _
theorem name_ok {i : Nat} {nm : List Nat} {j : Nat} (h : name_ s i = .ok (nm, j)) : i < j ∧ j ≤ s.length := by
  unfold name_ at h
  simp only at h
  have := braceEnd_ge (s := s) s.length (i + 1)
  split at h
  · cases h
  · split at h
    · cases h; omega
    · cases h
theorem atom_ok {σ σ' : St} (hi : σ.at_ < s.length) (h : atom s σ = .ok σ') : σ.at_ < σ'.at_ ∧ σ'.at_ ≤ s.length := by
  unfold atom at h
  simp only at h
  split at h
  · split at h
    · cases h
    · cases h
      exact ⟨Nat.lt_succ_self _, hi⟩
  · split at h
    · split at h
      · cases h
      · rename_i h1
        cases h
        exact class_ok h1
    · split at h
      · cases h
        exact ⟨Nat.lt_succ_self _, hi⟩
      · split at h
        · split at h
          · cases h
          · rename_i h1
            cases h
            exact name_ok h1
        · split at h
          · cases h
          · split at h
            · cases h
            · split at h
              · cases h
              · rename_i h1
                cases h
                exact one_ok h1 hi
theorem step_ok {σ σ' : St} (hi : σ.at_ < s.length) (h : step s σ = .ok σ') : σ.at_ < σ'.at_ ∧ σ'.at_ ≤ s.length := by
  unfold step at h
  simp only at h
  split at h
  · cases h
    exact ⟨Nat.lt_succ_self _, hi⟩
  · split at h
    · split at h
      · cases h
      · cases h
        exact ⟨Nat.lt_succ_self _, hi⟩
    · split at h
      · cases h
        exact ⟨Nat.lt_succ_self _, hi⟩
      · split at h
        · cases h
          exact ⟨Nat.lt_succ_self _, hi⟩
        · split at h
          · cases h
            exact ⟨Nat.lt_succ_self _, hi⟩
          · split at h
            · split at h
              · cases h
              · rename_i h1
                cases h
                exact bounds_ok h1
            · exact atom_ok hi h

theorem runF_fuel : ∀ (f g : Nat) (σ : St), σ.at_ ≤ s.length → s.length + 1 - σ.at_ ≤ f → s.length + 1 - σ.at_ ≤ g → runF s f σ = runF s g σ
  | 0, _, σ, h, h1, _ => by omega
  | _ + 1, 0, σ, h, _, h2 => by omega
  | f + 1, g + 1, σ, h, h1, h2 => by
    unfold runF
    by_cases hi : σ.at_ < s.length
    · rw [if_pos hi, if_pos hi]
      cases hs : step s σ with
      | error e => rfl
      | ok σ' =>
        have := step_ok hi hs
        exact runF_fuel f g σ' this.2 (by omega) (by omega)
    · rw [if_neg hi, if_neg hi]
theorem runF_succ (f : Nat) (σ : St) : runF s (f + 1) σ = if σ.at_ < s.length then (match step s σ with | .error e => .error e | .ok σ' => runF s f σ') else fin s σ := rfl
theorem run_step {σ : St} (hi : σ.at_ < s.length) : run s σ = match step s σ with | .error e => .error e | .ok σ' => run s σ' := by
  unfold run
  rw [show s.length + 1 - σ.at_ = (s.length - σ.at_) + 1 from by omega]
  rw [runF_succ, if_pos hi]
  cases hs : step s σ with
  | error e => rfl
  | ok σ' =>
    have := step_ok hi hs
    exact runF_fuel (s.length - σ.at_) (s.length + 1 - σ'.at_) σ' this.2 (by omega) (Nat.le_refl _)
theorem run_ok {σ σ' : St} (hi : σ.at_ < s.length) (h : step s σ = .ok σ') : run s σ = run s σ' := by rw [run_step hi, h]
theorem run_bad {σ : St} {e : Bad} (hi : σ.at_ < s.length) (h : step s σ = .error e) : run s σ = .error e := by rw [run_step hi, h]
theorem run_end {σ : St} (hi : σ.at_ = s.length) : run s σ = fin s σ := by
  unfold run
  rw [show s.length + 1 - σ.at_ = 0 + 1 from by omega]
  unfold runF
  rw [if_neg (by omega)]
end

end Go.Proofs.Ytahhiajliomcfaa.Sy

/- What is read is a tree, or told where it is none. Plain lists. -/
namespace Go.Proofs.Ytahhiajliomcfaa.Sy

/-- Has a node just what its kind has? -/
def zeroB (n : Nd) : Bool := emptyS n.s && n.lo == 0 && n.hi == 0
def shapeB (n : Nd) : Bool :=
  if n.op = 1 then zeroB n && n.name == [] && n.l == []
  else if n.op = 2 then !emptyS n.s && n.lo == 0 && n.hi == 0 && n.name == [] && n.l == []
  else if n.op = 3 ∨ n.op = 4 then zeroB n && n.name == [] && decide (2 ≤ n.l.length)
  else if n.op = 5 then emptyS n.s && n.name == [] && decide (n.l.length = 1) && decide (0 ≤ n.lo) && decide (n.lo ≤ 4096) && (n.hi == -1 || (decide (1 ≤ n.hi) && decide (n.hi ≤ 4096) && decide (n.lo ≤ n.hi)))
  else if n.op = 6 then zeroB n && nameB n.name && n.l == []
  else false

/-- The nodes from a up to b are trees, one behind the other, with these roots. -/
inductive Forest (ns : List Nd) : Nat → Nat → List Nat → Prop
  | nil (a : Nat) : Forest ns a a []
  | snoc {a b c : Nat} {ks : List Nat} {n : Nd} : Forest ns a b ks → ns[c]? = some n → Forest ns b c n.l → Forest ns a (c + 1) (ks ++ [c])

section
variable {ns : List Nd}
theorem Forest.le {a b : Nat} {ks : List Nat} (h : Forest ns a b ks) : a ≤ b := by
  induction h with
  | nil => exact Nat.le_refl _
  | snoc _ _ _ h1 h2 => omega
theorem Forest.more {a b : Nat} {ks : List Nat} (h : Forest ns a b ks) (m : List Nd) : Forest (ns ++ m) a b ks := by
  induction h with
  | nil a => exact .nil a
  | snoc _ hn _ h1 h2 => exact .snoc h1 (by rw [List.getElem?_append_left (List.getElem?_eq_some_iff.1 hn).1]; exact hn) h2
theorem Forest.join {a b c : Nat} {xs ys : List Nat} (h : Forest ns a b xs) (h2 : Forest ns b c ys) : Forest ns a c (xs ++ ys) := by
  induction h2 with
  | nil => rw [List.append_nil]; exact h
  | snoc _ hn hk h1 _ => rw [← List.append_assoc]; exact .snoc (h1 h) hn hk
theorem Forest.split {a c : Nat} {ks : List Nat} (h : Forest ns a c ks) : ∀ xs ys, ks = xs ++ ys → ∃ b, Forest ns a b xs ∧ Forest ns b c ys := by
  induction h with
  | nil a =>
    intro xs ys e
    have e := e.symm
    rw [List.append_eq_nil_iff] at e
    rw [e.1, e.2]
    exact ⟨a, .nil a, .nil a⟩
  | @snoc a b c ks n h hn hk ih _ =>
    intro xs ys e
    rcases List.eq_nil_or_concat ys with rfl | ⟨ys', y, rfl⟩
    · rw [List.append_nil] at e
      subst e
      exact ⟨c + 1, .snoc h hn hk, .nil _⟩
    · rw [List.concat_eq_append, ← List.append_assoc] at e
      obtain ⟨e1, e2⟩ := List.append_inj' e rfl
      cases e2
      obtain ⟨b', h1, h2⟩ := ih xs ys' e1
      exact ⟨b', h1, by rw [List.concat_eq_append]; exact .snoc h2 hn hk⟩
/-- A new node over the last trees. -/
theorem Forest.put {a : Nat} {xs ys : List Nat} {n : Nd} (h : Forest ns a ns.length (xs ++ ys)) (hn : n.l = ys) : Forest (ns ++ [n]) a (ns ++ [n]).length (xs ++ [ns.length]) := by
  obtain ⟨b, h1, h2⟩ := h.split xs ys rfl
  rw [List.length_append, List.length_singleton]
  exact .snoc (h1.more _) (n := n) (by simp) (by rw [hn]; exact h2.more _)
theorem Forest.leaf {a : Nat} {xs : List Nat} {n : Nd} (h : Forest ns a ns.length xs) (hn : n.l = []) : Forest (ns ++ [n]) a (ns ++ [n]).length (xs ++ [ns.length]) :=
  Forest.put (ys := []) (by rw [List.append_nil]; exact h) hn
theorem Forest.last {a b k : Nat} (h : Forest ns a b [k]) : b = k + 1 := by
  generalize e : [k] = ks at h
  cases h with
  | nil => cases e
  | @snoc a b' c ks' n _ _ _ =>
    cases ks' with
    | nil => simp at e; rw [e]
    | cons x r => simp at e

def Shp (ns : List Nd) : Prop := ∀ n ∈ ns, shapeB n = true
theorem Shp.put {n : Nd} (h : Shp ns) (hn : shapeB n = true) : Shp (ns ++ [n]) := by
  intro m hm
  rcases List.mem_append.1 hm with hm | hm
  · exact h m hm
  · rw [List.mem_singleton] at hm; rw [hm]; exact hn
end

theorem emptyS_no : emptyS noS = true := by
  unfold emptyS
  rw [List.all_eq_true]
  intro x _
  rfl
theorem shape_empty : shapeB ndEmpty = true := by simp [shapeB, ndEmpty, zeroB, emptyS_no]
theorem shape_bytes {p : Nat → Bool} (h : emptyS p = false) : shapeB (ndBytes p) = true := by simp [shapeB, ndBytes, h]
theorem shape_kids {l : List Nat} (h : 2 ≤ l.length) : shapeB (ndCat l) = true ∧ shapeB (ndAlt l) = true := by
  simp [shapeB, ndCat, ndAlt, zeroB, emptyS_no, h]
theorem shape_rep {k : Nat} {lo hi : Int} (h0 : 0 ≤ lo) (h1 : lo ≤ 4096) (h2 : hi = -1 ∨ (1 ≤ hi ∧ hi ≤ 4096 ∧ lo ≤ hi)) : shapeB (ndRep k lo hi) = true := by
  simp only [shapeB, ndRep, emptyS_no]
  simp [h0, h1]
  rcases h2 with h2 | h2
  · exact .inl h2
  · simp [h2.1, h2.2.1, h2.2.2]
theorem shape_ref {nm : List Nat} (h : nameB nm = true) : shapeB (ndRef nm) = true := by simp [shapeB, ndRef, zeroB, emptyS_no, h]
theorem emptyS_of {p : Nat → Bool} {x : Nat} (hx : x < 256) (h : p x = true) : emptyS p = false := by
  unfold emptyS
  rw [List.all_eq_false]
  exact ⟨x, List.mem_range.2 hx, by simp [h]⟩

/-- The roots of what was read. -/
def flatS : List (List Nat × List Nat) → List Nat
  | [] => []
  | f :: r => flatS r ++ (f.1 ++ f.2)
def roots (σ : St) : List Nat := flatS σ.st ++ σ.as ++ σ.is
structure Inv (σ : St) : Prop where
  shp : Shp σ.ns
  frs : Forest σ.ns 0 σ.ns.length (roots σ)

section
variable {ns : List Nd}
theorem mkRow_inv {pre is : List Nat} (hs : Shp ns) (h : Forest ns 0 ns.length (pre ++ is)) : Shp (mkRow ns is).1 ∧ Forest (mkRow ns is).1 0 (mkRow ns is).1.length (pre ++ [(mkRow ns is).2]) := by
  unfold mkRow
  split
  · exact ⟨hs.put shape_empty, Forest.leaf (by rw [List.append_nil] at h; exact h) rfl⟩
  · exact ⟨hs, h⟩
  · rename_i h1 h2
    refine ⟨hs.put (shape_kids ?_).1, h.put rfl⟩
    match is, h1, h2 with
    | _ :: _ :: _, _, _ => simp
    | [x], _, h2 => exact absurd rfl (h2 x)
    | [], h1, _ => exact absurd rfl h1
theorem mkAlt_inv {pre as : List Nat} (hne : as ≠ []) (hs : Shp ns) (h : Forest ns 0 ns.length (pre ++ as)) : Shp (mkAlt ns as).1 ∧ Forest (mkAlt ns as).1 0 (mkAlt ns as).1.length (pre ++ [(mkAlt ns as).2]) := by
  unfold mkAlt
  split
  · exact absurd rfl hne
  · exact ⟨hs, h⟩
  · rename_i h1 h2
    refine ⟨hs.put (shape_kids ?_).2, h.put rfl⟩
    match as, h1, h2 with
    | _ :: _ :: _, _, _ => simp
    | [x], _, h2 => exact absurd rfl (h2 x)
    | [], h1, _ => exact absurd rfl h1
theorem close_inv {pre as is : List Nat} (hs : Shp ns) (h : Forest ns 0 ns.length (pre ++ as ++ is)) : Shp (close ns as is).1 ∧ Forest (close ns as is).1 0 (close ns as is).1.length (pre ++ [(close ns as is).2]) := by
  obtain ⟨h1, h2⟩ := mkRow_inv hs h
  rw [List.append_assoc] at h2
  exact mkAlt_inv (by simp) h1 h2
end

theorem inv_start : Inv start := ⟨fun _ hn => (by cases hn), Forest.nil 0⟩
theorem inv_item {σ : St} {n : Nd} (h : Inv σ) (hn : shapeB n = true) (hl : n.l = []) (j : Nat) : Inv (item σ n j) := by
  refine ⟨h.shp.put hn, ?_⟩
  have := h.frs.leaf (n := n) hl
  unfold roots at this ⊢
  simp only [item]
  rw [← List.append_assoc]
  exact this
theorem inv_rep {σ : St} {lo hi : Int} (h : Inv σ) (hne : σ.is ≠ []) (h0 : 0 ≤ lo) (h1 : lo ≤ 4096) (h2 : hi = -1 ∨ (1 ≤ hi ∧ hi ≤ 4096 ∧ lo ≤ hi)) (j : Nat) : Inv (rep σ lo hi j) := by
  refine ⟨h.shp.put (shape_rep h0 h1 h2), ?_⟩
  have e : σ.is = σ.is.dropLast ++ [σ.is.getLastD 0] := by
    have := List.dropLast_concat_getLast hne
    rw [List.getLastD_eq_getLast?, List.getLast?_eq_some_getLast hne]
    exact this.symm
  have hf := h.frs
  unfold roots at hf ⊢
  rw [e, ← List.append_assoc] at hf
  have := hf.put (n := ndRep (σ.is.getLastD 0) lo hi) rfl
  simp only [rep]
  rw [← List.append_assoc]
  exact this

section
variable {s : List Nat}
theorem hexV_lt {c x : Nat} (h : hexV c = some x) : x < 16 := by
  unfold hexV digitB at h
  split at h
  · rename_i h1
    simp at h1
    cases h
    omega
  · split at h
    · cases h; omega
    · cases h
theorem at_lt (hb : ∀ c ∈ s, c < 256) (i : Nat) : at_ s i < 256 := by
  unfold at_
  rw [List.getD_eq_getElem?_getD]
  rcases Nat.lt_or_ge i s.length with h | h
  · rw [List.getElem?_eq_getElem h]
    exact hb _ (List.getElem_mem h)
  · rw [List.getElem?_eq_none h]
    decide
theorem one_lt (hb : ∀ c ∈ s, c < 256) {i b j : Nat} (h : one s i = .ok (b, j)) : b < 256 := by
  have h1 := at_lt hb i
  have h2 := at_lt hb (i + 1)
  unfold one at h
  split at h
  · cases h; exact h1
  · split at h
    · cases h
    · simp only at h
      split at h
      · cases h; omega
      · split at h
        · cases h; omega
        · split at h
          · cases h; omega
          · split at h
            · split at h
              · cases h
              · split at h
                · rename_i hx hy
                  have := hexV_lt hx
                  have := hexV_lt hy
                  cases h; omega
                · cases h
            · split at h
              · cases h; exact h2
              · cases h
theorem class_ne {i : Nat} {q : Nat → Bool} {j : Nat} (h : class_ s i = .ok (q, j)) : emptyS q = false := by
  unfold class_ at h
  simp only at h
  split at h
  · cases h
  · split at h
    · cases h
    · rename_i h1
      cases h
      simpa using h1
theorem bounds_fit {i : Nat} {lo hi : Int} {j : Nat} (h : bounds s i = .ok ((lo, hi), j)) : 0 ≤ lo ∧ lo ≤ 4096 ∧ (hi = -1 ∨ (1 ≤ hi ∧ hi ≤ 4096 ∧ lo ≤ hi)) := by
  unfold bounds at h
  split at h
  · cases h
  · split at h
    · cases h
    · split at h
      · rename_i b hb
        cases h
        unfold okBounds at hb
        split at hb
        · split at hb
          · cases hb
            omega
          · cases hb
        · split at hb
          · cases hb
            omega
          · cases hb
        · cases hb
      · cases h
theorem name_fit {i : Nat} {nm : List Nat} {j : Nat} (h : name_ s i = .ok (nm, j)) : nameB nm = true := by
  unfold name_ at h
  simp only at h
  split at h
  · cases h
  · split at h
    · rename_i h1
      cases h
      exact h1
    · cases h

theorem atom_inv (hb : ∀ c ∈ s, c < 256) {σ σ' : St} (hI : Inv σ) (h : atom s σ = .ok σ') : Inv σ' := by
  unfold atom at h
  simp only at h
  split at h
  · split at h
    · cases h
    · cases h
      refine ⟨hI.shp, ?_⟩
      have := hI.frs
      unfold roots at this ⊢
      simp only [flatS, List.append_nil]
      rw [← List.append_assoc]
      exact this
  · split at h
    · split at h
      · cases h
      · rename_i h1
        cases h
        exact inv_item hI (shape_bytes (class_ne h1)) rfl _
    · split at h
      · cases h
        exact inv_item hI (shape_bytes (emptyS_of (x := 0) (by decide) rfl)) rfl _
      · split at h
        · split at h
          · cases h
          · rename_i h1
            cases h
            exact inv_item hI (shape_ref (name_fit h1)) rfl _
        · split at h
          · cases h
          · split at h
            · cases h
            · split at h
              · cases h
              · rename_i h1
                cases h
                exact inv_item hI (shape_bytes (emptyS_of (one_lt hb h1) (by simp [oneS]))) rfl _
theorem step_inv (hb : ∀ c ∈ s, c < 256) {σ σ' : St} (hI : Inv σ) (h : step s σ = .ok σ') : Inv σ' := by
  unfold step at h
  simp only at h
  split at h
  · cases h
    obtain ⟨h1, h2⟩ := mkRow_inv hI.shp hI.frs
    refine ⟨h1, ?_⟩
    unfold roots
    simp only [List.append_nil]
    rw [← List.append_assoc]
    exact h2
  · split at h
    · split at h
      · cases h
      · rename_i as is st hst
        cases h
        have hf := hI.frs
        unfold roots at hf
        rw [hst] at hf
        obtain ⟨h1, h2⟩ := close_inv hI.shp hf
        refine ⟨h1, ?_⟩
        unfold roots
        simp only [flatS] at h2 ⊢
        simp only [List.append_assoc] at h2 ⊢
        exact h2
    · split at h
      · rename_i h1
        cases h
        exact inv_rep hI h1.1 (by decide) (by decide) (.inl rfl) _
      · split at h
        · rename_i h1
          cases h
          exact inv_rep hI h1.1 (by decide) (by decide) (.inl rfl) _
        · split at h
          · rename_i h1
            cases h
            exact inv_rep hI h1.1 (by decide) (by decide) (.inr (by decide)) _
          · split at h
            · rename_i h1
              split at h
              · cases h
              · rename_i h2
                cases h
                obtain ⟨b0, b1, b2⟩ := bounds_fit h2
                exact inv_rep hI h1.1 b0 b1 b2 _
            · exact atom_inv hb hI h

theorem runF_tree (hb : ∀ c ∈ s, c < 256) : ∀ (f : Nat) (σ : St) (ns : List Nd), Inv σ → runF s f σ = .ok ns → Shp ns ∧ 1 ≤ ns.length ∧ Forest ns 0 ns.length [ns.length - 1]
  | 0, _, _, _, h => by cases h
  | f + 1, σ, ns, hI, h => by
    rw [runF_succ] at h
    split at h
    · split at h
      · cases h
      · rename_i h1
        exact runF_tree hb f _ ns (step_inv hb hI h1) h
    · unfold fin at h
      split at h
      · rename_i hst
        cases h
        have hf := hI.frs
        unfold roots at hf
        rw [hst] at hf
        obtain ⟨h1, h2⟩ := close_inv (pre := []) hI.shp hf
        have e := Forest.last (k := (close σ.ns σ.as σ.is).2) h2
        refine ⟨h1, by omega, ?_⟩
        rw [show (close σ.ns σ.as σ.is).1.length - 1 = (close σ.ns σ.as σ.is).2 from by omega]
        exact h2
      · cases h
/-- P4.4. -/
theorem parse_tree (hb : ∀ c ∈ s, c < 256) {ns : List Nd} (h : parse s = .ok ns) : Shp ns ∧ 1 ≤ ns.length ∧ ns.length ≤ 1024 ∧ Forest ns 0 ns.length [ns.length - 1] ∧ s.length ≤ 1024 := by
  unfold parse at h
  split at h
  · cases h
  · rename_i hl
    split at h
    · cases h
    · rename_i ms hm
      split at h
      · cases h
      · rename_i hn
        cases h
        obtain ⟨h1, h2, h3⟩ := runF_tree hb _ _ _ inv_start hm
        exact ⟨h1, h2, by omega, h3, by omega⟩
end

end Go.Proofs.Ytahhiajliomcfaa.Sy

/- What is wrong is told at a place of the text, or its end; and a text makes no more nodes than twice its bytes, and two. Plain lists. -/
namespace Go.Proofs.Ytahhiajliomcfaa.Sy

section
variable {s : List Nat}
end

end Go.Proofs.Ytahhiajliomcfaa.Sy

/- A pattern in parentheses is read as without them, one place further on. Plain lists. -/
namespace Go.Proofs.Ytahhiajliomcfaa.Sy

section
variable {x : List Nat}
end

end Go.Proofs.Ytahhiajliomcfaa.Sy

/- A pattern in parentheses: bounds, names, and the whole. Plain lists. -/
namespace Go.Proofs.Ytahhiajliomcfaa.Sy

section
variable {s x : List Nat}
end

end Go.Proofs.Ytahhiajliomcfaa.Sy

/- A pattern in parentheses: what is wrong with it, and the whole. Plain lists. -/
namespace Go.Proofs.Ytahhiajliomcfaa.Sy

section
variable {x : List Nat}
end

end Go.Proofs.Ytahhiajliomcfaa.Sy

/- The patterns of the laws: letters, letters with bars, a name in braces, bounds. Plain lists. -/
namespace Go.Proofs.Ytahhiajliomcfaa.Sy

section
variable {s : List Nat}
theorem step_bar {σ : St} (h : at_ s σ.at_ = 124) : step s σ = .ok { σ with at_ := σ.at_ + 1, ns := (mkRow σ.ns σ.is).1, as := σ.as ++ [(mkRow σ.ns σ.is).2], is := [] } := by
  unfold step
  simp only
  rw [if_pos h]
end

/-- A number's digits. -/
def digs (n : Nat) : List Nat := if 9 < n then digs (n / 10) ++ [48 + n % 10] else [48 + n]
termination_by n
decreasing_by omega
theorem digs_small {n : Nat} (h : n ≤ 9) : digs n = [48 + n] := by rw [digs, if_neg (by omega)]
theorem digs_great {n : Nat} (h : 9 < n) : digs n = digs (n / 10) ++ [48 + n % 10] := by rw [digs, if_pos h]
theorem value_snoc (l : List Nat) (c : Nat) : value (l ++ [c]) = value l * 10 + (c - 48) := by simp [value]
theorem digs_all : ∀ n : Nat, value (digs n) = n ∧ (∀ c ∈ digs n, digitB c = true) ∧ digs n ≠ [] ∧ (9 < n → (digs n).head? ≠ some 48) := by
  intro n
  induction n using Nat.strongRecOn with
  | ind n ih =>
    rcases Nat.lt_or_ge 9 n with h | h
    · obtain ⟨h1, h2, h3, h4⟩ := ih (n / 10) (by omega)
      rw [digs_great h]
      refine ⟨?_, ?_, by simp, fun _ => ?_⟩
      · rw [value_snoc, h1]; omega
      · intro c hc
        rcases List.mem_append.1 hc with hc | hc
        · exact h2 c hc
        · rw [List.mem_singleton] at hc
          subst hc
          unfold digitB
          simp
          omega
      · rcases Nat.lt_or_ge 9 (n / 10) with g | g
        · have h5 := h4 g
          cases hd : digs (n / 10) with
          | nil => exact absurd hd h3
          | cons c r => rw [hd] at h5; simpa using h5
        · rw [digs_small g]
          simp
          omega
    · rw [digs_small h]
      refine ⟨by simp [value], fun c hc => ?_, by simp, fun h2 => by omega⟩
      rw [List.mem_singleton] at hc
      subst hc
      unfold digitB
      simp
      omega
theorem digs_len {n : Nat} (h : n ≤ 9999) : (digs n).length ≤ 4 := by
  rcases Nat.lt_or_ge 9 n with a | a
  · rw [digs_great a]
    rcases Nat.lt_or_ge 9 (n / 10) with b | b
    · rw [digs_great b]
      rcases Nat.lt_or_ge 9 (n / 10 / 10) with c | c
      · rw [digs_great c, digs_small (by omega)]
        simp
      · rw [digs_small c]; simp
    · rw [digs_small b]; simp
  · rw [digs_small a]; simp

section
variable {s : List Nat}
end

end Go.Proofs.Ytahhiajliomcfaa.Sy

/- The reference's walk over a tree: it comes to each node once, in order, just if the nodes are trees one behind the other. Plain lists. -/
namespace Go.Proofs.Ytahhiajliomcfaa.Sy

mutual
/-- The nodes under a node, as they are come to; none: it is no tree, or too many were come to. K: each node's kids; n: how many nodes there are. -/
def walkF (K : Nat → List Int) (n : Nat) : Nat → Nat → List Nat → Option (List Nat)
  | 0, _, _ => none
  | f + 1, at', seen => if n ≤ seen.length then none else (kidsF K n f at' (K at') seen).map (· ++ [at'])
/-- .. under its kids, one by one. -/
def kidsF (K : Nat → List Int) (n : Nat) : Nat → Nat → List Int → List Nat → Option (List Nat)
  | _, _, [], seen => some seen
  | f, at', k :: r, seen => if k < 0 ∨ (at' : Int) ≤ k then none else
    match walkF K n f k.toNat seen with
    | none => none
    | some seen' => kidsF K n f at' r seen'
end

theorem range_more {b c : Nat} (h : b ≤ c) : List.range' b (c - b) ++ [c] = List.range' b (c + 1 - b) := by
  rw [show c + 1 - b = (c - b) + 1 from by omega, List.range'_1_concat, show b + (c - b) = c from by omega]
theorem range_join {a b c : Nat} (h1 : a ≤ b) (h2 : b ≤ c) : List.range' a (b - a) ++ List.range' b (c - b) = List.range' a (c - a) := by
  have := List.range'_append_1 (s := a) (m := b - a) (n := c - b)
  rw [show a + (b - a) = b from by omega, show (b - a) + (c - b) = c - a from by omega] at this
  exact this
section
variable {K : Nat → List Int} {n : Nat} {ns : List Nd}
theorem kidsF_app (f at' : Nat) : ∀ (xs ys : List Int) (seen : List Nat), kidsF K n f at' (xs ++ ys) seen = (kidsF K n f at' xs seen).bind (kidsF K n f at' ys)
  | [], ys, seen => by rw [kidsF]; rfl
  | k :: r, ys, seen => by
    rw [List.cons_append, kidsF, kidsF]
    split
    · rfl
    · cases walkF K n f k.toNat seen with
      | none => rfl
      | some s => exact kidsF_app f at' r ys s

/-- A forest is come to in order. -/
theorem forest_walk (hK : ∀ i m, ns[i]? = some m → K i = m.l.map fun k : Nat => (k : Int)) {a b : Nat} {ks : List Nat} (h : Forest ns a b ks) :
    ∀ (f at' : Nat) (seen : List Nat), b ≤ at' → b ≤ f → seen.length + (b - a) ≤ n → kidsF K n f at' (ks.map fun k : Nat => (k : Int)) seen = some (seen ++ List.range' a (b - a)) := by
  induction h with
  | nil a => intro f at' seen _ _ _; rw [List.map_nil, kidsF, Nat.sub_self]; simp
  | @snoc a b c ks m h1 hn h2 i1 i2 =>
    intro f at' seen hb hf hs
    have l1 := h1.le
    have l2 := h2.le
    rw [List.map_append, kidsF_app, i1 f at' seen (by omega) (by omega) (by omega)]
    show kidsF K n f at' [(c : Int)] _ = _
    rw [kidsF, if_neg (by omega)]
    obtain ⟨f, rfl⟩ : ∃ g, f = g + 1 := ⟨f - 1, by omega⟩
    have hw : walkF K n (f + 1) (c : Int).toNat (seen ++ List.range' a (b - a)) = some (seen ++ List.range' a (c + 1 - a)) := by
      rw [Int.toNat_natCast, walkF, if_neg (by simp; omega), hK c m hn, i2 f c _ (Nat.le_refl _) (by omega) (by simp; omega)]
      show some (seen ++ List.range' a (b - a) ++ List.range' b (c - b) ++ [c]) = some _
      rw [List.append_assoc, List.append_assoc, range_more l2, range_join l1 (by omega)]
    rw [hw]
    show kidsF K n (f + 1) at' [] _ = _
    rw [kidsF]

theorem range_split {a : Nat} {r1 r2 : List Nat} (h : r1 ++ r2 = List.range' a (r1 ++ r2).length) : r1 = List.range' a r1.length ∧ r2 = List.range' (a + r1.length) r2.length := by
  rw [List.length_append, ← List.range'_append_1] at h
  exact List.append_inj h (by simp)
/-- What is known of what was come to, if that is in order. -/
def Told (K : Nat → List Int) (ns : List Nd) (ks : List Int) (rest : List Nat) : Prop :=
  ∀ a, rest = List.range' a rest.length → (∀ i ∈ rest, ∀ k ∈ K i, 0 ≤ k) ∧ (∀ k ∈ ks, 0 ≤ k) ∧ Forest ns a (a + rest.length) (ks.map Int.toNat)
theorem kids_told {f : Nat} (hw : ∀ (at' : Nat) (seen out : List Nat), at' < ns.length → walkF K n f at' seen = some out → ∃ rest, out = seen ++ rest ∧ Told K ns [(at' : Int)] rest) :
    ∀ (ks : List Int) (at' : Nat) (seen out : List Nat), at' ≤ ns.length → kidsF K n f at' ks seen = some out → ∃ rest, out = seen ++ rest ∧ Told K ns ks rest
  | [], at', seen, out, _, h => by
    rw [kidsF] at h
    cases h
    refine ⟨[], by simp, fun a _ => ⟨by simp, by simp, .nil a⟩⟩
  | k :: r, at', seen, out, hl, h => by
    rw [kidsF] at h
    split at h
    · cases h
    · rename_i hk
      cases h1 : walkF K n f k.toNat seen with
      | none => rw [h1] at h; cases h
      | some s1 =>
        rw [h1] at h
        obtain ⟨r1, e1, t1⟩ := hw k.toNat seen s1 (by omega) h1
        obtain ⟨r2, e2, t2⟩ := kids_told hw r at' s1 out hl h
        refine ⟨r1 ++ r2, by rw [e2, e1, List.append_assoc], fun a ha => ?_⟩
        obtain ⟨a1, a2⟩ := range_split ha
        obtain ⟨p1, p2, p3⟩ := t1 a a1
        obtain ⟨q1, q2, q3⟩ := t2 _ a2
        refine ⟨fun i hi => ?_, fun x hx => ?_, ?_⟩
        · rcases List.mem_append.1 hi with hi | hi
          · exact p1 i hi
          · exact q1 i hi
        · rcases List.mem_cons.1 hx with rfl | hx
          · omega
          · exact q2 x hx
        · rw [List.length_append, ← Nat.add_assoc, List.map_cons]
          have hf : Forest ns a (a + r1.length) [k.toNat] := by
            have := p3
            rw [List.map_cons, List.map_nil, Int.toNat_natCast] at this
            exact this
          exact hf.join q3
theorem walk_told (hK : ∀ i m, ns[i]? = some m → m.l = (K i).map Int.toNat) : ∀ (f at' : Nat) (seen out : List Nat), at' < ns.length → walkF K n f at' seen = some out → ∃ rest, out = seen ++ rest ∧ Told K ns [(at' : Int)] rest
  | 0, _, _, _, _, h => by rw [walkF] at h; cases h
  | f + 1, at', seen, out, hl, h => by
    rw [walkF] at h
    split at h
    · cases h
    · cases h1 : kidsF K n f at' (K at') seen with
      | none => rw [h1] at h; cases h
      | some s1 =>
        rw [h1] at h
        obtain ⟨r, e, t⟩ := kids_told (walk_told hK f) (K at') at' seen s1 (by omega) h1
        have ho : out = s1 ++ [at'] := by simpa using h.symm
        refine ⟨r ++ [at'], by rw [ho, e, List.append_assoc], fun a ha => ?_⟩
        obtain ⟨a1, a2⟩ := range_split ha
        have hat : at' = a + r.length := by simpa using a2
        obtain ⟨p1, p2, p3⟩ := t a a1
        have hn : ns[at']? = some ns[at'] := List.getElem?_eq_getElem hl
        refine ⟨fun i hi => ?_, fun x hx => ?_, ?_⟩
        · rcases List.mem_append.1 hi with hi | hi
          · exact p1 i hi
          · rw [List.mem_singleton] at hi
            subst hi
            exact p2
        · rw [List.mem_singleton] at hx
          subst hx
          omega
        · rw [List.length_append, List.length_singleton, ← Nat.add_assoc, ← hat]
          have p4 : Forest ns a at' (ns[at']).l := by
            rw [hK at' _ hn, hat]
            rw [hat] at p3
            exact p3
          have := Forest.snoc (Forest.nil (ns := ns) a) hn p4
          simpa using this
/-- P4.1's order, by the walk: each node is come to once, in order, just if the nodes are one tree. -/
theorem walk_iff (hK : ∀ i m, ns[i]? = some m → m.l = (K i).map Int.toNat) (hn : ns.length = n) (h1 : 1 ≤ n) :
    walkF K n n (n - 1) [] = some (List.range n) ↔ (∀ i, i < n → ∀ k ∈ K i, 0 ≤ k) ∧ Forest ns 0 n [n - 1] := by
  constructor
  · intro h
    obtain ⟨rest, e, t⟩ := walk_told hK n (n - 1) [] (List.range n) (by omega) h
    rw [List.nil_append] at e
    subst e
    obtain ⟨p1, p2, p3⟩ := t 0 (by rw [List.length_range, List.range_eq_range'])
    rw [List.length_range, Nat.zero_add] at p3
    refine ⟨fun i hi => p1 i (List.mem_range.2 hi), ?_⟩
    simpa using p3
  · rintro ⟨hp, hf⟩
    obtain ⟨m, rfl⟩ : ∃ m, n = m + 1 := ⟨n - 1, by omega⟩
    rw [Nat.add_sub_cancel] at hf ⊢
    have hK2 : ∀ i m', ns[i]? = some m' → K i = m'.l.map fun k : Nat => (k : Int) := by
      intro i m' hm
      have hi : i < ns.length := (List.getElem?_eq_some_iff.1 hm).1
      rw [hK i m' hm, List.map_map]
      have hh := hp i (by omega)
      generalize K i = l at *
      induction l with
      | nil => rfl
      | cons x r ih =>
        have hx := hh x (by simp)
        rw [List.map_cons, ← ih (fun k hk => hh k (by simp [hk]))]
        congr 1
        show x = ((x.toNat : Nat) : Int)
        omega
    have := forest_walk (n := m + 1) hK2 hf (m + 1) (m + 1) [] (Nat.le_refl _) (Nat.le_refl _) (by simp)
    rw [List.map_cons, List.map_nil, kidsF, if_neg (by omega), Int.toNat_natCast] at this
    cases hwk : walkF K (m + 1) (m + 1) m [] with
    | none => rw [hwk] at this; cases this
    | some s =>
      rw [hwk] at this
      simp only at this
      rw [kidsF] at this
      rw [this, List.nil_append, Nat.sub_zero, List.range_eq_range']
end

end Go.Proofs.Ytahhiajliomcfaa.Sy

/- Reading a pattern, as a recursive descent comes to it: what each of its parts does to the machine. Plain lists. -/
namespace Go.Proofs.Ytahhiajliomcfaa.Sy

section
variable (s : List Nat)
/-- Does a repetition stand here? -/
def repAt (i : Nat) : Bool := is s i 42 || is s i 43 || is s i 63 || (is s i 123 && dig s (i + 1))
/-- How often: from its sign on. -/
def repet (i : Nat) : Except Bad ((Int × Int) × Nat) :=
  if at_ s i = 42 then .ok ((0, -1), i + 1) else if at_ s i = 43 then .ok ((1, -1), i + 1) else if at_ s i = 63 then .ok ((0, 1), i + 1) else bounds s i
/-- An atom that is no parenthesis. -/
def lone (i : Nat) : Except Bad (Nd × Nat) :=
  if at_ s i = 91 then (match class_ s i with | .error e => .error e | .ok (p, j) => .ok (ndBytes p, j))
  else if at_ s i = 46 then .ok (ndBytes dotS, i + 1)
  else if at_ s i = 123 ∧ dig s (i + 1) = false then (match name_ s i with | .error e => .error e | .ok (nm, j) => .ok (ndRef nm, j))
  else if at_ s i = 47 ∨ at_ s i = 36 then .error (42, i)
  else if at_ s i ≠ 92 ∧ specialB (at_ s i) = true then .error (41, i)
  else match one s i with | .error e => .error e | .ok (b, j) => .ok (ndBytes (oneS b), j)
end

section
variable {s : List Nat}
theorem is_of {i c : Nat} (hi : i < s.length) : is s i c = (at_ s i == c) := by
  unfold is
  rw [decide_eq_true hi, Bool.true_and]
theorem step_atom {σ : St} (hi : σ.at_ < s.length) (h1 : at_ s σ.at_ ≠ 124) (h2 : at_ s σ.at_ ≠ 41) (h3 : σ.is = [] ∨ repAt s σ.at_ = false) : step s σ = atom s σ := by
  unfold step
  simp only
  rw [if_neg h1, if_neg h2]
  rcases h3 with h3 | h3
  · rw [if_neg (fun e => e.1 h3), if_neg (fun e => e.1 h3), if_neg (fun e => e.1 h3), if_neg (fun e => e.1 h3)]
  · unfold repAt at h3
    simp only [Bool.or_eq_false_iff, is_of hi, beq_eq_false_iff_ne] at h3
    obtain ⟨⟨⟨a, b⟩, c⟩, d⟩ := h3
    rw [if_neg (fun e => a e.2), if_neg (fun e => b e.2), if_neg (fun e => c e.2)]
    rw [if_neg (fun e => by rw [e.2.1, e.2.2] at d; simp at d)]
theorem run_atom {σ : St} (hi : σ.at_ < s.length) (h1 : at_ s σ.at_ ≠ 124) (h2 : at_ s σ.at_ ≠ 41) (h3 : σ.is = [] ∨ repAt s σ.at_ = false) :
    run s σ = match atom s σ with | .error e => .error e | .ok σ' => run s σ' := by
  rw [run_step hi, step_atom hi h1 h2 h3]
theorem run_lone {i : Nat} {ns : List Nd} {st : List (List Nat × List Nat)} {as I : List Nat} (hi : i < s.length) (h1 : at_ s i ≠ 124) (h2 : at_ s i ≠ 41) (h3 : I = [] ∨ repAt s i = false) (h4 : at_ s i ≠ 40) :
    run s ⟨i, ns, st, as, I⟩ = match lone s i with | .error e => .error e | .ok (n, j) => run s ⟨j, ns ++ [n], st, as, I ++ [ns.length]⟩ := by
  rw [run_atom (σ := ⟨i, ns, st, as, I⟩) hi h1 h2 h3]
  unfold atom lone
  simp only
  rw [if_neg h4]
  by_cases c1 : at_ s i = 91
  · rw [if_pos c1, if_pos c1]
    cases class_ s i <;> rfl
  · rw [if_neg c1, if_neg c1]
    by_cases c2 : at_ s i = 46
    · rw [if_pos c2, if_pos c2]
      rfl
    · rw [if_neg c2, if_neg c2]
      by_cases c3 : at_ s i = 123 ∧ dig s (i + 1) = false
      · rw [if_pos c3, if_pos c3]
        cases name_ s i <;> rfl
      · rw [if_neg c3, if_neg c3]
        by_cases c4 : at_ s i = 47 ∨ at_ s i = 36
        · rw [if_pos c4, if_pos c4]
        · rw [if_neg c4, if_neg c4]
          by_cases c5 : at_ s i ≠ 92 ∧ specialB (at_ s i) = true
          · rw [if_pos c5, if_pos c5]
          · rw [if_neg c5, if_neg c5]
            cases one s i <;> rfl
theorem run_deep {i : Nat} {ns : List Nd} {st : List (List Nat × List Nat)} {as I : List Nat} (hi : i < s.length) (h3 : I = [] ∨ repAt s i = false) (h4 : at_ s i = 40) (h5 : 64 ≤ st.length) : run s ⟨i, ns, st, as, I⟩ = .error (46, i) := by
  rw [run_atom (σ := ⟨i, ns, st, as, I⟩) hi (by show at_ s i ≠ _; rw [h4]; decide) (by show at_ s i ≠ _; rw [h4]; decide) h3]
  unfold atom
  simp only
  rw [if_pos h4, if_pos h5]
theorem run_open {i : Nat} {ns : List Nd} {st : List (List Nat × List Nat)} {as I : List Nat} (hi : i < s.length) (h3 : I = [] ∨ repAt s i = false) (h4 : at_ s i = 40) (h5 : st.length < 64) : run s ⟨i, ns, st, as, I⟩ = run s ⟨i + 1, ns, (as, I) :: st, [], []⟩ := by
  rw [run_atom (σ := ⟨i, ns, st, as, I⟩) hi (by show at_ s i ≠ _; rw [h4]; decide) (by show at_ s i ≠ _; rw [h4]; decide) h3]
  unfold atom
  simp only
  rw [if_pos h4, if_neg (by omega)]
theorem run_shut {i : Nat} {ns : List Nd} {st : List (List Nat × List Nat)} {as I as' I' : List Nat} (hi : i < s.length) (h4 : at_ s i = 41) :
    run s ⟨i, ns, (as', I') :: st, as, I⟩ = run s ⟨i + 1, (close ns as I).1, st, as', I' ++ [(close ns as I).2]⟩ := by
  refine run_ok hi ?_
  unfold step
  simp only
  rw [if_neg (by rw [h4]; decide), if_pos h4]
theorem run_over {i : Nat} {ns : List Nd} {as I : List Nat} (hi : i < s.length) (h4 : at_ s i = 41) : run s ⟨i, ns, [], as, I⟩ = .error (41, i) := by
  refine run_bad hi ?_
  unfold step
  simp only
  rw [if_neg (by rw [h4]; decide), if_pos h4]
theorem run_bar {i : Nat} {ns : List Nd} {st : List (List Nat × List Nat)} {as I : List Nat} (hi : i < s.length) (h4 : at_ s i = 124) :
    run s ⟨i, ns, st, as, I⟩ = run s ⟨i + 1, (mkRow ns I).1, st, as ++ [(mkRow ns I).2], []⟩ := run_ok hi (step_bar h4)
theorem run_soon {i : Nat} {ns : List Nd} {x : List Nat × List Nat} {st : List (List Nat × List Nat)} {as I : List Nat} (hi : i = s.length) : run s ⟨i, ns, x :: st, as, I⟩ = .error (40, s.length) := by
  rw [run_end hi]; rfl
theorem run_done {i : Nat} {ns : List Nd} {as I : List Nat} (hi : i = s.length) : run s ⟨i, ns, [], as, I⟩ = .ok (close ns as I).1 := by
  rw [run_end hi]; rfl
theorem run_repet {i k : Nat} {ns : List Nd} {st : List (List Nat × List Nat)} {as I : List Nat} (hi : i < s.length) (h : repAt s i = true) :
    run s ⟨i, ns, st, as, I ++ [k]⟩ = match repet s i with | .error e => .error e | .ok (b, j) => run s ⟨j, ns ++ [ndRep k b.1 b.2], st, as, I ++ [ns.length]⟩ := by
  have hne : I ++ [k] ≠ [] := by simp
  have hr : ∀ lo hi j, rep ⟨i, ns, st, as, I ++ [k]⟩ lo hi j = ⟨j, ns ++ [ndRep k lo hi], st, as, I ++ [ns.length]⟩ := by
    intro lo hi j
    unfold rep
    simp only [List.dropLast_concat]
    rw [show (I ++ [k]).getLastD 0 = k from by simp]
  unfold repAt at h
  simp only [is_of hi, Bool.or_eq_true, Bool.and_eq_true, beq_iff_eq] at h
  rw [run_step hi]
  unfold step repet
  simp only
  rcases h with ((h | h) | h) | ⟨h, h'⟩
  · rw [if_neg (by rw [h]; decide), if_neg (by rw [h]; decide), if_pos ⟨hne, h⟩, if_pos h, hr]
  · rw [if_neg (by rw [h]; decide), if_neg (by rw [h]; decide), if_neg (by rw [h]; simp), if_pos ⟨hne, h⟩, if_neg (by rw [h]; decide), if_pos h, hr]
  · rw [if_neg (by rw [h]; decide), if_neg (by rw [h]; decide), if_neg (by rw [h]; simp), if_neg (by rw [h]; simp), if_pos ⟨hne, h⟩, if_neg (by rw [h]; decide), if_neg (by rw [h]; decide), if_pos h, hr]
  · rw [if_neg (by rw [h]; decide), if_neg (by rw [h]; decide), if_neg (by rw [h]; simp), if_neg (by rw [h]; simp), if_neg (by rw [h]; simp), if_pos ⟨hne, h, h'⟩, if_neg (by rw [h]; decide), if_neg (by rw [h]; decide), if_neg (by rw [h]; decide)]
    cases bounds s i with
    | error e => rfl
    | ok x => simp only [hr]

end

end Go.Proofs.Ytahhiajliomcfaa.Sy

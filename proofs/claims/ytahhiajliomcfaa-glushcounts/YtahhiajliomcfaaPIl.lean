/- The reference's planner: stars, rows, the rest of a repetition. -/
import Derived.Test.YtahhiajliomcfaaPIk
namespace Go.Proofs.Ytahhiajliomcfaa.Sy.Pl.Qr
open Go.RowKit Go.Proofs.Ytahhiajliomcfaa.Sy.Ap
set_option maxRecDepth 100000
set_option linter.unusedVariables false

def zR (op : Nat) (ks : List Int) (lo hi : Int) : Gd := ⟨op, noB, ks, lo, hi, { data := #[] }⟩
theorem zR_row (op : Nat) (ks : List Int) (lo hi : Int) (A : Option Addr) (c : Nat) : (gdL (zR op ks lo hi) A c).toArray = #[.int .u8 (op : Int), .int .u64 0, .int .u64 0, .int .u64 0, .int .u64 0, .slice A ks.length c, .int .i64 lo, .int .i64 hi, .string { data := #[] }] := by
  simp only [gdL, zR, W_zero]
section
variable {F : Nat → Prop} {B b : Nat} {At : Option Addr} {ct : Nat} {gs : List Gd} {most : Int} {w w' : World} {O : Option (List Nd)}
theorem RS.size (h : RS F B b At ct gs most w O) : B ≤ w.heap.size := by
  obtain ⟨nv, l, p, -⟩ := h
  exact p.size
theorem RR.after {O2 : Option (List Nd)} {e : Ending} {w2 : World} (hb : BF B F w w2) (h : RR F B b At ct gs most w2 O2 e w') : RR F B b At ct gs most w O2 e w' := ⟨hb.trans h.1, h.2⟩
/-- A node of its own is put, over these roots. -/
theorem rputZ (hS : RS F B b At ct gs most w O) (op : Nat) (ks : List Int) (lo hi : Int) (R : List Nd → List Nat) (hR : ∀ o, O = some o → ks = (R o).map fun k : Nat => (k : Int)) (A : Option Addr) (m c : Nat) (hm : ks.length = m) (hx : w.ownsRow B 3 1 (.slice A m c) m (ints ks)) (hF : ∀ q, F q → (Value.slice A m c).ownBlock ≠ some q) :
    Calls Try.prog 77 #[.pointer (some ⟨b, 0, none⟩), .agg #[.int .u8 (op : Int), .int .u64 0, .int .u64 0, .int .u64 0, .int .u64 0, .slice A m c, .int .i64 lo, .int .i64 hi, .string { data := #[] }]] w (RR F B b At ct gs most w (O.bind fun o => putF ⟨op, noS, R o, lo, hi, []⟩ o)) := by
  subst hm
  rw [← zR_row]
  cases O with
  | none => exact rputC hS (zR op ks lo hi) nd00 (fun o ho => by cases ho) A c hx hF
  | some o => exact rputC hS (zR op ks lo hi) ⟨op, noS, R o, lo, hi, []⟩ (fun o' ho => by cases ho; exact ⟨rfl, fun _ _ => rfl, hR o rfl, rfl, rfl, rfl⟩) A c hx hF
theorem rput0 (hS : RS F B b At ct gs most w O) (op : Nat) (lo hi : Int) :
    Calls Try.prog 77 #[.pointer (some ⟨b, 0, none⟩), .agg #[.int .u8 (op : Int), .int .u64 0, .int .u64 0, .int .u64 0, .int .u64 0, .slice none 0 0, .int .i64 lo, .int .i64 hi, .string { data := #[] }]] w (RR F B b At ct gs most w (O.bind fun o => putF ⟨op, noS, [], lo, hi, []⟩ o)) :=
  rputZ hS op [] lo hi (fun _ => []) (fun _ _ => rfl) none 0 0 rfl (World.ownsRow_nil _ _ _ _) (fun q hq e => by cases e)
theorem new_row (w : World) (ks : List Int) (hl : ks.length ≤ 100) {B : Nat} (hB : B ≤ w.heap.size) : (w.alloc (.cells (ints ks).toArray 3)).ownsRow B 3 1 (.slice (some ⟨w.heap.size, 0, none⟩) ks.length ks.length) ks.length (ints ks) := by
  have h := World.ownsRow_lit (base := B) (e := 3) (size := 1) w (ints ks).toArray ks.length hB (by simp only [maxLen]; omega) (by unfold ints; simp)
  exact h
theorem rputL (hS : RS F B b At ct gs most w O) (op : Nat) (ks : List Int) (hl : ks.length ≤ 100) (lo hi : Int) (R : List Nd → List Nat) (hR : ∀ o, O = some o → ks = (R o).map fun k : Nat => (k : Int)) (m : Nat) (hm : ks.length = m) :
    Calls Try.prog 77 #[.pointer (some ⟨b, 0, none⟩), .agg #[.int .u8 (op : Int), .int .u64 0, .int .u64 0, .int .u64 0, .int .u64 0, .slice (some ⟨w.heap.size, 0, none⟩) m m, .int .i64 lo, .int .i64 hi, .string { data := #[] }]] (w.alloc (.cells (ints ks).toArray 3)) (RR F B b At ct gs most w (O.bind fun o => putF ⟨op, noS, R o, lo, hi, []⟩ o)) := by
  subst hm
  have hb : Below w.heap.size w (w.alloc (.cells (ints ks).toArray 3)) := (Below.refl _ _).alloc (Nat.le_refl _) _
  refine (rputZ (hS.below hb) op ks lo hi R hR _ _ _ rfl (new_row w ks hl hS.size) (fun q hq e => ?_)).mono (fun e w2 h => h.after (hS.bf hb))
  have h1 := hS.far hq
  have h2 := Option.some.inj e
  change w.heap.size = q at h2
  omega
theorem rput1 (hS : RS F B b At ct gs most w O) (op : Nat) (z : Int) (lo hi : Int) (R : List Nd → Nat) (hR : ∀ o, O = some o → z = ((R o : Nat) : Int)) :
    Calls Try.prog 77 #[.pointer (some ⟨b, 0, none⟩), .agg #[.int .u8 (op : Int), .int .u64 0, .int .u64 0, .int .u64 0, .int .u64 0, .slice (some ⟨w.heap.size, 0, none⟩) 1 1, .int .i64 lo, .int .i64 hi, .string { data := #[] }]] (w.alloc (.cells #[.int .i64 z] 3)) (RR F B b At ct gs most w (O.bind fun o => putF ⟨op, noS, [R o], lo, hi, []⟩ o)) :=
  rputL hS op [z] (by simp) lo hi (fun o => [R o]) (fun o ho => by rw [hR o ho]; rfl) 1 rfl
theorem rput2 (hS : RS F B b At ct gs most w O) (op : Nat) (y z : Int) (lo hi : Int) (R1 R2 : List Nd → Nat) (h1 : ∀ o, O = some o → y = ((R1 o : Nat) : Int)) (h2 : ∀ o, O = some o → z = ((R2 o : Nat) : Int)) :
    Calls Try.prog 77 #[.pointer (some ⟨b, 0, none⟩), .agg #[.int .u8 (op : Int), .int .u64 0, .int .u64 0, .int .u64 0, .int .u64 0, .slice (some ⟨w.heap.size, 0, none⟩) 2 2, .int .i64 lo, .int .i64 hi, .string { data := #[] }]] (w.alloc (.cells #[.int .i64 y, .int .i64 z] 3)) (RR F B b At ct gs most w (O.bind fun o => putF ⟨op, noS, [R1 o, R2 o], lo, hi, []⟩ o)) :=
  rputL hS op [y, z] (by simp) lo hi (fun o => [R1 o, R2 o]) (fun o ho => by rw [h1 o ho, h2 o ho]; rfl) 2 rfl
/-- What plan owes for a node: its plan is P. -/
def PCr (B b : Nat) (At : Option Addr) (ct : Nat) (gs : List Gd) (most : Int) (P : PF) (k : Nat) : Prop :=
  ∀ (F : Nat → Prop) (w : World) (O : Option (List Nd)), RS F B b At ct gs most w O → Nds w B At gs → Calls Try.prog 68 #[.pointer (some ⟨b, 0, none⟩), .int .i64 (k : Int)] w (RR F B b At ct gs most w (O.bind P))
theorem rstarC {P : PF} {k : Nat} (hP : PCr B b At ct gs most P k) (hS : RS F B b At ct gs most w O) (hN : Nds w B At gs) :
    Calls Try.prog 86 #[.pointer (some ⟨b, 0, none⟩), .int .i64 (k : Int)] w (RR F B b At ct gs most w (O.bind (repeatF P 0 (-1)))) := by
  have hc := hP F w O hS hN
  obtain ⟨RES, hRES⟩ : ∃ RES, O.bind (repeatF P 0 (-1)) = RES := ⟨_, rfl⟩
  have HR : Hid (RES = (O.bind P).bind fun o => putF ⟨5, noS, [o.length - 1], 0, -1, []⟩ o) := by
    show RES = _
    rw [← hRES]
    cases O <;> rfl
  rw [hRES]
  clear hRES hP hS hN
  generalize O.bind P = O1 at *
  go_enter Try.func86, Try.ntmps86
  go_wp2_with fail
  refine hc.mono ?_
  rintro e w1 ⟨b1, z, rfl, hz, S1⟩
  have hc := rput1 S1 5 z 0 (-1) (fun o => o.length - 1) hz
  have HB := hidd b1
  clear S1 b1 hz
  generalize (O1.bind fun o => putF ⟨5, noS, [o.length - 1], 0, -1, []⟩ o) = O2 at *
  obtain rfl : RES = O2 := HR.out
  go_wp2_with fail
  refine hc.mono ?_
  rintro e w2 ⟨b2, z2, rfl, hz2, S2⟩
  have HF : Hid (RR F B b At ct gs most w RES (.returned (.int .i64 z2)) w2) := ⟨HB.out.trans b2, z2, rfl, hz2, S2⟩
  clear hc b2 hz2 S2
  go_wp2
  go_ret
  exact HF.out
/-- One itself, or a Cat of more. -/
theorem rcatC (hS : RS F B b At ct gs most w O) (ks : List Int) (R : List Nd → List Nat) (hR : ∀ o, O = some o → ks = ((R o).map fun k : Nat => (k : Int)) ∧ Lst (R o) o) (A : Option Addr) (m c : Nat) (hm : ks.length = m) (hx : w.ownsRow B 3 1 (.slice A m c) m (ints ks)) (hF : ∀ q, F q → (Value.slice A m c).ownBlock ≠ some q) :
    Calls Try.prog 88 #[.pointer (some ⟨b, 0, none⟩), .slice A m c] w (RR F B b At ct gs most w (O.bind fun o => catF (R o) o)) := by
  by_cases h1 : m = 1
  · subst h1
    obtain ⟨g, c', hv, _, hg⟩ := own_pos hx (by decide)
    injection hv with hA _ _
    subst hA
    obtain ⟨x, hkx⟩ : ∃ x, ks = [x] := List.length_eq_one_iff.1 hm
    subst hkx
    have hcell := hx.cells (g := g) rfl 0 (.int .i64 x) rfl
    have hcell : w.cell? ⟨g, 0, none⟩ = some (.int .i64 x) := hcell
    have HF : Hid (RR F B b At ct gs most w (O.bind fun o => catF (R o) o) (.returned (.int .i64 x)) w) := by
      have e : (O.bind fun o => catF (R o) o) = O := by
        cases O with
        | none => rfl
        | some o =>
          rw [Option.bind_some]
          unfold catF
          have := (hR o rfl).1
          rw [if_pos (by have h := congrArg List.length this; simpa using h.symm)]
      rw [e]
      refine ⟨BF.refl _ _ _, x, rfl, fun o ho => ?_, hS⟩
      obtain ⟨h1, h2⟩ := hR o ho
      have h3 := h2.one (by have h := congrArg List.length h1; simpa using h.symm)
      rw [h3] at h1
      simpa using h1
    clear hS hR hm hx hF
    generalize (O.bind fun o => catF (R o) o) = RES at *
    go_enter Try.func88, Try.ntmps88
    go_wp2
    go_ret
    exact HF.out
  · have hc := rputZ hS 3 ks 0 0 R (fun o ho => (hR o ho).1) A m c hm hx hF
    have HR : Hid ((O.bind fun o => catF (R o) o) = O.bind fun o => putF ⟨3, noS, R o, 0, 0, []⟩ o) := by
      show _ = _
      cases O with
      | none => rfl
      | some o =>
        rw [Option.bind_some, Option.bind_some]
        unfold catF
        have := (hR o rfl).1
        rw [if_neg (by have h := congrArg List.length this; rw [List.length_map] at h; omega)]
        rfl
    have hmb : ((m : Int) == 1) = false := beq_eq_false_iff_ne.2 (by omega)
    clear hS hR hx hF hm
    rw [← HR.out] at hc
    generalize (O.bind fun o => catF (R o) o) = RES at *
    clear HR
    go_enter Try.func88, Try.ntmps88
    go_wp2_with fail
    refine hc.mono ?_
    rintro e w2 ⟨b2, z2, rfl, hz2, S2⟩
    have HF : Hid (RR F B b At ct gs most w RES (.returned (.int .i64 z2)) w2) := ⟨b2, z2, rfl, hz2, S2⟩
    clear hc b2 hz2 S2
    go_wp2
    go_ret
    exact HF.out
theorem rrestC {P : PF} {k : Nat} (hP : PCr B b At ct gs most P k) : ∀ (t : Nat) (w : World) (O : Option (List Nd)), t ≤ 100000 → RS F B b At ct gs most w O → Nds w B At gs →
    Calls Try.prog 87 #[.pointer (some ⟨b, 0, none⟩), .int .i64 (k : Int), .int .i64 ((t : Int) + 1)] w (RR F B b At ct gs most w (O.bind (restF P t))) := by
  intro t
  induction t with
  | zero =>
    intro w O ht hS hN
    have hc := rput0 hS 1 0 0
    have HN := hidd hN
    have HP := hidd hP
    obtain ⟨RES, hRES⟩ : ∃ RES, O.bind (restF P 0) = RES := ⟨_, rfl⟩
    have HR : Hid (RES = (O.bind fun o => putF ⟨1, noS, [], 0, 0, []⟩ o).bind fun o1 => (P o1).bind fun o2 => putF ⟨4, noS, [o1.length - 1, o2.length - 1], 0, 0, []⟩ o2) := by
      show RES = _
      rw [← hRES]
      cases O <;> rfl
    rw [hRES]
    clear hRES hS hN hP
    generalize (O.bind fun o => putF ⟨1, noS, [], 0, 0, []⟩ o) = O1 at *
    go_enter Try.func87, Try.ntmps87
    go_wp2_with fail
    refine hc.mono ?_
    rintro e w1 ⟨b1, z1, rfl, hz1, S1⟩
    clear hc
    have d3 := S1.lens.2.2.2.2
    cases O1 with
    | none =>
      have hno : RES = none := HR.out
      subst hno
      have HF : Hid (RR F B b At ct gs most w none (.returned (.int .i64 0)) w1) := ⟨b1, 0, rfl, (fun o ho => by cases ho), S1⟩
      have d3 : w1.cell? ⟨b, 3, none⟩ = some (.bool true) := d3
      clear S1 b1 hz1
      go_wp2
      go_ret
      exact HF.out
    | some o1 =>
      have d3 : w1.cell? ⟨b, 3, none⟩ = some (.bool false) := d3
      have hc := HP.out F w1 (some o1) S1 (HN.out.below b1.bel)
      have HR : Hid (RES = (P o1).bind fun o2 => putF ⟨4, noS, [o1.length - 1, o2.length - 1], 0, 0, []⟩ o2) := HR.out
      rw [Option.bind_some] at hc
      have HZ1 := hidd hz1
      clear S1 hz1
      generalize P o1 = O2 at *
      go_wp2_with fail
      refine hc.mono ?_
      rintro e w2 ⟨b2, z2, rfl, hz2, S2⟩
      have hz1 := HZ1.out
      clear hc d3
      have HBB := hidd (b1.trans b2)
      have hc := rput2 S2 4 z1 z2 0 0 (fun _ => o1.length - 1) (fun o => o.length - 1) (fun _ _ => hz1 o1 rfl) hz2
      clear hz1 hz2 S2 b1 b2
      generalize (O2.bind fun o => putF ⟨4, noS, [o1.length - 1, o.length - 1], 0, 0, []⟩ o) = RES2 at *
      obtain rfl : RES = RES2 := HR.out
      clear HR
      go_wp2_with fail
      refine hc.mono ?_
      rintro e w9 ⟨b9, z9, rfl, hz9, S9⟩
      have HF : Hid (RR F B b At ct gs most w RES (.returned (.int .i64 z9)) w9) := ⟨HBB.out.trans b9, z9, rfl, hz9, S9⟩
      clear hc b9 hz9 S9
      go_wp2
      go_ret
      exact HF.out
  | succ t ih =>
    intro w O ht hS hN
    have hc := rput0 hS 1 0 0
    have HN := hidd hN
    have HP := hidd hP
    have HI := hidd ih
    obtain ⟨RES, hRES⟩ : ∃ RES, O.bind (restF P (t + 1)) = RES := ⟨_, rfl⟩
    have HR : Hid (RES = (O.bind fun o => putF ⟨1, noS, [], 0, 0, []⟩ o).bind fun o1 => (P o1).bind fun o2 => (restF P t o2).bind fun o3 => (putF ⟨3, noS, [o2.length - 1, o3.length - 1], 0, 0, []⟩ o3).bind fun o4 => putF ⟨4, noS, [o1.length - 1, o4.length - 1], 0, 0, []⟩ o4) := by
      show RES = _
      rw [← hRES]
      cases O <;> rfl
    rw [hRES]
    clear hRES hS hN hP ih
    generalize (O.bind fun o => putF ⟨1, noS, [], 0, 0, []⟩ o) = O1 at *
    go_enter Try.func87, Try.ntmps87
    go_wp2_with fail
    refine hc.mono ?_
    rintro e w1 ⟨b1, z1, rfl, hz1, S1⟩
    clear hc
    have d3 := S1.lens.2.2.2.2
    cases O1 with
    | none =>
      have hno : RES = none := HR.out
      subst hno
      have HF : Hid (RR F B b At ct gs most w none (.returned (.int .i64 0)) w1) := ⟨b1, 0, rfl, (fun o ho => by cases ho), S1⟩
      have d3 : w1.cell? ⟨b, 3, none⟩ = some (.bool true) := d3
      clear S1 b1 hz1
      go_wp2
      go_ret
      exact HF.out
    | some o1 =>
      have d3 : w1.cell? ⟨b, 3, none⟩ = some (.bool false) := d3
      have hc := HP.out F w1 (some o1) S1 (HN.out.below b1.bel)
      have HR : Hid (RES = (P o1).bind fun o2 => (restF P t o2).bind fun o3 => (putF ⟨3, noS, [o2.length - 1, o3.length - 1], 0, 0, []⟩ o3).bind fun o4 => putF ⟨4, noS, [o1.length - 1, o4.length - 1], 0, 0, []⟩ o4) := HR.out
      rw [Option.bind_some] at hc
      have HZ1 := hidd hz1
      have hadd : ((t + 1 : Nat) : Int) + 1 - 1 = (t : Int) + 1 := by omega
      have hgt : (1 : Int) < ((t + 1 : Nat) : Int) + 1 := by omega
      clear S1 hz1
      generalize P o1 = O2 at *
      go_wp2_with fail
      refine hc.mono ?_
      rintro e w2 ⟨b2, z2, rfl, hz2, S2⟩
      clear hc d3
      have d3 := S2.lens.2.2.2.2
      have HBB := hidd (b1.trans b2)
      cases O2 with
      | none =>
        have hno : RES = none := HR.out
        subst hno
        have d3 : w2.cell? ⟨b, 3, none⟩ = some (.bool true) := d3
        have hc := rput2 S2 4 z1 z2 0 0 (fun _ => 0) (fun _ => 0) (fun _ h => by cases h) (fun _ h => by cases h)
        rw [Option.bind_none] at hc
        clear hz2 S2 b1 b2 HR
        go_wp2_with fail
        refine hc.mono ?_
        rintro e w9 ⟨b9, z9, rfl, hz9, S9⟩
        have HF : Hid (RR F B b At ct gs most w none (.returned (.int .i64 z9)) w9) := ⟨HBB.out.trans b9, z9, rfl, hz9, S9⟩
        clear hc b9 hz9 S9
        go_wp2
        go_ret
        exact HF.out
      | some o2 =>
        have d3 : w2.cell? ⟨b, 3, none⟩ = some (.bool false) := d3
        have hc := HI.out w2 (some o2) (by omega) S2 (HN.out.below (b1.trans b2).bel)
        have HR : Hid (RES = (restF P t o2).bind fun o3 => (putF ⟨3, noS, [o2.length - 1, o3.length - 1], 0, 0, []⟩ o3).bind fun o4 => putF ⟨4, noS, [o1.length - 1, o4.length - 1], 0, 0, []⟩ o4) := HR.out
        rw [Option.bind_some] at hc
        have HZ2 := hidd hz2
        clear S2 hz2 b1 b2
        generalize restF P t o2 = O3 at *
        go_wp2_with fail
        refine hc.mono ?_
        rintro e w3 ⟨b3, z3, rfl, hz3, S3⟩
        clear hc d3
        have hc := rput2 S3 3 z2 z3 0 0 (fun _ => o2.length - 1) (fun o => o.length - 1) (fun _ _ => HZ2.out o2 rfl) hz3
        have HBC := hidd (HBB.out.trans b3)
        have HR : Hid (RES = (O3.bind fun o3 => putF ⟨3, noS, [o2.length - 1, o3.length - 1], 0, 0, []⟩ o3).bind fun o4 => putF ⟨4, noS, [o1.length - 1, o4.length - 1], 0, 0, []⟩ o4) := by
          show RES = _
          rw [HR.out]
          cases O3 <;> rfl
        clear hz3 S3 b3 HBB HZ2
        generalize (O3.bind fun o3 => putF ⟨3, noS, [o2.length - 1, o3.length - 1], 0, 0, []⟩ o3) = O4 at *
        go_wp2_with fail
        refine hc.mono ?_
        rintro e w4 ⟨b4, z4, rfl, hz4, S4⟩
        clear hc
        have hc := rput2 S4 4 z1 z4 0 0 (fun _ => o1.length - 1) (fun o => o.length - 1) (fun _ _ => HZ1.out o1 rfl) hz4
        have HBD := hidd (HBC.out.trans b4)
        clear hz4 S4 b4 HBC HZ1
        generalize (O4.bind fun o => putF ⟨4, noS, [o1.length - 1, o.length - 1], 0, 0, []⟩ o) = RES2 at *
        obtain rfl : RES = RES2 := HR.out
        clear HR
        go_wp2_with fail
        refine hc.mono ?_
        rintro e w9 ⟨b9, z9, rfl, hz9, S9⟩
        have HF : Hid (RR F B b At ct gs most w RES (.returned (.int .i64 z9)) w9) := ⟨HBD.out.trans b9, z9, rfl, hz9, S9⟩
        clear hc b9 hz9 S9
        go_wp2
        go_ret
        exact HF.out
end
end Go.Proofs.Ytahhiajliomcfaa.Sy.Pl.Qr

/- The reference's reader, of patterns that are right: parentheses, an atom. -/
import Derived.Test.YtahhiajliomcfaaPHc
import Derived.Test.YtahhiajliomcfaaPHi
import Derived.Test.YtahhiajliomcfaaPHj
import Derived.Test.YtahhiajliomcfaaPM4
import Derived.Test.YtahhiajliomcfaaPM1
namespace Go.Proofs.Ytahhiajliomcfaa.Sy.Rf
open Go.RowKit
set_option maxRecDepth 100000
set_option linter.unusedVariables false

/-- From here on nothing is wrong. -/
def Okr (s : ByteArray) (σ : St) : Prop := ∃ ns, run (bs s) σ = .ok ns
/-- Letters, digits and signs, classes of one range, one name of one letter ahead of all, no escape; bounds of one digit each. -/
structure Smp (s : ByteArray) : Prop where
  ch : ∀ i, i < s.size → specialB (at_ (bs s) i) = false ∨ at_ (bs s) i = 40 ∨ at_ (bs s) i = 41 ∨ at_ (bs s) i = 124 ∨ at_ (bs s) i = 42 ∨ at_ (bs s) i = 43 ∨ at_ (bs s) i = 63 ∨ at_ (bs s) i = 123 ∨ at_ (bs s) i = 125 ∨ at_ (bs s) i = 91 ∨ at_ (bs s) i = 93
  br : ∀ i, i < s.size → at_ (bs s) i = 123 → dig (bs s) (i + 1) = true ∨ (i = 0 ∧ NamAt s i)
  cl : ∀ i, i < s.size → at_ (bs s) i = 91 → ClsAt s i ∨ Cl2At s i
  dd : ∀ i, dig (bs s) i = true → dig (bs s) (i + 1) = false
  sz : s.size ≤ 1024
section
variable {w w' w1 : World} {b : Nat} {s : ByteArray} {v v1 : Value} {l l1 : List NR} {i : Nat} {ns : List Nd} {st : List (List Nat × List Nat)} {aa I : List Nat}
theorem Okr.to {σ σ' : St} (h : Okr s σ) (e : run (bs s) σ = run (bs s) σ') : Okr s σ' := by
  obtain ⟨ns, h⟩ := h
  exact ⟨ns, e ▸ h⟩
theorem Okr.no {σ : St} {x : Bad} {P : Prop} (h : Okr s σ) (e : run (bs s) σ = .error x) : P := by
  obtain ⟨ns, h⟩ := h
  rw [e] at h
  cases h
/-- An atom, or an item, was read. -/
def ItemR (w : World) (b : Nat) (s : ByteArray) (v : Value) (l : List NR) (i : Nat) (ns : List Nd) (st : List (List Nat × List Nat)) (aa I : List Nat) (e : Ending) (w' : World) : Prop :=
  ∃ (k j : Nat) (ns' : List Nd) (v' : Value) (l' : List NR), e = .returned (.int .i64 (k : Int)) ∧ run (bs s) ⟨i, ns, st, aa, I⟩ = run (bs s) ⟨j, ns', st, aa, I ++ [k]⟩ ∧ i < j ∧ j ≤ s.size ∧
    QS w' b s (j : Int) (st.length : Int) v' l' ∧ GN (l'.map (·.1)) ns' ∧ Goes b v l v' l' w w' ∧ l'.length + 2 * i ≤ l.length + 2 * j
/-- An alternative was read. -/
def AltR (w : World) (b : Nat) (s : ByteArray) (v : Value) (l : List NR) (i : Nat) (ns : List Nd) (st : List (List Nat × List Nat)) (e : Ending) (w' : World) : Prop :=
  ∃ (k j : Nat) (ns1 : List Nd) (a1 I1 : List Nat) (ns' : List Nd) (v' : Value) (l' : List NR), e = .returned (.int .i64 (k : Int)) ∧ run (bs s) ⟨i, ns, st, [], []⟩ = run (bs s) ⟨j, ns1, st, a1, I1⟩ ∧ close ns1 a1 I1 = (ns', k) ∧ i ≤ j ∧ j ≤ s.size ∧ (j < s.size → at_ (bs s) j = 41) ∧
    QS w' b s (j : Int) (st.length : Int) v' l' ∧ GN (l'.map (·.1)) ns' ∧ Goes b v l v' l' w w' ∧ l'.length + 2 * i ≤ l.length + 2 * j + 1
/-- A row was read. -/
def RowR (w : World) (b : Nat) (s : ByteArray) (v : Value) (l : List NR) (i : Nat) (ns : List Nd) (st : List (List Nat × List Nat)) (aa : List Nat) (e : Ending) (w' : World) : Prop :=
  ∃ (k j : Nat) (ns1 : List Nd) (I1 : List Nat) (ns' : List Nd) (v' : Value) (l' : List NR), e = .returned (.int .i64 (k : Int)) ∧ run (bs s) ⟨i, ns, st, aa, []⟩ = run (bs s) ⟨j, ns1, st, aa, I1⟩ ∧ mkRow ns1 I1 = (ns', k) ∧ i ≤ j ∧ j ≤ s.size ∧ (j < s.size → at_ (bs s) j = 124 ∨ at_ (bs s) j = 41) ∧
    QS w' b s (j : Int) (st.length : Int) v' l' ∧ GN (l'.map (·.1)) ns' ∧ Goes b v l v' l' w w' ∧ l'.length + 2 * i ≤ l.length + 2 * j + 1
/-- What an alternative owes, n bytes ahead of the end. -/
def AltC (n : Nat) : Prop := ∀ (w : World) (b : Nat) (s : ByteArray) (v : Value) (l : List NR) (i : Nat) (ns : List Nd) (st : List (List Nat × List Nat)),
  Smp s → Okr s ⟨i, ns, st, [], []⟩ → s.size - i < n → QS w b s (i : Int) (st.length : Int) v l → GN (l.map (·.1)) ns → i ≤ s.size → st.length ≤ 64 → l.length ≤ 2 * i →
  Calls Try.prog 65 #[.pointer (some ⟨b, 0, none⟩)] w fun e w' => AltR w b s v l i ns st e w'
set_option maxHeartbeats 2000000 in
theorem group_any_ {n : Nat} (hA : AltC n) (hS : Smp s) (hO : Okr s ⟨i, ns, st, aa, I⟩) (hn : s.size - i < n + 1) (p : QS w b s (i : Int) (st.length : Int) v l) (hg : GN (l.map (·.1)) ns) (hi : i < s.size) (hst : st.length ≤ 64) (hl : l.length ≤ 2 * i) (h40 : at_ (bs s) i = 40) (h3 : I = [] ∨ repAt (bs s) i = false) :
    Calls Try.prog 94 #[.pointer (some ⟨b, 0, none⟩)] w fun e w' => ItemR w b s v l i ns st aa I e w' := by
  have hbl := bs_len s
  have hs := hS.sz
  obtain ⟨c0, c1, c2, c3, c4, c5⟩ := p.pr.cells
  have ht := p.pr.thawed
  have h64 : st.length < 64 := by
    rcases Nat.lt_or_ge st.length 64 with q | q
    · exact q
    · exact hO.no (run_deep (by rw [hbl]; exact hi) h3 h40 q)
  have hop : run (bs s) ⟨i, ns, st, aa, I⟩ = run (bs s) ⟨i + 1, ns, (aa, I) :: st, [], []⟩ := run_open (by rw [hbl]; exact hi) h3 h40 h64
  have hO1 := hO.to hop
  have HO := hidd hop
  have HO1 := hidd hO1
  have h64i : decide (64 ≤ st.length) = false := decide_eq_false (by omega)
  have R1 := (p.pr.atTo ((i : Int) + 1)).deep ((st.length : Int) + 1)
  have T1 := ((Touch.refl b b w).set1 1 (.int .i64 ((i : Int) + 1))).set1 3 (.int .i64 ((st.length : Int) + 1))
  clear hop hO hO1 h3 h40
  go_enter Try.func94, Try.ntmps94
  go_wp2_with fail
  generalize (w.setCell ⟨b, 1, none⟩ (.int .i64 ((i : Int) + 1))).setCell ⟨b, 3, none⟩ (.int .i64 ((st.length : Int) + 1)) = w1 at *
  rw [show (i : Int) + 1 = ((i + 1 : Nat) : Int) from by omega, show (st.length : Int) + 1 = ((((aa, I) :: st).length : Nat) : Int) from by simp] at R1
  have p1 := p.read T1 R1
  have f1 := Fr.of T1 v
  clear c0 c1 c2 c3 c4 c5 ht R1 T1 h64i
  refine (hA w1 b s v l (i + 1) ns ((aa, I) :: st) hS HO1.out (by omega) p1 hg hi (by simp; omega) (by omega)).mono ?_
  rintro e w2 ⟨k, j, ns1, a1, I1, ns', v', l', rfl, hrun, hcl, hij, hj, hend, p2, g2, go2, hlen⟩
  have HRUN := hidd hrun
  have HCL := hidd hcl
  have HG := hidd g2
  have hgo : Goes b v l v' l' w w2 := ⟨f1.trans go2.fr, by
    obtain ⟨m, h5, h6⟩ := go2.new
    exact ⟨m, h5, fun x hx a ha hne => Nat.le_trans f1.size (h6 x hx a ha hne)⟩⟩
  have hlt : j < s.size := by
    rcases Nat.lt_or_ge j s.size with q | q
    · exact q
    · exact (HO1.out.to hrun).no (run_soon (by rw [hbl]; omega))
  have h41 := hend hlt
  have HS : Hid (run (bs s) ⟨j, ns1, (aa, I) :: st, a1, I1⟩ = run (bs s) ⟨j + 1, (close ns1 a1 I1).1, st, aa, I ++ [(close ns1 a1 I1).2]⟩) := run_shut (by rw [hbl]; exact hlt) h41
  clear hrun hcl g2 go2 f1 hA hn hg p1 hend h41 hbl
  obtain ⟨c0, c1, c2, c3, c4, c5⟩ := p2.pr.cells
  rw [show ((((aa, I) :: st).length : Nat) : Int) = (st.length : Int) + 1 from by simp] at c3
  have ht := p2.pr.thawed
  have R3 := p2.pr.deep (st.length : Int)
  have T3 := (Touch.refl b b w2).set1 3 (.int .i64 (st.length : Int))
  have p3 := p2.read T3 R3
  have hgo3 := hgo.read T3
  clear p2 hgo R3 T3
  go_wp2_with fail
  generalize w2.setCell ⟨b, 3, none⟩ (.int .i64 (st.length : Int)) = w3 at *
  clear c0 c1 c2 c3 c4 c5 ht
  refine (ends_no p3.pr hlt).mono ?_
  rintro e w4 ⟨rfl, m4, rfl⟩
  have T4 := (Touch.refl b b w3).drewN m4
  have p4 := p3.read T4 (p3.pr.drewN m4)
  have hgo4 := hgo3.read T4
  clear p3 hgo3 T4
  generalize w3.drewN m4 = w4 at *
  obtain ⟨c0, c1, c2, c3, c4, c5⟩ := p4.pr.cells
  have ht := p4.pr.thawed
  have R5 := p4.pr.atTo ((j : Int) + 1)
  have T5 := (Touch.refl b b w4).set1 1 (.int .i64 ((j : Int) + 1))
  have HR5 : Hid (QR (w4.setCell ⟨b, 1, none⟩ (.int .i64 ((j : Int) + 1))) b s ((j + 1 : Nat) : Int) v' (st.length : Int)) := by
    show QR _ _ _ _ _ _
    rw [show ((j + 1 : Nat) : Int) = (j : Int) + 1 from by omega]
    exact R5
  have HP5 := hidd (p4.read T5 HR5.out)
  have HG5 := hidd (hgo4.read T5)
  clear R5 T5 p4 hgo4
  go_wp2
  go_ret
  refine ⟨k, j + 1, ns', v', l', rfl, ?_, by omega, by omega, HP5.out, HG.out, HG5.out, by omega⟩
  rw [HO.out, HRUN.out, HS.out, HCL.out]
theorem ofby (c : Nat) (hc : c ≤ 255) (u : World) : Calls Try.prog 19 #[.slice (some ⟨u.heap.size, 0, none⟩) 1 1] (u.alloc (.cells #[.int .u8 (c : Int)] 5)) fun e w' => e = .returned (.agg #[.int .u64 (W (oneS c) 0), .int .u64 (W (oneS c) 1), .int .u64 (W (oneS c) 2), .int .u64 (W (oneS c) 3)]) ∧ Below (u.alloc (.cells #[.int .u8 (c : Int)] 5)).heap.size (u.alloc (.cells #[.int .u8 (c : Int)] 5)) w' := by
  have h := rof_any (some ⟨u.heap.size, 0, none⟩) 1 [(c : Int)] _ (bts_one u (c : Int) (by omega) (by omega)) (by simp)
  have e : ∀ k, W (inB [(c : Int)]) k = W (oneS c) k := fun k => by rw [one_words]; simp
  rw [e, e, e, e] at h
  exact h
theorem lone_plain {t : List Nat} (hi : i < t.length) (hp : specialB (at_ t i) = false) : lone t i = .ok (ndBytes (oneS (at_ t i)), i + 1) := by
  have h91 : at_ t i ≠ 91 := fun e => by rw [e] at hp; cases hp
  have h46 : at_ t i ≠ 46 := fun e => by rw [e] at hp; cases hp
  have h123 : at_ t i ≠ 123 := fun e => by rw [e] at hp; cases hp
  have h47 : at_ t i ≠ 47 := fun e => by rw [e] at hp; cases hp
  have h36 : at_ t i ≠ 36 := fun e => by rw [e] at hp; cases hp
  have h92 : at_ t i ≠ 92 := fun e => by rw [e] at hp; cases hp
  unfold lone
  rw [if_neg h91, if_neg h46, if_neg (fun e => h123 e.1), if_neg (fun e => e.elim h47 h36), if_neg (fun e => by rw [hp] at e; cases e.2)]
  unfold one
  rw [if_pos h92]
theorem nam_nodigB (hN : NamAt s i) : digitB (at_ (bs s) (i + 1)) = false := by
  have h := hN.let_
  unfold letterB at h
  unfold digitB
  simp at h ⊢
  omega
theorem nam_nodig (hN : NamAt s i) : dig (bs s) (i + 1) = false := by
  unfold dig
  rw [nam_nodigB hN]
  simp
theorem nam_one (hN : NamAt s i) : nameR (bs s) i = .ok (ndRef (bs (s.extract (i + 1) (i + 2))), i + 3) := by
  have hlt := hN.lt
  have hbl := bs_len s
  have h1 : at_ (bs s) (i + 1) ≠ 125 := fun e => by have := hN.let_; rw [e] at this; cases this
  have he : braceEnd (bs s) (bs s).length (i + 1) = i + 2 := by
    obtain ⟨m, hm⟩ : ∃ m, (bs s).length = m + 2 := ⟨(bs s).length - 2, by omega⟩
    have e1 : braceEnd (bs s) (m + 2) (i + 1) = braceEnd (bs s) (m + 1) (i + 2) := by
      rw [braceEnd, if_pos (by omega), if_neg h1]
    rw [hm, e1, braceEnd, if_pos (by omega), if_pos hN.shut]
  have hnb : nameB (cut (bs s) (i + 1) (i + 2)) = true := by
    have : cut (bs s) (i + 1) (i + 2) = [at_ (bs s) (i + 1)] := by
      unfold cut at_
      rw [show i + 2 - (i + 1) = 1 from by omega]
      have hb : i + 1 < (bs s).length := by rw [bs_len]; omega
      rw [List.drop_eq_getElem_cons hb, List.take_succ_cons, List.take_zero, List.getD_eq_getElem?_getD, List.getElem?_eq_getElem hb]
      rfl
    rw [this]
    unfold nameB nameAt nameAt
    rw [hN.let_]
    rfl
  unfold nameR name_
  simp only [he]
  rw [if_neg (by omega), if_pos hnb, ex_bs]
theorem one_pl {t : List Nat} {j : Nat} (h : specialB (at_ t j) = false) : one t j = .ok (at_ t j, j + 1) := by
  have h92 : at_ t j ≠ 92 := fun e => by rw [e] at h; cases h
  unfold one
  rw [if_pos h92]
theorem member_pl {t : List Nat} {j : Nat} (hj : j < t.length) (h : specialB (at_ t j) = false) (h45 : at_ t j ≠ 45) : member t j = .ok (at_ t j, j + 1) := by
  have h93 : at_ t j ≠ 93 := fun e => by rw [e] at h; cases h
  have h94 : at_ t j ≠ 94 := fun e => by rw [e] at h; cases h
  unfold member
  rw [if_neg (by omega), if_neg (by omega), one_pl h]
theorem cls_one (hC : ClsAt s i) : classR (bs s) i = .ok (ndBytes (negS false (uniS noS (rngS (at_ (bs s) (i + 1)) (at_ (bs s) (i + 3))))), i + 5) := by
  have hlt := hC.lt
  have hbl := bs_len s
  have h94 : is (bs s) (i + 1) 94 = false := by
    unfold is
    have : at_ (bs s) (i + 1) ≠ 94 := fun e => by have := hC.a; rw [e] at this; cases this
    simp [this]
  have h45 : is (bs s) (i + 2) 45 = true := by unfold is; rw [hC.dash]; simp; omega
  have h93 : is (bs s) (i + 4) 93 = true := by unfold is; rw [hC.shut]; simp; omega
  have hp : part (bs s) (i + 1) = .ok ((at_ (bs s) (i + 1), at_ (bs s) (i + 3)), i + 4) := by
    have hle := hC.le
    unfold part
    rw [member_pl (by omega) hC.a hC.a45]
    show (if is (bs s) (i + 2) 45 = true then _ else _) = _
    rw [if_pos h45]
    show (match member (bs s) (i + 3) with | .error e => Except.error e | .ok (hi, k) => if hi < at_ (bs s) (i + 1) then .error (44, i + 2 + 1) else .ok ((at_ (bs s) (i + 1), hi), k)) = _
    rw [member_pl (by omega) hC.b hC.b45]
    show (if at_ (bs s) (i + 3) < at_ (bs s) (i + 1) then _ else _) = _
    rw [if_neg (by omega)]
  have hps : parts (bs s) ((bs s).length + 1) false noS (i + 1) = .ok (uniS noS (rngS (at_ (bs s) (i + 1)) (at_ (bs s) (i + 3))), i + 4) := by
    obtain ⟨m, hm⟩ : ∃ m, (bs s).length = m + 1 := ⟨(bs s).length - 1, by omega⟩
    rw [hm, parts, Bool.false_and, if_neg Bool.false_ne_true, hp]
    show parts (bs s) (m + 1) true _ (i + 4) = _
    rw [parts, h93]
    rfl
  have hne : emptyS (negS false (uniS noS (rngS (at_ (bs s) (i + 1)) (at_ (bs s) (i + 3))))) = false := by
    have hb := at_lt (bs_lt s) (i + 1)
    have hle := hC.le
    refine emptyS_of (x := at_ (bs s) (i + 1)) hb ?_
    simp [negS, uniS, noS, rngS]
    exact hle
  unfold classR class_
  simp only [h94]
  rw [if_neg Bool.false_ne_true, hps]
  simp only
  rw [if_neg (by rw [hne]; exact Bool.false_ne_true)]
theorem cls_two (hC : Cl2At s i) : classR (bs s) i = .ok (ndBytes (negS false (uniS (uniS noS (rngS (at_ (bs s) (i + 1)) (at_ (bs s) (i + 1)))) (rngS (at_ (bs s) (i + 2)) (at_ (bs s) (i + 2))))), i + 4) := by
  have hlt := hC.lt
  have hbl := bs_len s
  have h94 : is (bs s) (i + 1) 94 = false := by
    unfold is
    have : at_ (bs s) (i + 1) ≠ 94 := fun e => by have := hC.a; rw [e] at this; cases this
    simp [this]
  have h45 : is (bs s) (i + 2) 45 = false := by
    unfold is
    simp [hC.b45]
  have h93 : is (bs s) (i + 2) 93 = false := by
    unfold is
    have : at_ (bs s) (i + 2) ≠ 93 := fun e => by have := hC.b; rw [e] at this; cases this
    simp [this]
  have g45 : is (bs s) (i + 3) 45 = false := by unfold is; rw [hC.shut]; simp
  have g93 : is (bs s) (i + 3) 93 = true := by unfold is; rw [hC.shut]; simp; omega
  have hp : part (bs s) (i + 1) = .ok ((at_ (bs s) (i + 1), at_ (bs s) (i + 1)), i + 2) := by
    unfold part
    rw [member_pl (by omega) hC.a hC.a45]
    show (if is (bs s) (i + 2) 45 = true then _ else _) = _
    rw [h45, if_neg Bool.false_ne_true]
  have hp2 : part (bs s) (i + 2) = .ok ((at_ (bs s) (i + 2), at_ (bs s) (i + 2)), i + 3) := by
    unfold part
    rw [member_pl (by omega) hC.b hC.b45]
    show (if is (bs s) (i + 3) 45 = true then _ else _) = _
    rw [g45, if_neg Bool.false_ne_true]
  have hps : parts (bs s) ((bs s).length + 1) false noS (i + 1) = .ok (uniS (uniS noS (rngS (at_ (bs s) (i + 1)) (at_ (bs s) (i + 1)))) (rngS (at_ (bs s) (i + 2)) (at_ (bs s) (i + 2))), i + 3) := by
    obtain ⟨m, hm⟩ : ∃ m, (bs s).length = m + 2 := ⟨(bs s).length - 2, by omega⟩
    rw [hm, parts, Bool.false_and, if_neg Bool.false_ne_true, hp]
    show parts (bs s) (m + 2) true _ (i + 2) = _
    rw [parts, h93, Bool.true_and, if_neg Bool.false_ne_true, hp2]
    show parts (bs s) (m + 1) true _ (i + 3) = _
    rw [parts, g93]
    rfl
  have hne : emptyS (negS false (uniS (uniS noS (rngS (at_ (bs s) (i + 1)) (at_ (bs s) (i + 1)))) (rngS (at_ (bs s) (i + 2)) (at_ (bs s) (i + 2))))) = false := by
    have hb := at_lt (bs_lt s) (i + 1)
    refine emptyS_of (x := at_ (bs s) (i + 1)) hb ?_
    simp [negS, uniS, noS, rngS]
  unfold classR class_
  simp only [h94]
  rw [if_neg Bool.false_ne_true, hps]
  simp only
  rw [if_neg (by rw [hne]; exact Bool.false_ne_true)]
theorem gn_two (a b : Nat) : GN1 (setG (anyB [rngB (a : Int) ((a : Int) + 1), rngB (b : Int) ((b : Int) + 1)])) (ndBytes (negS false (uniS (uniS noS (rngS a a)) (rngS b b)))) := by
  refine ⟨rfl, fun x _ => ?_, rfl, rfl, rfl, rfl⟩
  show anyB [rngB (a : Int) ((a : Int) + 1), rngB (b : Int) ((b : Int) + 1)] x = negS false (uniS (uniS noS (rngS a a)) (rngS b b)) x
  rw [Bool.eq_iff_iff]
  simp [anyB, rngB, negS, uniS, noS, rngS]
  omega
theorem gn_rng (lo hi : Nat) : GN1 (setG (anyB [rngB (lo : Int) ((hi : Int) + 1)])) (ndBytes (negS false (uniS noS (rngS lo hi)))) := by
  refine ⟨rfl, fun x _ => ?_, rfl, rfl, rfl, rfl⟩
  show anyB [rngB (lo : Int) ((hi : Int) + 1)] x = negS false (uniS noS (rngS lo hi)) x
  rw [Bool.eq_iff_iff]
  simp [anyB, rngB, negS, uniS, noS, rngS]
  omega
set_option maxHeartbeats 2000000 in
theorem atom_any {n : Nat} (hA : AltC n) (hS : Smp s) (hO : Okr s ⟨i, ns, st, aa, I⟩) (hn : s.size - i < n + 1) (p : QS w b s (i : Int) (st.length : Int) v l) (hg : GN (l.map (·.1)) ns) (hi : i < s.size) (hst : st.length ≤ 64) (hl : l.length ≤ 2 * i) (h1 : at_ (bs s) i ≠ 124) (h2 : at_ (bs s) i ≠ 41) (h3 : I = [] ∨ repAt (bs s) i = false) :
    Calls Try.prog 92 #[.pointer (some ⟨b, 0, none⟩)] w fun e w' => ItemR w b s v l i ns st aa I e w' := by
  have hs := hS.sz
  have hbl := bs_len s
  obtain ⟨c0, c1, c2, c3, c4, c5⟩ := p.pr.cells
  have hii : (i : Int) < (s.size : Int) := by omega
  by_cases h40 : at_ (bs s) i = 40
  · have hv : s[i].toNat = 40 := by rw [← at_get hi]; exact h40
    have HA := hidd hA
    have HP := hidd p
    have HS := hidd hS
    have HO := hidd hO
    have H3 := hidd h3
    have H40 := hidd h40
    have HG := hidd hg
    clear hA hS hO p h3 h40 hg h1 h2 hbl
    go_enter Try.func92, Try.ntmps92
    go_wp2_with fail
    go_quiet (fail)
    have p2 := HP.out.read ((Touch.refl b b w).drewN nq) (HP.out.pr.drewN nq)
    have f2 := Fr.of ((Touch.refl b b w).drewN nq) v
    go_wp2_with fail
    generalize w.drewN nq = w2 at *
    clear c0 c1 c2 c3 c4 c5
    refine (group_any_ (aa := aa) (I := I) HA.out HS.out HO.out hn p2 HG.out hi hst hl H40.out H3.out).mono ?_
    rintro e w3 ⟨k, j, ns', v', l', rfl, h6, h7, h8, h9, h10, h11, h12⟩
    have HR : Hid (ItemR w b s v l i ns st aa I (.returned (.int .i64 (k : Int))) w3) := by
      refine ⟨k, j, ns', v', l', rfl, h6, h7, h8, h9, h10, ⟨f2.trans h11.fr, ?_⟩, h12⟩
      obtain ⟨m, h13, h14⟩ := h11.new
      exact ⟨m, h13, fun x hx a ha hne => Nat.le_trans f2.size (h14 x hx a ha hne)⟩
    clear h6 h9 h10 h11 p2 f2
    go_wp2
    go_ret
    exact HR.out
  by_cases h91 : at_ (bs s) i = 91
  · have hrl : run (bs s) ⟨i, ns, st, aa, I⟩ = _ := run_lone (by rw [hbl]; exact hi) h1 h2 h3 h40
    rcases hS.cl i hi h91 with hC | hC
    · rw [lone_cls h91, cls_one hC] at hrl
      have HRL := hidd hrl
      have hcall := fun u (q : QS u b s (i : Int) (st.length : Int) v l) => class_one (i1 := i + 1) (i2 := i + 2) (i3 := i + 3) (i4 := i + 4) (i5 := i + 5) q rfl rfl rfl rfl rfl hC rfl rfl (by omega) (by omega)
      have HCL := hidd hcall
      have HLT := hidd hC.lt
      have HGS : Hid (GN1 (setG (anyB [rngB (at_ (bs s) (i + 1) : Nat) ((at_ (bs s) (i + 3) : Nat) + 1 : Int)])) (ndBytes (negS false (uniS noS (rngS (at_ (bs s) (i + 1)) (at_ (bs s) (i + 3))))))) := gn_rng _ _
      have hv : s[i].toNat = 91 := by rw [← at_get hi]; exact h91
      have HP := hidd p
      have HG := hidd hg
      clear hA hS hO p h3 hg h1 h2 hbl hrl hC hcall h40 h91
      go_enter Try.func92, Try.ntmps92
      go_wp2_with fail
      go_quiet (fail)
      have p2 := HP.out.read ((Touch.refl b b w).drewN nq) (HP.out.pr.drewN nq)
      have f2 := Fr.of ((Touch.refl b b w).drewN nq) v
      go_wp2_with fail
      generalize w.drewN nq = w2 at *
      clear c0 c1 c2 c3 c4 c5
      refine (HCL.out _ p2).mono ?_
      rintro e w3 ⟨rfl, v', p3, f3⟩
      have hnl := gn_len HG.out
      have g3 := (Goes.refl b v l w).add (f2.trans f3) (x := (setG (anyB [rngB (at_ (bs s) (i + 1) : Nat) ((at_ (bs s) (i + 3) : Nat) + 1 : Int)]), none, 0)) (fun y hy _ => by cases hy)
      have HR : Hid (ItemR w b s v l i ns st aa I (.returned (.int .i64 (l.length : Int))) w3) :=
        ⟨l.length, i + 5, ns ++ [ndBytes (negS false (uniS noS (rngS (at_ (bs s) (i + 1)) (at_ (bs s) (i + 3)))))], v', _, rfl, by rw [HRL.out, hnl], by omega, by have := HLT.out; omega, p3, gn_map HG.out HGS.out, g3, by rw [List.length_append, List.length_singleton]; omega⟩
      clear p2 f2 p3 f3 g3 HCL hnl
      go_wp2
      go_ret
      exact HR.out
    · rw [lone_cls h91, cls_two hC] at hrl
      have HRL := hidd hrl
      have hcall := fun u (q : QS u b s (i : Int) (st.length : Int) v l) => class_two (i1 := i + 1) (i2 := i + 2) (i3 := i + 3) (i4 := i + 4) q rfl rfl rfl rfl hC rfl rfl (by omega) (by omega)
      have HCL := hidd hcall
      have HLT := hidd hC.lt
      have HGS : Hid (GN1 (setG (anyB [rngB (at_ (bs s) (i + 1) : Nat) ((at_ (bs s) (i + 1) : Nat) + 1 : Int), rngB (at_ (bs s) (i + 2) : Nat) ((at_ (bs s) (i + 2) : Nat) + 1 : Int)])) (ndBytes (negS false (uniS (uniS noS (rngS (at_ (bs s) (i + 1)) (at_ (bs s) (i + 1)))) (rngS (at_ (bs s) (i + 2)) (at_ (bs s) (i + 2))))))) := gn_two _ _
      have hv : s[i].toNat = 91 := by rw [← at_get hi]; exact h91
      have HP := hidd p
      have HG := hidd hg
      clear hA hS hO p h3 hg h1 h2 hbl hrl hC hcall h40 h91
      go_enter Try.func92, Try.ntmps92
      go_wp2_with fail
      go_quiet (fail)
      have p2 := HP.out.read ((Touch.refl b b w).drewN nq) (HP.out.pr.drewN nq)
      have f2 := Fr.of ((Touch.refl b b w).drewN nq) v
      go_wp2_with fail
      generalize w.drewN nq = w2 at *
      clear c0 c1 c2 c3 c4 c5
      refine (HCL.out _ p2).mono ?_
      rintro e w3 ⟨rfl, v', p3, f3⟩
      have hnl := gn_len HG.out
      have g3 := (Goes.refl b v l w).add (f2.trans f3) (x := (setG (anyB [rngB (at_ (bs s) (i + 1) : Nat) ((at_ (bs s) (i + 1) : Nat) + 1 : Int), rngB (at_ (bs s) (i + 2) : Nat) ((at_ (bs s) (i + 2) : Nat) + 1 : Int)]), none, 0)) (fun y hy _ => by cases hy)
      have HR : Hid (ItemR w b s v l i ns st aa I (.returned (.int .i64 (l.length : Int))) w3) :=
        ⟨l.length, i + 4, ns ++ [ndBytes (negS false (uniS (uniS noS (rngS (at_ (bs s) (i + 1)) (at_ (bs s) (i + 1)))) (rngS (at_ (bs s) (i + 2)) (at_ (bs s) (i + 2)))))], v', _, rfl, by rw [HRL.out, hnl], by omega, by have := HLT.out; omega, p3, gn_map HG.out HGS.out, g3, by rw [List.length_append, List.length_singleton]; omega⟩
      clear p2 f2 p3 f3 g3 HCL hnl
      go_wp2
      go_ret
      exact HR.out
  by_cases h123 : at_ (bs s) i = 123 ∧ NamAt s i
  · obtain ⟨h123, hN⟩ := h123
    have hrl : run (bs s) ⟨i, ns, st, aa, I⟩ = _ := run_lone (by rw [hbl]; exact hi) h1 h2 h3 h40
    have hnd : dig (bs s) (i + 1) = false := nam_nodig hN
    rw [lone_name h123 hnd, nam_one hN] at hrl
    have HRL := hidd hrl
    have hcall := fun u (q : QS u b s (i : Int) (st.length : Int) v l) => Nm.name_one (i1 := i + 1) (i2 := i + 2) (i3 := i + 3) q rfl rfl rfl hN (by omega) (by omega)
    have HCL := hidd hcall
    have HLT := hidd hN.lt
    have HGS : Hid (GN1 (refG (s.extract (i + 1) (i + 2))) (ndRef (bs (s.extract (i + 1) (i + 2))))) := ⟨rfl, fun _ _ => rfl, rfl, rfl, rfl, rfl⟩
    have hv : s[i].toNat = 123 := by rw [← at_get hi]; exact h123
    have hi1 : i + 1 < s.size := by have := hN.lt; omega
    obtain ⟨j1, hj1⟩ : ∃ j1, j1 = i + 1 := ⟨_, rfl⟩
    have hj1n : j1 < s.size := by omega
    have hj1i : (i : Int) + 1 = (j1 : Int) := by omega
    have hj1s : (j1 : Int) < (s.size : Int) := by omega
    have hD : ∀ u : World, Calls Try.prog 79 #[.int .u8 ((s[j1].toNat : Nat) : Int)] u fun e w' => e = .returned (.bool false) ∧ w' = u := fun u => by
      have := rdigit_any s[j1].toNat u
      rw [← at_get hj1n] at this ⊢
      have hd9 : digitB (at_ (bs s) (i + 1)) = false := nam_nodigB hN
      rw [hj1, hd9] at this
      rw [hj1]
      exact this
    have hdl : decide (s.size ≤ j1) = false := decide_eq_false (by omega)
    have hdl2 : decide ((s.size : Int) ≤ (j1 : Int)) = false := decide_eq_false (by omega)
    clear hj1 hi1
    have HP := hidd p
    have HG := hidd hg
    clear hA hS hO p h3 hg h1 h2 hbl hrl hN hcall h40 h91 h123
    go_enter Try.func92, Try.ntmps92
    go_wp2_with fail
    go_quiet (fail)
    have p2 := HP.out.read ((Touch.refl b b w).drewN nq) (HP.out.pr.drewN nq)
    have f2 := Fr.of ((Touch.refl b b w).drewN nq) v
    generalize w.drewN nq = w2 at *
    clear c0 c1 c2 c3 c4 c5
    obtain ⟨c0, c1, c2, c3, c4, c5⟩ := p2.pr.cells
    go_wp2_with fail
    go_quiet ((go_at_call 79; exact Calls.quiet_of_same (hD _)))
    have p2b := p2.read ((Touch.refl b b w2).drewN nq) (p2.pr.drewN nq)
    have f2b := f2.trans (Fr.of ((Touch.refl b b w2).drewN nq) v)
    generalize w2.drewN nq = w2b at *
    clear c0 c1 c2 c3 c4 c5 p2 f2 hD
    go_wp2_with fail
    refine (HCL.out _ p2b).mono ?_
    rintro e w3 ⟨rfl, v', p3, f3⟩
    have hnl := gn_len HG.out
    have g3 := (Goes.refl b v l w).add (f2b.trans f3) (x := (refG (s.extract (i + 1) (i + 2)), none, 0)) (fun y hy _ => by cases hy)
    have HR : Hid (ItemR w b s v l i ns st aa I (.returned (.int .i64 (l.length : Int))) w3) :=
      ⟨l.length, i + 3, ns ++ [ndRef (bs (s.extract (i + 1) (i + 2)))], v', _, rfl, by rw [HRL.out, hnl], by omega, by have := HLT.out; omega, p3, gn_map HG.out HGS.out, g3, by rw [List.length_append, List.length_singleton]; omega⟩
    clear p2b f2b p3 f3 g3 HCL hnl
    go_wp2
    go_ret
    exact HR.out
  · have hrl : run (bs s) ⟨i, ns, st, aa, I⟩ = _ := run_lone (by rw [hbl]; exact hi) h1 h2 h3 h40
    have hp : specialB (at_ (bs s) i) = false := by
      cases hsp : specialB (at_ (bs s) i) with
      | false => rfl
      | true =>
        refine hO.no (x := (41, i)) ?_
        rw [hrl]
        have : lone (bs s) i = .error (41, i) := by
          unfold lone
          rcases hS.ch i hi with q | q | q | q | q | q | q | q | q | q | q
          · rw [hsp] at q; cases q
          · exact absurd q h40
          · exact absurd q h2
          · exact absurd q h1
          · rw [q]; rfl
          · rw [q]; rfl
          · rw [q]; rfl
          · rw [q, if_neg (by decide), if_neg (by decide), if_neg (by rw [(hS.br i hi q).resolve_right (fun z => h123 ⟨q, z.2⟩)]; simp)]; rfl
          · rw [q]; rfl
          · exact absurd q h91
          · rw [q]; rfl
        rw [this]
    rw [lone_plain (by rw [hbl]; exact hi) hp] at hrl
    have HRL := hidd hrl
    obtain ⟨c, hc⟩ : ∃ c, at_ (bs s) i = c := ⟨_, rfl⟩
    have hc5 : c ≤ 255 := by have := at_lt (bs_lt s) i; omega
    rw [hc] at hp h40 h1 h2 HRL
    have hv : s[i].toNat = c := by rw [← at_get hi]; exact hc
    have ne : ∀ k, specialB k = true → ((c : Int) == (k : Int)) = false := fun k hk => by
      have : c ≠ k := fun e => by rw [e, hk] at hp; cases hp
      simp
      omega
    have n40 : ((c : Int) == 40) = false := ne 40 rfl
    have n91 : ((c : Int) == 91) = false := ne 91 rfl
    have n46 : ((c : Int) == 46) = false := ne 46 rfl
    have n123 : ((c : Int) == 123) = false := ne 123 rfl
    have n47 : ((c : Int) == 47) = false := ne 47 rfl
    have n36 : ((c : Int) == 36) = false := ne 36 rfl
    have n92 : ((c : Int) != 92) = true := by have h0 : ((c : Int) == 92) = false := ne 92 rfl; show (!((c : Int) == 92)) = true; rw [h0]; rfl
    have h92 : c ≠ 92 := fun e => by rw [e] at hp; cases hp
    have HC := hidd hc
    have HP := hidd p
    have HG := hidd hg
    have HSP := hidd hp
    clear hA hS hO p h3 h40 hg h1 h2 hbl hc hp ne hrl
    go_enter Try.func92, Try.ntmps92
    go_wp2_with fail
    go_quiet (fail)
    have p2 := HP.out.read ((Touch.refl b b w).drewN nq) (HP.out.pr.drewN nq)
    have g2 := (Goes.refl b v l w).read ((Touch.refl b b w).drewN nq)
    clear c0 c1 c2 c3 c4 c5
    obtain ⟨c0, c1, c2, c3, c4, c5⟩ := p2.pr.cells
    generalize w.drewN nq = w2 at *
    go_wp2_with fail
    go_quiet (fail)
    have p3 := p2.read ((Touch.refl b b w2).drewN nq) (p2.pr.drewN nq)
    have g3 := g2.read ((Touch.refl b b w2).drewN nq)
    clear c0 c1 c2 c3 c4 c5 p2 g2
    generalize w2.drewN nq = w3 at *
    go_wp2_with fail
    refine (special_any _).mono ?_
    rintro e w4 ⟨rfl, rfl⟩
    go_wp2_with fail
    refine (in_no HSP.out _).mono ?_
    rintro e w4 ⟨rfl, rfl⟩
    go_wp2_with fail
    refine (one_plain (j := i + 1) p3.pr rfl hi (by omega) HC.out h92).mono ?_
    rintro e w5 ⟨rfl, R5, T5⟩
    have p5 := p3.read T5 R5
    have g5 := g3.read T5
    clear p3 g3 R5 T5
    obtain ⟨c0, c1, c2, c3, c4, c5⟩ := p5.pr.cells
    have p6 := p5.alloc (.cells #[.int .u8 (c : Int)] 5)
    have g6 := g5.read ((Touch.refl b b w5).alloc (.cells #[.int .u8 (c : Int)] 5))
    have hof := ofby c hc5 w5
    clear p5 g5
    go_wp2_with fail
    refine hof.mono ?_
    rintro e w7 ⟨rfl, b7⟩
    have T7 : Touch b b (w5.alloc (.cells #[.int .u8 (c : Int)] 5)) w7 := (Touch.refl b b _).below b7
    have p7 := p6.read T7 (p6.pr.below b7 p6.pr.lt)
    have g7 := g6.read T7
    clear p6 g6 T7 b7 hof c0 c1 c2 c3 c4 c5
    have ha := Ad.add_any p7 (oneG c) none 0 (fun h => absurd rfl h) (by omega)
    have hnl : ns.length = l.length := by have := HG.out.1; rw [List.length_map] at this; exact this.symm
    have HNL := hidd hnl
    clear hnl
    unfold gdL oneG at ha
    simp only at ha
    have HA := hidd ha
    clear ha
    go_wp2_with fail
    refine HA.out.mono ?_
    rintro e w8 ⟨rfl, v8, p8, f8⟩
    have HP8 := hidd p8
    have HG8 := hidd (g7.add f8 (x := (oneG c, none, 0)) (fun y hy _ => by cases hy))
    clear p8 f8 p7 g7 HA
    go_wp2
    go_ret
    refine ⟨l.length, i + 1, ns ++ [ndBytes (oneS c)], v8, _, rfl, by rw [HRL.out, HNL.out], by omega, by omega, HP8.out, gn_map HG.out (gn_one c), HG8.out, by rw [List.length_append, List.length_singleton]; omega⟩
end
end Go.Proofs.Ytahhiajliomcfaa.Sy.Rf

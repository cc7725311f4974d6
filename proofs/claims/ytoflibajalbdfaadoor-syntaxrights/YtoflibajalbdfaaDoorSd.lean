/- SyntaxTree, by the landed Parse and Right. -/
import Derived.Test.YtoflibajalbdfaaDoorSc
namespace Go.Proofs.YtoflibajalbdfaaDoor.Sy
open Go.RowKit
set_option maxRecDepth 100000
set_option linter.unusedVariables false

theorem name_short {n : Nd} (h : shapeB n = true) : n.name.length ≤ 32 := by
  unfold shapeB nameB at h
  repeat' split at h
  all_goals first
    | (simp only [Bool.and_eq_true, beq_iff_eq, decide_eq_true_eq] at h; first | omega | (simp only [h]; decide))
    | cases h
theorem gn_small {gs : List Gd} {ns : List Nd} (hg : GN gs ns) (hs : Shp ns) (hf : ∀ g ∈ gs, g.l.length ≤ 1000000) : ∀ g ∈ gs, g.nm.size ≤ maxLen ∧ g.l.length ≤ maxLen := by
  intro g hgm
  have h2 := hf g hgm
  obtain ⟨i, hi, rfl⟩ := List.getElem_of_mem hgm
  have h1 := (hg.2 i hi).nm
  have hi2 : i < ns.length := by rw [← hg.1]; exact hi
  rw [List.getD_eq_getElem?_getD, List.getElem?_eq_getElem hi, List.getD_eq_getElem?_getD, List.getElem?_eq_getElem hi2] at h1
  simp only [Option.getD_some] at h1
  have h3 := name_short (hs _ (List.getElem_mem hi2))
  rw [← h1, bs_len] at h3
  unfold maxLen
  omega

set_option maxHeartbeats 1000000 in
theorem tree2_any (hP : ParseC) (s : ByteArray) (w : World) (hE : EV w) (hs : s.size ≤ maxLen) :
    Calls Tryd.prog 4 #[.string s] w fun e w' => e = .returned (.bool true) ∧ Below w.heap.size w w' := by
  have hf := few_any s
  have hxs := cutS_size 1100 s
  have hP1 := hP (cutS 1100 s)
  have hlt := bs_lt (cutS 1100 s)
  have hbl := bs_len (cutS 1100 s)
  generalize cutS 1100 s = x at *
  go_enter Tryd.func4, Tryd.ntmps4
  go_wp2_with fail
  refine (shown_any hP _ hE).mono ?_
  rintro e w1 ⟨rfl, b1⟩
  go_wp2_with fail
  refine (hf _ hs).mono ?_
  rintro e w2 ⟨rfl, rfl⟩
  go_wp2_with fail
  refine (hP1 _ (hE.below b1) (by omega)).mono ?_
  rintro e w3 ⟨hr, b3⟩
  have D3 := b1.trans (b3.mono b1.size)
  clear b1 b3 hP hP1
  unfold ParseR at hr
  cases hp : parse (bs x) with
  | error e1 =>
    obtain ⟨er, p⟩ := e1
    rw [hp] at hr
    obtain ⟨A, c, rfl⟩ := hr
    have hb : (er = 3 ∧ p = 0) ∨ (p ≤ x.size ∧ (er = 40 → p = x.size) ∧ 40 ≤ er) := by
      rcases parse_bad hp with h | h
      · cases h; exact .inl ⟨rfl, rfl⟩
      · rw [← hbl]; exact .inr ⟨h.1, h.2.1, h.2.2.1⟩
    clear hp
    have hne : ¬ (er : Int) = 0 := by omega
    have hp0 : (0 : Int) ≤ (p : Int) := by omega
    have hpl : (p : Int) ≤ (x.size : Int) := by omega
    have hxi : x.size ≤ 1100 := by omega
    clear hxs
    by_cases h40 : er = 40
    · have hpe : p = x.size := by omega
      subst h40
      subst hpe
      clear hb
      go_wp2_with fail
      refine (hf _ hs).mono ?_
      rintro e w4 ⟨rfl, rfl⟩
      go_wp2_with fail
      refine (hf _ hs).mono ?_
      rintro e w4 ⟨rfl, rfl⟩
      go_wp2
      go_ret
      exact ⟨rfl, D3⟩
    · have h41 : ¬ (er : Int) = 40 := by omega
      clear hb
      go_wp2_with fail
      refine (hf _ hs).mono ?_
      rintro e w4 ⟨rfl, rfl⟩
      go_wp2
      go_ret
      exact ⟨rfl, D3⟩
  | ok ns =>
    rw [hp] at hr
    obtain ⟨A, c, gs, rfl, hn, hg⟩ := hr
    obtain ⟨t1, t2, t3, t4, t5⟩ := parse_tree hlt hp
    have hgl : gs.length ≤ 2000 := by rw [hg.1]; omega
    have hrg : RightG gs := ⟨ns, hg, t1, t2, t3, t4⟩
    have hsm := gn_small hg t1 (gn_few hg t4 t3)
    have hx5 : decide ((x.size : Int) ≤ 1024) = true := decide_eq_true (by omega)
    clear hxs hp
    go_wp2_with fail
    refine (right_any A c gs _ hn hgl hsm).mono ?_
    rintro e w4 ⟨b, rfl, hb, b4⟩
    have hbt := hb.2 hrg
    subst hbt
    have D4 := D3.trans (b4.mono D3.size)
    clear hb b4 hn hg hrg t4 hsm
    go_wp2_with fail
    refine (hf _ hs).mono ?_
    rintro e w5 ⟨rfl, rfl⟩
    go_wp2
    go_ret
    exact ⟨rfl, D4⟩

end Go.Proofs.YtoflibajalbdfaaDoor.Sy

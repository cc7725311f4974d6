/- 'shown': the document's examples hold. -/
import Derived.Test.YtbheccbbkolieaaWj
import Derived.Laws.BytesArg
namespace Go.Proofs.Ytbheccbbkolieaa
open Go.RowKit

/-- What the string of a slice of bytes is. -/
theorem str_bytes (A : Option Addr) (c : Nat) (xs : List Int) (w : World) (h : Bts w w.heap.size A xs) : (convert 22 9 (.slice A xs.length c)).run Try.prog w = .ok (.string (strOfNums xs)) w := by
  by_cases hx : xs = []
  · subst hx
    cases A with
    | none => exact run_convert_bytes_nil w 22 5 Try.underlying22 Try.underlying5 _ _ 9 Try.underlying9
    | some a =>
      rw [run_convert_bytes_string w 22 9 5 _ _ _ Try.underlying22 Try.underlying5 Try.underlying9, run_bytesToString w a _ _ [] (by simp [loadCells, loadCellsFrom])]
      rfl
  · obtain ⟨g, off, rfl, _, hc⟩ := h.2 hx
    exact run_convert_bytes_arg w 22 5 Try.underlying22 Try.underlying5 g off _ _ xs rfl hc 9 Try.underlying9

def shP : Nat → Bool := orB (rngB 97 100) (oneB 122)
theorem sh_list : lstB shP 256 = [97, 98, 99, 122] := by kernel_rfl
theorem sh_str : (strOfNums [97, 98, 99, 122]).toList = [97, 98, 99, 122] := by kernel_rfl
theorem sh_fold : eqB (foldK 123 (oneB 97)) (addB (oneB 65) 97) = true := by
  refine eqB_true ?_
  have h : (List.range 256).all (fun b => foldK 123 (oneB 97) b == addB (oneB 65) 97 b) = true := by kernel_rfl
  intro b hb
  have := List.all_eq_true.1 h b (List.mem_range.2 hb)
  simpa using this
theorem sh_spans : spansL [97, 98, 99, 122] = [(97, 99), (122, 122)] := by kernel_rfl

set_option maxRecDepth 100000 in
set_option maxHeartbeats 2000000 in
theorem shown_any (w : World) :
    Calls Try.prog 12 #[] w fun e w' => e = .returned (.bool true) ∧ Below w.heap.size w w' := by
  go_enter Try.func12, Try.ntmps12
  go_wp2_with fail
  refine (range_any 97 99 _ (by omega) (by omega) (by omega) (by omega)).mono ?_
  rintro e w1 ⟨rfl, hb1⟩
  go_wp2_with fail
  refine (of1 122 _ (by omega) (by omega)).mono ?_
  rintro e w2 ⟨rfl, hb2⟩
  have hb := hb1.trans (hb2.mono hb1.size)
  clear hb1 hb2
  go_wp2_with fail
  refine (or2 _ _ _).mono ?_
  rintro e w3 ⟨rfl, hb3⟩
  have hbb := hb.trans (hb3.mono hb.size)
  clear hb hb3
  have R0 := Row4.new w3 shP
  have hbc := hbb.alloc (by have := hbb.size; omega) (.cells (#[.int .u64 (W (shP) 0), .int .u64 (W (shP) 1), .int .u64 (W (shP) 2), .int .u64 (W (shP) 3)]) 27)
  go_wp2_with fail
  refine (list_any shP _).mono ?_
  rintro e w4 ⟨v4, rfl, hown4, hb4⟩
  have R1 := R0.below hb4 R0.lt
  have hbd := hbc.trans (hb4.mono hbc.size)
  rw [sh_list] at hown4
  obtain ⟨A4, c4, rfl, hB4⟩ := Bts.of_own hown4 (by decide)
  have hcv := str_bytes A4 c4 _ _ hB4
  change (convert 22 9 (.slice A4 4 c4)).run Try.prog w4 = _ at hcv
  obtain ⟨r0, r1, r2, r3⟩ := R1.cells
  have hst := sh_str
  clear R0 hbb hbc hb4 hown4 hB4
  go_wp2_with fail
  refine (spans_any shP _).mono ?_
  rintro e w5 ⟨v5, rfl, hown5, hb5⟩
  have hbe := hbd.trans (hb5.mono hbd.size)
  rw [sh_list, sh_spans] at hown5
  obtain ⟨A5, c5, hv5, hP5⟩ := Prs.of_own hown5
  change v5 = .slice A5 2 c5 at hv5
  subst hv5
  clear hcv hst r0 r1 r2 r3 R1 hbd hb5 hown5
  have hP6 : Prs (w5.alloc (.cells #[.int .u8 97, .int .u8 99, .int .u8 122, .int .u8 122] 42)) (w5.alloc (.cells #[.int .u8 97, .int .u8 99, .int .u8 122, .int .u8 122] 42)).heap.size (some ⟨w5.heap.size, 0, none⟩) [(97, 99), (122, 122)] := by
    refine fun _ => ⟨_, 0, rfl, by simp, fun i hi => ?_⟩
    have : i = 0 ∨ i = 1 := by simp at hi; omega
    rcases this with rfl | rfl <;> exact ⟨new_at _ _ _ _ _ rfl, new_at _ _ _ _ _ rfl⟩
  have hP7 := (hP5.below ((Below.refl _ _).alloc (Nat.le_refl _) (.cells #[.int .u8 97, .int .u8 99, .int .u8 122, .int .u8 122] 42))).more (B' := (w5.alloc (.cells #[.int .u8 97, .int .u8 99, .int .u8 122, .int .u8 122] 42)).heap.size) (by simp)
  go_wp2_with fail
  refine (same_any A5 (some ⟨w5.heap.size, 0, none⟩) c5 2 [(97, 99), (122, 122)] _ hP7 hP6 (by simp)).mono ?_
  rintro e w6 ⟨rfl, hb6⟩
  have hbf := hbe.trans ((bel1 hb6).mono hbe.size)
  clear hP5 hP6 hP7 hbe hb6
  go_wp2_with fail
  refine (of1 97 _ (by omega) (by omega)).mono ?_
  rintro e w7 ⟨rfl, hb7⟩
  have hbg := hbf.trans (hb7.mono hbf.size)
  clear hb7 hbf
  go_wp2_with fail
  refine (fold_any _ _).mono ?_
  rintro e w8 ⟨rfl, hb8⟩
  have hbh := hbg.trans (hb8.mono hbg.size)
  clear hb8 hbg
  go_wp2_with fail
  refine (of2 65 97 _ (by omega) (by omega) (by omega) (by omega)).mono ?_
  rintro e w9 ⟨rfl, hb9⟩
  have hbi := hbh.trans (hb9.mono hbh.size)
  clear hb9 hbh
  have hg27 := guard27
  have heq := set_eql (foldK 123 (oneB 97)) (addB (oneB 65) 97)
  rw [show eqB (foldK 123 (oneB 97)) (addB (oneB 65) 97) = true from sh_fold] at heq
  go_wp2
  go_ret
  exact ⟨rfl, hbi⟩

end Go.Proofs.Ytbheccbbkolieaa

/- The law SyntaxTree, by what Parse and Right owe. -/
import Derived.Test.YtoflibajalbdfaaDoorNc
namespace Go.Proofs.YtoflibajalbdfaaDoor.Sy
open Go.RowKit

theorem bs_len (b : ByteArray) : (bs b).length = b.size := by
  unfold bs
  rw [List.length_map]
  rfl
theorem bs_lt (b : ByteArray) : ∀ c ∈ bs b, c < 256 := by
  intro c hc
  unfold bs at hc
  obtain ⟨x, _, rfl⟩ := List.mem_map.1 hc
  exact x.toNat_lt
/-- The first n bytes. -/
def cutS (n : Nat) (s : ByteArray) : ByteArray := if n < s.size then s.extract 0 n else s
theorem cutS_size (n : Nat) (s : ByteArray) : (cutS n s).size = min s.size n := by
  unfold cutS
  split
  · rw [ByteArray.size_extract]; omega
  · omega

theorem few_any (s : ByteArray) (w : World) (hs : s.size ≤ maxLen) :
    Calls Tryd.prog 13 #[.string s] w fun e w' => e = .returned (.string (cutS 1100 s)) ∧ w' = w := by
  unfold maxLen at hs
  have hc : cutS 1100 s = if 1100 < s.size then s.extract 0 1100 else s := rfl
  go_enter Tryd.func13, Tryd.ntmps13
  by_cases h : 1100 < s.size
  · rw [if_pos h] at hc
    have HC := hidd hc
    clear hc
    go_wp2
    go_ret
    exact ⟨by rw [HC.out]; rfl, rfl⟩
  · rw [if_neg h] at hc
    have HC := hidd hc
    clear hc
    go_wp2
    go_ret
    exact ⟨by rw [HC.out]; rfl, rfl⟩

/-- Nodes that are a tree: P4.1. -/
def RightG (gs : List Gd) : Prop := ∃ ns, GN gs ns ∧ Shp ns ∧ 1 ≤ ns.length ∧ ns.length ≤ 1024 ∧ Forest ns 0 ns.length [ns.length - 1]
/-- What Right owes. -/
def RightC : Prop := ∀ (A : Option Addr) (c : Nat) (gs : List Gd) (w : World), Nds w w.heap.size A gs → gs.length ≤ 2000 →
  Calls Tryd.prog 10 #[.slice A gs.length c] w fun e w' => ∃ b, e = .returned (.bool b) ∧ (b = true ↔ RightG gs) ∧ Below w.heap.size w w'

set_option maxHeartbeats 1000000 in
theorem tree_any (hP : ParseC) (hR : RightC) (s : ByteArray) (w : World) (hE : EV w) (hs : s.size ≤ maxLen) :
    Calls Tryd.prog 4 #[.string s] w fun e w' => e = .returned (.bool true) ∧ Below w.heap.size w w' := by
  have hf := few_any s
  have hxs := cutS_size 1100 s
  have hP1 := hP (cutS 1100 s)
  have hlt := bs_lt (cutS 1100 s)
  have hbl := bs_len (cutS 1100 s)
  generalize cutS 1100 s = x at *
  go_enter Tryd.func4, Tryd.ntmps4
  go_wp2_with fail
  refine (shown_any hP _ hE).mono ?_
  rintro e w1 ⟨rfl, b1⟩
  go_wp2_with fail
  refine (hf _ hs).mono ?_
  rintro e w2 ⟨rfl, rfl⟩
  go_wp2_with fail
  refine (hP1 _ (hE.below b1) (by omega)).mono ?_
  rintro e w3 ⟨hr, b3⟩
  have D3 := b1.trans (b3.mono b1.size)
  clear b1 b3 hP hP1
  unfold ParseR at hr
  cases hp : parse (bs x) with
  | error e1 =>
    obtain ⟨er, p⟩ := e1
    rw [hp] at hr
    obtain ⟨A, c, rfl⟩ := hr
    have hb : (er = 3 ∧ p = 0) ∨ (p ≤ x.size ∧ (er = 40 → p = x.size) ∧ 40 ≤ er) := by
      rcases parse_bad hp with h | h
      · cases h; exact .inl ⟨rfl, rfl⟩
      · rw [← hbl]; exact .inr ⟨h.1, h.2.1, h.2.2.1⟩
    clear hp hR
    have hne : ¬ (er : Int) = 0 := by omega
    have hp0 : (0 : Int) ≤ (p : Int) := by omega
    have hpl : (p : Int) ≤ (x.size : Int) := by omega
    have hxi : x.size ≤ 1100 := by omega
    clear hxs
    by_cases h40 : er = 40
    · have hpe : p = x.size := by omega
      subst h40
      subst hpe
      clear hb
      go_wp2_with fail
      refine (hf _ hs).mono ?_
      rintro e w4 ⟨rfl, rfl⟩
      go_wp2_with fail
      refine (hf _ hs).mono ?_
      rintro e w4 ⟨rfl, rfl⟩
      go_wp2
      go_ret
      exact ⟨rfl, D3⟩
    · have h41 : ¬ (er : Int) = 40 := by omega
      clear hb
      go_wp2_with fail
      refine (hf _ hs).mono ?_
      rintro e w4 ⟨rfl, rfl⟩
      go_wp2
      go_ret
      exact ⟨rfl, D3⟩
  | ok ns =>
    rw [hp] at hr
    obtain ⟨A, c, gs, rfl, hn, hg⟩ := hr
    obtain ⟨t1, t2, t3, t4, t5⟩ := parse_tree hlt hp
    have hgl : gs.length ≤ 2000 := by rw [hg.1]; omega
    have hrg : RightG gs := ⟨ns, hg, t1, t2, t3, t4⟩
    have hx5 : decide ((x.size : Int) ≤ 1024) = true := decide_eq_true (by omega)
    clear hxs hp
    go_wp2_with fail
    refine (hR A c gs _ hn hgl).mono ?_
    rintro e w4 ⟨b, rfl, hb, b4⟩
    have hbt := hb.2 hrg
    subst hbt
    have D4 := D3.trans (b4.mono D3.size)
    clear hb b4 hn hg hrg t4
    go_wp2_with fail
    refine (hf _ hs).mono ?_
    rintro e w5 ⟨rfl, rfl⟩
    go_wp2
    go_ret
    exact ⟨rfl, D4⟩

end Go.Proofs.YtoflibajalbdfaaDoor.Sy

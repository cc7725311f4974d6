/- The law SyntaxGroup, by what Parse owes. -/
import Derived.Test.YtghjkbjpdjlddaaDoorNd
namespace Go.Proofs.YtghjkbjpdjlddaaDoor.Sy
open Go.RowKit

theorem cutS_yes {n : Nat} {s : ByteArray} (h : n < s.size) : cutS n s = s.extract 0 n := if_pos h
theorem cutS_no {n : Nat} {s : ByteArray} (h : ¬ n < s.size) : cutS n s = s := if_neg h
theorem bs_append (a b : ByteArray) : bs (a ++ b) = bs a ++ bs b := by
  unfold bs
  rw [ByteArray.data_append, Array.toList_append, List.map_append]

theorem at_bs (x : ByteArray) (k : Nat) (h : k < x.size) : at_ (bs x) k = x[k].toNat := by
  unfold at_ bs
  rw [List.getD_eq_getElem?_getD, List.getElem?_map, Array.getElem?_toList]
  rw [Array.getElem?_eq_getElem (show k < x.data.size from h)]
  rfl
theorem opens_same {s : List Nat} {i : Nat} (h : i < s.length) (hc : at_ s i ≠ 40) : opens s (i + 1) = opens s i := by
  unfold opens
  rw [List.take_succ_eq_append_getElem h, List.count_append]
  have : s[i] ≠ 40 := by
    unfold at_ at hc
    rw [List.getD_eq_getElem?_getD, List.getElem?_eq_getElem h] at hc
    exact hc
  rw [List.count_singleton]
  simp [this]
theorem Forest.len {ns : List Nd} {a b : Nat} {ks : List Nat} (h : Forest ns a b ks) : ks.length ≤ b - a := by
  induction h with
  | nil => exact Nat.zero_le _
  | snoc h1 _ h2 i1 _ =>
    have := h1.le
    have := h2.le
    rw [List.length_append, List.length_singleton]
    omega
theorem Forest.all {ns : List Nd} {a b : Nat} {ks : List Nat} (h : Forest ns a b ks) : ∀ i, a ≤ i → i < b → ∃ n b', ns[i]? = some n ∧ Forest ns b' i n.l := by
  induction h with
  | nil => intro i h1 h2; omega
  | @snoc a b c ks n h1 hn h2 i1 i2 =>
    intro i g1 g2
    rcases Nat.lt_or_ge i b with h | h
    · exact i1 i g1 h
    · rcases Nat.lt_or_ge i c with h3 | h3
      · exact i2 i h h3
      · have : i = c := by omega
        subst this
        exact ⟨n, b, hn, h2⟩
theorem kids_few {ns : List Nd} {ks : List Nat} (h : Forest ns 0 ns.length ks) : ∀ n ∈ ns, n.l.length ≤ ns.length := by
  intro n hn
  obtain ⟨i, hi, rfl⟩ := List.getElem_of_mem hn
  obtain ⟨m, b, h1, h2⟩ := h.all i (Nat.zero_le _) hi
  rw [List.getElem?_eq_getElem hi] at h1
  cases h1
  have := h2.len
  omega
theorem gn_few {gs : List Gd} {ns : List Nd} {ks : List Nat} (hg : GN gs ns) (h : Forest ns 0 ns.length ks) (hn : ns.length ≤ 1024) : ∀ g ∈ gs, g.l.length ≤ 1000000 := by
  intro g hgm
  obtain ⟨i, hi, rfl⟩ := List.getElem_of_mem hgm
  have h1 := (hg.2 i hi).l
  have hi2 : i < ns.length := by rw [← hg.1]; exact hi
  rw [List.getD_eq_getElem?_getD, List.getElem?_eq_getElem hi, List.getD_eq_getElem?_getD, List.getElem?_eq_getElem hi2] at h1
  simp only [Option.getD_some] at h1
  rw [h1, List.length_map]
  have := kids_few h _ (List.getElem_mem hi2)
  omega


end Go.Proofs.YtghjkbjpdjlddaaDoor.Sy

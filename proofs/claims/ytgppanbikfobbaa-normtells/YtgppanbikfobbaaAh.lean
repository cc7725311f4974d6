/- The landed expander: a name is entered, and left. -/
import Derived.Test.YtgppanbikfobbaaAg
import Derived.Deep.AppendLies
namespace Go.Proofs.Ytgppanbikfobbaa.Sy.Ap
open Go.RowKit
set_option maxRecDepth 100000
set_option linter.unusedVariables false

theorem zero_unit (w : World) : (zeroValue 93).run Try.prog w = .ok (.agg #[]) w := by kernel_rfl
theorem walk_info : (Try.prog.info? 69).map (fun i => (i.zero, i.size, i.bytes)) = some (some (.agg #[.string { data := #[] }, .slice none 0 0]), 2, 40) := by kernel_rfl
theorem wksC_snoc (l : List WkE) (e : WkE) : wksC l ++ wkL e = wksC (l ++ [e]) := by simp [wksC]
theorem wksC_len (l : List WkE) : (wksC l).length = l.length * 2 := by
  induction l with
  | nil => rfl
  | cons e r ih =>
    have : wksC (e :: r) = wkL e ++ wksC r := rfl
    rw [this, List.length_append, ih, List.length_cons]
    show 2 + _ = _
    omega
section
variable {B : Nat} {w : World} {b bt bo nt no : Nat} {f g : ByteArray → Option Value} {wv nv rv : Value} {wl : List WkE} {l : List NR} {rt : List Nat}
set_option maxHeartbeats 400000 in
theorem enter_none (h : ES B w b bt bo nt no f g wv nv rv wl l rt) (s : ByteArray) (hs : s.size ≤ maxLen) (hf : f s = none) :
    Calls Try.prog 55 #[.pointer (some ⟨b, 0, none⟩), .string s] w fun e w' => e = .returned (.int .i64 60) ∧ Below w.heap.size w w' := by
  obtain ⟨d0, d1, d2, d3, d4⟩ := h.cells
  have MV := h.trees
  have hz := zero_nodes w
  clear h
  go_enter Try.func55, Try.ntmps55
  go_wp2_with (at_lookup; refine wp_look 42 22 rfl rfl Try.underlying42 hz bt nt f rfl MV s rfl hs ?_; rw [hf])
  go_ret
  exact ⟨rfl, Below.refl _ _⟩
set_option maxHeartbeats 400000 in
theorem enter_twice (h : ES B w b bt bo nt no f g wv nv rv wl l rt) (s : ByteArray) (hs : s.size ≤ maxLen) {v : Value} (hf : f s = some v) (hg : g s = some (.agg #[])) :
    Calls Try.prog 55 #[.pointer (some ⟨b, 0, none⟩), .string s] w fun e w' => e = .returned (.int .i64 61) ∧ Below w.heap.size w w' := by
  obtain ⟨d0, d1, d2, d3, d4⟩ := h.cells
  have MV := h.trees
  have MO := h.opn
  have hz := zero_nodes w
  have hz2 := zero_unit w
  clear h
  go_enter Try.func55, Try.ntmps55
  go_wp2_with (at_lookup; first | (refine wp_look 42 22 rfl rfl Try.underlying42 hz bt nt f rfl MV s rfl hs ?_; rw [hf]) | (refine wp_look 45 93 rfl rfl Try.underlying45 hz2 bo no g rfl MO s rfl hs ?_; rw [hg]))
  go_ret
  exact ⟨rfl, (Below.refl _ _).alloc (Nat.le_refl _) _⟩
set_option maxHeartbeats 1000000 in
theorem enter_ok (h : ES B w b bt bo nt no f g wv nv rv wl l rt) (s : ByteArray) (hs : s.size ≤ maxLen) (A : Option Addr) (c : Nat) (rest : List Gd) (hf : f s = some (.slice A rest.length c)) (hg : g s = none) (hwl : wl.length ≤ 100000) (hno : no ≤ 100000) :
    Calls Try.prog 55 #[.pointer (some ⟨b, 0, none⟩), .string s] w fun e w' => e = .returned (.int .i64 0) ∧ Below B w w' ∧
      ∃ wv', ES B w' b bt bo nt (no + 1) f (fun k => if k = s then some (.agg #[]) else g k) wv' nv rv (wl ++ [⟨s, A, c, rest⟩]) l rt := by
  obtain ⟨i0, hi0, hz0, hz1, hz2⟩ := info_parts walk_info
  obtain ⟨d0, d1, d2, d3, d4⟩ := h.cells
  have MV := h.trees
  have MO := h.opn.alloc (.cells #[] 93)
  have h1 := h.below ((Below.refl _ _).alloc (Nat.le_refl _) (.cells #[] 93))
  have HH := hidd h
  have b1 : Below B w (w.alloc (.cells #[] 93)) := ((Below.refl _ _).alloc (Nat.le_refl _) _ : Below w.heap.size w _).mono h.size
  have MO0 := h.opn
  have hbl := h.row.lt
  have hz := zero_nodes w
  have hy := zero_unit w
  have hnm : no < maxLen := by unfold maxLen; omega
  clear h
  go_enter Try.func55, Try.ntmps55
  go_upto_region 8 with (first
    | (at_lookup; refine wp_look 42 22 rfl rfl Try.underlying42 hz bt nt f rfl MV s rfl hs ?_; rw [hf])
    | (at_lookup; refine wp_look 45 93 rfl rfl Try.underlying45 hy bo no g rfl MO0 s rfl hs ?_; rw [hg])
    | (at_mapUpdate; refine wp_mput 45 93 rfl rfl Try.underlying45 bo no g rfl MO hnm s (.agg #[]) rfl rfl hs ?_; intro w2 M2 T2; have h2 := h1.setOpen T2 M2; have b2 := b1.trans (turned_below T2 h1.ho)))
  clear d0 d1 d2 d3 d4 MV MO MO0 hz hy
  obtain ⟨d0, d1, d2, d3, d4⟩ := h2.cells
  have ht := h2.row.thawed
  have H2 := hidd h2
  have HB2 := hidd b2
  have h3 := h2.below ((Below.refl _ _).alloc (Nat.le_refl _) (.cells #[.string s, .slice A rest.length c] 69))
  have b3 : Below B w (w2.alloc (.cells #[.string s, .slice A rest.length c] 69)) := b2.trans (((Below.refl _ _).alloc (Nat.le_refl _) _ : Below w2.heap.size w2 _).mono h2.size)
  have hown := h3.walks
  have hnews : ∀ j u, ([.string s, .slice A rest.length c] : List Value)[j]? = some u → (w2.alloc (.cells #[.string s, .slice A rest.length c] 69)).cell? ((⟨w2.heap.size, 0, none⟩ : Addr).add j) = some u := World.news_of_block (RowA.new w2 69 #[.string s, .slice A rest.length c])
  have hH : (w2.alloc (.cells #[.string s, .slice A rest.length c] 69)).heap.size = w2.heap.size + 1 := World.size_alloc ..
  have HH3 := hidd h3
  have HB3 := hidd b3
  have hsz := h3.size
  clear h2 b2 h3 b3 M2 T2 h1 b1 HH
  go_wp2_with (at_builtin; refine wpList_append_lies _ rfl _ _ _ rfl B 69 i0 (.agg #[.string { data := #[] }, .slice none 0 0]) 2 40 Try.underlying46 hi0 hz0 hz1 hz2 rfl (by omega) _ wl.length (wksC wl) rfl hown ⟨w2.heap.size, 0, none⟩ 1 1 [.string s, .slice A rest.length c] rfl rfl hnews (by simp [Value.oneCell']) (by omega) (by simp only [maxLen]; omega) (by omega) hsz (w2.heap.size + 1) hH ?_; intro gg cap w6 hown6 hgrow hat hlt6; refine Hid.out ?_)
  have hown7 : w6.ownsRow B 69 2 (.slice (some ⟨gg, 0, none⟩) (wl.length + 1) cap) (wl ++ [WkE.mk s A c rest]).length (wksC (wl ++ [WkE.mk s A c rest])) := by
    rw [← wksC_snoc, List.length_append]
    exact hown6
  have HE7 := hidd (HH3.out.setWalks hgrow hown7)
  have HB7 := hidd (bel_set (bel_row HB3.out HH3.out.size hgrow (fun k hk => (HH3.out.walks.lt k hk).1)) ⟨b, 2, none⟩ (.slice (some ⟨gg, 0, none⟩) (wl.length + 1) cap) HH3.out.hb)
  have hbw : wv.ownBlock ≠ some b := own_neR HH3.out.walks HH3.out.row (by decide)
  have R6 : RowA w6 b 48 (exC bt bo wv nv rv) := (hgrow.block b HH3.out.row.lt (fun q => hbw q.symm)).trans HH3.out.row
  have ht6 := R6.thawed
  have c2 := R6.at_ (k := 2) rfl
  clear hown6 hown7 hgrow hat hlt6 hown hnews hH hsz d0 d1 d2 d3 d4 ht HH3 HB3 H2 HB2 R6 hbw
  refine Lib.hid ?_
  go_wp2
  go_ret
  exact ⟨rfl, HB7.out, _, HE7.out⟩
end
end Go.Proofs.Ytgppanbikfobbaa.Sy.Ap

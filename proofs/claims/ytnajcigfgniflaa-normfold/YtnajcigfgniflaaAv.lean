/- NormName: a name alone; names that nothing has, or that stand for themselves. -/
import Derived.Test.YtnajcigfgniflaaAu
namespace Go.Proofs.Ytnajcigfgniflaa.Sy.Ap
open Go.RowKit
set_option maxRecDepth 100000
set_option linter.unusedVariables false

set_option maxHeartbeats 400000 in
theorem ref_any (nm : ByteArray) (w : World) :
    Calls Try.prog 24 #[.string nm] w fun e w' => ∃ A, e = .returned (.slice A 1 1) ∧ Nds w' w'.heap.size A [refG nm] ∧ Below w.heap.size w w' := by
  have hy := nds_new w [(refG nm, none, 0)] (by intro x hx; rw [List.mem_singleton] at hx; subst hx; exact its_nil _ _ _)
  rw [ref_row] at hy
  have HY := hidd hy
  have HB : Hid (Below w.heap.size w (w.alloc (.cells #[.int .u8 6, .int .u64 0, .int .u64 0, .int .u64 0, .int .u64 0, .slice none 0 0, .int .i64 0, .int .i64 0, .string nm] 41))) := (Below.refl _ _).alloc (Nat.le_refl _) _
  clear hy
  go_enter Try.func24, Try.ntmps24
  go_wp2
  go_ret
  exact ⟨_, rfl, HY.out, HB.out⟩
abbrev aA : ByteArray := { data := #[97] }
abbrev bA : ByteArray := { data := #[98] }
abbrev cA : ByteArray := { data := #[99] }
abbrev eA : ByteArray := { data := #[101] }
abbrev fA : ByteArray := { data := #[102] }
def nmD (ns : List Nd) : List Df := [([97], ns), ([98], [ndRef [97]]), ([99], [ndRef [99]]), ([100], [ndRef [101]]), ([101], [ndRef [100]])]
def nmG (gs : List Gd) : List DG := [(aA, gs), (bA, [refG aA]), (cA, [refG cA]), (dA, [refG eA]), (eA, [refG dA])]
theorem ref_tree {m : List Nat} (h : shapeB (ndRef m) = true) : TreeN [ndRef m] := lone_tree h rfl
theorem gn_ref1 (b : ByteArray) : GN [refG b] [ndRef (bs b)] := ⟨rfl, fun i hi => by
  have : i = 0 := by simp at hi; omega
  subst this
  exact gn_ref b⟩
theorem nm_gd {gs : List Gd} {ns : List Nd} (hg : GN gs ns) (ht : TreeN ns) : GD (nmG gs) (nmD ns) :=
  GD.cons (GD.cons (GD.cons (GD.cons (GD.cons gd_nil rfl (gn_ref1 dA) (ref_tree rfl)) rfl (gn_ref1 eA) (ref_tree rfl)) rfl (gn_ref1 cA) (ref_tree rfl)) rfl (gn_ref1 aA) (ref_tree rfl)) rfl hg ht
theorem nm_right {gs : List Gd} {ns : List Nd} (hg : GN gs ns) (ht : TreeN ns) : RightDs (nmG gs) := by
  refine ⟨fun d hd => ?_, ?_⟩
  · unfold nmG at hd
    simp only [List.mem_cons, List.not_mem_nil, or_false] at hd
    rcases hd with rfl | rfl | rfl | rfl | rfl
    · exact ⟨rfl, tree_rg hg ht⟩
    · exact ⟨rfl, tree_rg (gn_ref1 aA) (ref_tree rfl)⟩
    · exact ⟨rfl, tree_rg (gn_ref1 cA) (ref_tree rfl)⟩
    · exact ⟨rfl, tree_rg (gn_ref1 eA) (ref_tree rfl)⟩
    · exact ⟨rfl, tree_rg (gn_ref1 dA) (ref_tree rfl)⟩
  · unfold nmG
    simp only [List.pairwise_cons, List.mem_cons, List.not_mem_nil, or_false, forall_eq_or_imp, forall_eq]
    refine ⟨⟨by decide, by decide, by decide, by decide⟩, ⟨by decide, by decide, by decide⟩, ⟨by decide, by decide⟩, by decide, fun _ h => h.elim, List.Pairwise.nil⟩
theorem nm_twice {gs : List Gd} : ¬ RightDs (nmG gs ++ [(aA, gs)]) := fun h => by
  have := h.2
  rw [List.pairwise_append] at this
  exact this.2.2 (aA, gs) (by unfold nmG; simp) (aA, gs) (by simp) rfl
theorem nm_b {ns : List Nd} (ht : TreeN ns) (hp : PlainN ns) : expN [ndRef [98]] (nmD ns) = .ok ns := by
  unfold expN
  have f1 : findD (nmD ns) [98] = some [ndRef [97]] := rfl
  have f2 : findD (remD (nmD ns) (ndRef [98]).name) [97] = some ns := rfl
  rw [exF_some (n := ndRef [98]) rfl f1, exF_some (n := ndRef [97]) rfl f2, exF_stays ht hp]
  simp only [exF_nil]
theorem nm_c (ns : List Nd) : expN [ndRef [99]] (nmD ns) = .error 61 := by
  unfold expN
  have f1 : findD (nmD ns) [99] = some [ndRef [99]] := rfl
  have f2 : findD (remD (nmD ns) (ndRef [99]).name) [99] = none := rfl
  rw [exF_some (n := ndRef [99]) rfl f1, exF_none (n := ndRef [99]) rfl f2]
  rfl
theorem nm_d (ns : List Nd) : expN [ndRef [100]] (nmD ns) = .error 61 := by
  unfold expN
  have f1 : findD (nmD ns) [100] = some [ndRef [101]] := rfl
  have f2 : findD (remD (nmD ns) (ndRef [100]).name) [101] = some [ndRef [100]] := rfl
  have f3 : findD (remD (remD (nmD ns) (ndRef [100]).name) (ndRef [101]).name) [100] = none := rfl
  rw [exF_some (n := ndRef [100]) rfl f1, exF_some (n := ndRef [101]) rfl f2, exF_none (n := ndRef [100]) rfl f3]
  rfl
theorem nm_f (ns : List Nd) : expN [ndRef [102]] (nmD ns) = .error 60 := by
  unfold expN
  have f1 : findD (nmD ns) [102] = none := rfl
  rw [exF_none (n := ndRef [102]) rfl f1]
  rfl
theorem nm_size {gs : List Gd} : ∀ d ∈ nmG gs, d.1.size ≤ maxLen := fun d hd => by
  unfold nmG at hd
  simp only [List.mem_cons, List.not_mem_nil, or_false] at hd
  unfold maxLen
  rcases hd with rfl | rfl | rfl | rfl | rfl <;> (show 1 ≤ _; omega)
theorem nm_dok {gs : List Gd} {ns : List Nd} (hg : GN gs ns) (ht : TreeN ns) : DOk (nmG gs) := dok_of (nm_gd hg ht) (by show 5 ≤ 1000; omega) nm_size
theorem nm_dok2 {gs : List Gd} {ns : List Nd} (hg : GN gs ns) (ht : TreeN ns) : DOk (nmG gs ++ [(aA, gs)]) := by
  have h := nm_dok hg ht
  have hm : ∀ d ∈ nmG gs ++ [(aA, gs)], d ∈ nmG gs := fun d hd => by
    rcases List.mem_append.1 hd with q | q
    · exact q
    · rw [List.mem_singleton] at q
      subst q
      unfold nmG
      simp
  exact ⟨by show 6 ≤ 1000; omega, fun d hd => h.nm d (hm d hd), fun d hd => h.few d (hm d hd), fun d hd => h.nds d (hm d hd)⟩
section
variable {P : Program} {ops : Array Oper} {rest : List Oper} {o : Oper} {a : Act} {w : World} {Q : Exit → Act → World → Prop}
/-- An operation behind a guard that is met. -/
theorem wpList_wanted (hw : Region.wanted o (yielded ops a.tmps) = true) (h : ∀ K : Act → World → Prop, (∀ a w, wpList P ops Q rest a w → K a w) → o.wp P a w K Q) : wpList P ops Q (o :: rest) a w :=
  wpList_step fun K hK => by rw [if_pos hw]; exact h K hK
theorem load_midG (hw : Region.wanted o (yielded ops a.tmps) = true) (ty : TypeId) (x : Operand) (ho : o.op = .load ty x)
    (b off : Nat) (hx : a.eval x = .pointer (some ⟨b, off, none⟩)) (cs : List Value) (d : TypeDesc) (hc : w.rangeAt b off cs)
    (hu : P.underlying ty = some d) (hd : d.isRow = true) (hi : (P.info? ty).map (·.size) = some cs.length)
    (h : wpList P ops Q rest (a.put o.dst (.agg cs.toArray)) w) : wpList P ops Q (o :: rest) a w :=
  wpList_wanted hw fun _ hK => wp_load_mid ty x ho b off hx cs d hc hu hd hi (hK _ _ h)
theorem append_liesG (hw : Region.wanted o (yielded ops a.tmps) = true) (s x : Operand) (t : TypeId)
    (ho : o.op = .call { callee := .builtin .append, args := #[s, x], argTypes := #[t, t] })
    (base : Nat) (e : TypeId) (i : TypeInfo) (z : Value) (size bytes : Nat) (ht : P.underlying t = some (.slice e)) (hi : P.info? e = some i) (hz : i.zero = some z)
    (hsize : i.size = size) (hby : i.bytes = bytes) (hzs : z.cells.size = size) (hsz : 0 < size)
    (v : Value) (n : Nat) (xs : List Value) (hs : a.eval s = v) (hown : w.ownsRow base e size v n xs)
    (ad : Addr) (m c : Nat) (news : List Value) (hx : a.eval x = .slice (some ad) m c) (hl : news.length = m * size) (hnews : ∀ j u, news[j]? = some u → w.cell? (ad.add j) = some u) (h1 : ∀ u ∈ news, u.oneCell' = true)
    (hm : 0 < m) (h63 : n + m ≤ maxLen) (hbytes : (n + m) * bytes ≤ 140737488355328) (hbase : base ≤ w.heap.size) (H : Nat) (hH : w.heap.size = H)
    (h : ∀ g cap w', w'.ownsRow base e size (.slice (some ⟨g, 0, none⟩) (n + m) cap) (n + m) (xs ++ news) → w.grownBy w' v.ownBlock → (v.ownBlock = some g ∨ g = H) → g < w'.heap.size → wpList P ops Q rest (a.put o.dst (.slice (some ⟨g, 0, none⟩) (n + m) cap)) w') : wpList P ops Q (o :: rest) a w :=
  wpList_wanted hw fun _ hK => wp_append_lies w s x t ho base e i z size bytes ht hi hz hsize hby hzs hsz v n xs hs hown ad m c news hx hl hnews h1 hm h63 hbytes hbase H hH fun g cap w' h2 h3 h4 h5 => hK _ _ (h g cap w' h2 h3 h4 h5)
end
/-- The five Defs in a row of our own. -/
structure NmS (w : World) (gs : List Gd) (A : Option Addr) (b : Nat) (l : List DR) (wr : World) : Prop where
  nds : Nds wr wr.heap.size A gs
  map : l.map (·.1) = nmG gs
  its : ∀ x ∈ l, Nds wr b x.2.1 x.1.2 ∧ x.1.2.length ≤ x.2.2
  lt : b < wr.heap.size
  own : wr.ownsRow w.heap.size 35 2 (.slice (some ⟨b, 0, none⟩) 5 5) 5 (dfsC l)
  bel : Below w.heap.size w wr
theorem NmS.len {w : World} {gs : List Gd} {A : Option Addr} {b : Nat} {l : List DR} {wr : World} (h : NmS w gs A b l wr) : l.length = 5 := by
  have := h.map
  rw [← List.length_map (f := (·.1)), this]
  rfl
theorem NmS.next {w : World} {gs : List Gd} {A : Option Addr} {b : Nat} {l : List DR} {wr w' : World} (h : NmS w gs A b l wr) (hb : Below wr.heap.size wr w') : NmS w gs A b l w' :=
  ⟨(h.nds.below hb).more hb.size, h.map, fun x hx => ⟨(h.its x hx).1.below (hb.mono (Nat.le_of_lt h.lt)), (h.its x hx).2⟩, Nat.lt_of_lt_of_le h.lt hb.size, own_below h.own hb (Nat.le_refl _), h.bel.trans (hb.mono h.bel.size)⟩
theorem NmS.dfs {w : World} {gs : List Gd} {A : Option Addr} {b : Nat} {l : List DR} {wr : World} (h : NmS w gs A b l wr) : Dfs wr wr.heap.size (some ⟨b, 0, none⟩) (nmG gs) := by
  have ho := h.own
  have hl := h.len
  obtain ⟨A2, c2, hv, hD⟩ := dfs_own (l := l) (v := .slice (some ⟨b, 0, none⟩) 5 5) (B2 := wr.heap.size) (by rw [hl]; exact ho) (fun k hk => (ho.lt k hk).2) (fun x hx => ⟨(h.its x hx).1.more (Nat.le_of_lt h.lt), (h.its x hx).2⟩)
  rw [h.map] at hD hv
  cases hv
  exact hD
theorem NmS.call {w : World} {gs : List Gd} {ns : List Nd} {A : Option Addr} {b : Nat} {l : List DR} {wr : World} (h : NmS w gs A b l wr) (hg : GN gs ns) (ht : TreeN ns) {A7 : Option Addr} {q : ByteArray} (hN : Nds wr wr.heap.size A7 [refG q]) (hq : shapeB (ndRef (bs q)) = true) :
    Calls Try.prog 10 #[.slice A7 1 1, .slice (some ⟨b, 0, none⟩) 5 5] wr fun e w' => XpR wr (expN [ndRef (bs q)] (nmD ns)) e w' :=
  xpand_ok A7 1 [refG q] [ndRef (bs q)] (some ⟨b, 0, none⟩) 5 (nmG gs) (nmD ns) wr hN (Nat.le_refl _) (gn_sm (gn_ref1 q) (ref_tree hq)) h.dfs (nm_dok hg ht) (gn_ref1 q) (ref_tree hq) (nm_right hg ht) (nm_gd hg ht)
set_option maxHeartbeats 4000000 in
theorem lawName_any (A : Option Addr) (c : Nat) (gs : List Gd) (w : World) (hN : Nds w w.heap.size A gs) (hc : gs.length ≤ c) (hm : gs.length ≤ maxLen) (hsm : Small gs) :
    Calls Try.prog 7 #[.slice A gs.length c] w fun e w' => e = .returned (.bool true) ∧ Below w.heap.size w w' := by
  have hsh := shown_any w
  unfold maxLen at hm
  by_cases h100 : 100 < gs.length
  · have h1d : decide ((100 : Int) < (gs.length : Int)) = true := decide_eq_true (by omega)
    have h1e : decide (100 < gs.length) = true := decide_eq_true h100
    clear hN hsm
    generalize gs.length = n at *
    go_enter Try.func7, Try.ntmps7
    go_wp2_with fail
    refine hsh.mono ?_
    rintro e w1 ⟨rfl, b1⟩
    have HB := hidd b1
    clear hsh b1
    go_wp2
    go_ret
    exact ⟨rfl, HB.out⟩
  · have h1d : decide ((100 : Int) < (gs.length : Int)) = false := decide_eq_false (by omega)
    have h1e : decide (100 < gs.length) = false := decide_eq_false h100
    have hP : ∀ u, Below w.heap.size w u → Calls Try.prog 22 #[.slice A gs.length c] u fun e w' => PlnR gs u e w' := fun u hu => plain_any A c gs u ((hN.below hu).more hu.size) (by omega) hsm
    have HN := hidd hN
    have HC := hidd hc
    clear hN hsm hc
    generalize hn : gs.length = n at *
    have HL := hidd hn
    clear hn
    go_enter Try.func7, Try.ntmps7
    go_wp2_with fail
    refine hsh.mono ?_
    rintro e w1 ⟨rfl, b1⟩
    have hp := hP w1 b1
    have HB1 := hidd b1
    clear hsh b1 hP
    go_wp2_with fail
    refine hp.mono ?_
    rintro e w2 ⟨z, rfl, hz, b2⟩
    have B2 := HB1.out.trans (b2.mono HB1.out.size)
    clear hp b2 HB1
    cases z with
    | false =>
      have HBE := hidd B2
      clear B2 hz
      go_wp2
      go_ret
      exact ⟨rfl, HBE.out⟩
    | true =>
      have hpg := hz.1 rfl
      obtain ⟨ns, hg, ht⟩ := gn_tree hpg.2
      have hpn := (plain_tree hg ht).1 hpg
      have HT : Hid (GN gs ns ∧ TreeN ns ∧ PlainN ns) := ⟨hg, ht, hpn⟩
      have h3 := ref_any aA w2
      have HB2 := hidd B2
      clear hz hpg hg ht hpn B2
      go_wp2_with fail
      refine h3.mono ?_
      rintro e w3 ⟨A3, rfl, N3, b3⟩
      have h4 := ref_any cA w3
      clear h3
      go_wp2_with fail
      refine h4.mono ?_
      rintro e w4 ⟨A4, rfl, N4, b4⟩
      have h5 := ref_any eA w4
      clear h4
      go_wp2_with fail
      refine h5.mono ?_
      rintro e w5 ⟨A5, rfl, N5, b5⟩
      have h6 := ref_any dA w5
      clear h5
      go_wp2_with fail
      refine h6.mono ?_
      rintro e w6 ⟨A6, rfl, N6, b6⟩
      clear h6
      have b46 := b5.trans (b6.mono b5.size)
      have b36 := b4.trans (b46.mono b4.size)
      have b26 := b3.trans (b36.mono b3.size)
      have B6 := HB2.out.trans (b26.mono HB2.out.size)
      have h7 := ref_any bA (w6.alloc (.cells #[.string { data := #[97] }, .slice A n c, .string { data := #[98] }, .slice A3 1 1, .string { data := #[99] }, .slice A4 1 1, .string { data := #[100] }, .slice A5 1 1, .string { data := #[101] }, .slice A6 1 1] 35))
      have HS : Hid (∃ l, NmS w gs A w6.heap.size l (w6.alloc (.cells #[.string { data := #[97] }, .slice A n c, .string { data := #[98] }, .slice A3 1 1, .string { data := #[99] }, .slice A4 1 1, .string { data := #[100] }, .slice A5 1 1, .string { data := #[101] }, .slice A6 1 1] 35)) ∧ dfsC l = [.string { data := #[97] }, .slice A n c, .string { data := #[98] }, .slice A3 1 1, .string { data := #[99] }, .slice A4 1 1, .string { data := #[100] }, .slice A5 1 1, .string { data := #[101] }, .slice A6 1 1]) := by
        have bA7 : Below w6.heap.size w6 (w6.alloc (.cells #[.string { data := #[97] }, .slice A n c, .string { data := #[98] }, .slice A3 1 1, .string { data := #[99] }, .slice A4 1 1, .string { data := #[100] }, .slice A5 1 1, .string { data := #[101] }, .slice A6 1 1] 35)) := (Below.refl _ _).alloc (Nat.le_refl _) _
        have b57 := b6.trans (bA7.mono b6.size)
        have b47 := b46.trans (bA7.mono b46.size)
        have b37 := b36.trans (bA7.mono b36.size)
        have B7 := B6.trans (bA7.mono B6.size)
        have hdl : dfsC [((aA, gs), A, c), ((bA, [refG aA]), A3, 1), ((cA, [refG cA]), A4, 1), ((dA, [refG eA]), A5, 1), ((eA, [refG dA]), A6, 1)] = [.string { data := #[97] }, .slice A n c, .string { data := #[98] }, .slice A3 1 1, .string { data := #[99] }, .slice A4 1 1, .string { data := #[100] }, .slice A5 1 1, .string { data := #[101] }, .slice A6 1 1] := by rw [← HL.out]; rfl
        refine ⟨[((aA, gs), A, c), ((bA, [refG aA]), A3, 1), ((cA, [refG cA]), A4, 1), ((dA, [refG eA]), A5, 1), ((eA, [refG dA]), A6, 1)], ⟨(HN.out.below B7).more B7.size, rfl, fun x hx => ?_, by simp, ?_, B7⟩, hdl⟩
        · simp only [List.mem_cons, List.not_mem_nil, or_false] at hx
          rcases hx with rfl | rfl | rfl | rfl | rfl
          · exact ⟨(HN.out.below B7).more B6.size, by rw [HL.out]; exact HC.out⟩
          · exact ⟨(N3.below b37).more b36.size, Nat.le_refl _⟩
          · exact ⟨(N4.below b47).more b46.size, Nat.le_refl _⟩
          · exact ⟨(N5.below b57).more b6.size, Nat.le_refl _⟩
          · exact ⟨N6.below bA7, Nat.le_refl _⟩
        · rw [hdl]
          exact World.ownsRow_lit w6 #[.string { data := #[97] }, .slice A n c, .string { data := #[98] }, .slice A3 1 1, .string { data := #[99] }, .slice A4 1 1, .string { data := #[100] }, .slice A5 1 1, .string { data := #[101] }, .slice A6 1 1] 5 B6.size (by unfold maxLen; omega) rfl
      clear b3 b4 b5 b6 b46 b36 b26 B6 N3 N4 N5 N6 HB2
      go_wp2_with fail
      refine h7.mono ?_
      clear h7
      obtain ⟨l, S7, hdl⟩ := HS.out
      clear HS
      generalize w6.alloc (.cells #[.string { data := #[97] }, .slice A n c, .string { data := #[98] }, .slice A3 1 1, .string { data := #[99] }, .slice A4 1 1, .string { data := #[100] }, .slice A5 1 1, .string { data := #[101] }, .slice A6 1 1] 35) = w7 at *
      generalize w6.heap.size = b at *
      have HDL := hidd hdl
      clear hdl
      rintro e w8 ⟨A8, rfl, N8, b8⟩
      have S8 := S7.next b8
      have x8 := S8.call HT.out.1 HT.out.2.1 N8 rfl
      rw [show bs bA = [98] from rfl, nm_b HT.out.2.1 HT.out.2.2] at x8
      have HS8 := hidd S8
      clear S7 b8 N8 S8
      go_wp2_with fail
      refine x8.mono ?_
      rintro e w9 ⟨b9, A9, c9, go, rfl, N9, G9, k9⟩
      have HS9 := hidd (HS8.out.next b9)
      have HN9 := hidd N9
      have HG9 := hidd G9
      have y9 := ref_any cA w9
      clear x8 HS8 b9 N9 G9 k9
      go_wp2_with fail
      refine y9.mono ?_
      rintro e w10 ⟨A10, rfl, N10, b10⟩
      have HS10 := hidd (HS9.out.next b10)
      have HN10 := hidd ((HN9.out.below b10).more b10.size)
      have x10 := HS10.out.call HT.out.1 HT.out.2.1 N10 rfl
      rw [show bs cA = [99] from rfl, nm_c] at x10
      clear y9 HS9 HN9 N10 b10
      go_wp2_with fail
      refine x10.mono ?_
      rintro e w11 ⟨b11, h11⟩
      have h11' : e = .returned (.tuple #[.slice none 0 0, .int .i64 61]) := h11
      subst h11'
      have HS11 := hidd (HS10.out.next b11)
      have HN11 := hidd ((HN10.out.below b11).more b11.size)
      have y11 := ref_any dA w11
      clear x10 h11 b11 HS10 HN10
      go_wp2_with fail
      refine y11.mono ?_
      rintro e w12 ⟨A12, rfl, N12, b12⟩
      have HS12 := hidd (HS11.out.next b12)
      have HN12 := hidd ((HN11.out.below b12).more b12.size)
      have x12 := HS12.out.call HT.out.1 HT.out.2.1 N12 rfl
      rw [show bs dA = [100] from rfl, nm_d] at x12
      clear y11 HS11 HN11 N12 b12
      go_wp2_with fail
      refine x12.mono ?_
      rintro e w13 ⟨b13, h13⟩
      have h13' : e = .returned (.tuple #[.slice none 0 0, .int .i64 61]) := h13
      subst h13'
      have HS13 := hidd (HS12.out.next b13)
      have HN13 := hidd ((HN12.out.below b13).more b13.size)
      have y13 := ref_any fA w13
      clear x12 h13 b13 HS12 HN12
      go_wp2_with fail
      refine y13.mono ?_
      rintro e w14 ⟨A14, rfl, N14, b14⟩
      have HS14 := hidd (HS13.out.next b14)
      have HN14 := hidd ((HN13.out.below b14).more b14.size)
      have x14 := HS14.out.call HT.out.1 HT.out.2.1 N14 rfl
      rw [show bs fA = [102] from rfl, nm_f] at x14
      clear y13 HS13 HN13 N14 b14
      go_wp2_with fail
      refine x14.mono ?_
      rintro e w15 ⟨b15, h15⟩
      have h15' : e = .returned (.tuple #[.slice none 0 0, .int .i64 60]) := h15
      subst h15'
      have HS15 := hidd (HS14.out.next b15)
      have N15 := (HN14.out.below b15).more b15.size
      have hsa := same_tree (c := c9) (c' := c) N15 HS15.out.nds HG9.out HT.out.1 HT.out.2.1
      rw [HL.out] at hsa
      clear x14 h15 b15 HS14 HN14 N15
      go_wp2_with fail
      refine hsa.mono ?_
      rintro e w16 ⟨rfl, b16⟩
      have HS16 := hidd (HS15.out.next b16)
      have hdr := dright_any (some ⟨b, 0, none⟩) 5 (nmG gs) w16 HS16.out.dfs (nm_dok HT.out.1 HT.out.2.1)
      have hdr' : Calls Try.prog 20 #[.slice (some ⟨b, 0, none⟩) 5 5] w16 fun e w' => DRgt (nmG gs) w16 e w' := hdr
      clear hsa b16 HS15 hdr
      go_wp2_with fail
      refine hdr'.mono ?_
      rintro e w17 ⟨z, rfl, hz, b17⟩
      have hz2 : z = true := hz.2 (nm_right HT.out.1 HT.out.2.1)
      subst hz2
      have S17 := HS16.out.next b17
      clear hdr' hz b17 HS16
      obtain ⟨i0, hi0, hz0, hz1, hz2⟩ := info_parts def_info
      have hr17 : w17.rangeAt b 0 (dfL (aA, gs) A c) := fun j v hv => by
        have hj : j < 2 := by
          rcases Nat.lt_or_ge j 2 with h | h
          · exact h
          · rw [List.getElem?_eq_none (by show 2 ≤ j; exact h)] at hv; cases hv
        have := S17.own.cellAt j (by omega)
        rw [Nat.zero_add, this, HDL.out]
        unfold dfL at hv
        rw [← HL.out]
        rcases (by omega : j = 0 ∨ j = 1) with rfl | rfl
        · exact hv
        · exact hv
      have hown := S17.own.alloc (.cells #[.string { data := #[97] }, .slice A n c] 35)
      have hnews : ∀ j u, ([.string { data := #[97] }, .slice A n c] : List Value)[j]? = some u → (w17.alloc (.cells #[.string { data := #[97] }, .slice A n c] 35)).cell? ((⟨w17.heap.size, 0, none⟩ : Addr).add j) = some u := World.news_of_block (RowA.new w17 35 #[.string { data := #[97] }, .slice A n c])
      have hH : (w17.alloc (.cells #[.string { data := #[97] }, .slice A n c] 35)).heap.size = w17.heap.size + 1 := World.size_alloc ..
      have hbase : w.heap.size ≤ (w17.alloc (.cells #[.string { data := #[97] }, .slice A n c] 35)).heap.size := by rw [hH]; have := S17.bel.size; omega
      have HS17 := hidd S17
      clear S17
      rw [show dfL (aA, gs) A c = [.string { data := #[97] }, .slice A n c] from by unfold dfL; rw [HL.out]] at hr17
      go_wp2_with (first
        | refine load_midG rfl 35 (.tmp 96) rfl b 0 rfl [.string { data := #[97] }, .slice A n c] _ hr17 Try.underlying35 rfl (by kernel_rfl) ?_
        | (refine append_liesG rfl _ _ _ rfl w.heap.size 35 i0 (.agg zeroDC) 2 40 Try.underlying23 hi0 hz0 hz1 hz2 rfl (by omega) _ 5 (dfsC l) rfl hown ⟨w17.heap.size, 0, none⟩ 1 1 [.string { data := #[97] }, .slice A n c] rfl rfl hnews (by simp [Value.oneCell']) (by omega) (by simp only [maxLen]; omega) (by omega) hbase (w17.heap.size + 1) hH ?_; intro g6 cap6 w18 hown6 hgrow hat hlt6; refine Hid.out ?_))
      have bb : Below b w17 w18 := bel_row ((Below.refl b w17).alloc (Nat.le_of_lt HS17.out.lt) (.cells #[.string { data := #[97] }, .slice A n c] 35)) (by rw [hH]; have := HS17.out.lt; omega) hgrow (fun q hq => by cases hq; exact Nat.le_refl _)
      have B18 : Below w.heap.size w w18 := HS17.out.bel.trans (bel_row ((Below.refl w.heap.size w17).alloc HS17.out.bel.size (.cells #[.string { data := #[97] }, .slice A n c] 35)) hbase hgrow (fun q hq => (hown.lt q hq).1))
      have ho2 : w18.ownsRow w.heap.size 35 2 (.slice (some ⟨g6, 0, none⟩) 6 cap6) (l ++ [((aA, gs), A, c)]).length (dfsC (l ++ [((aA, gs), A, c)])) := by
        rw [← dfsC_snoc, List.length_append, HS17.out.len, show dfL (aA, gs) A c = [.string { data := #[97] }, .slice A n c] from by unfold dfL; rw [HL.out]]
        exact hown6
      obtain ⟨A2, c2, hv, hD⟩ := dfs_own (B2 := w18.heap.size) ho2 (fun k hk => (ho2.lt k hk).2) (fun x hx => by
        rcases List.mem_append.1 hx with q | q
        · have := HS17.out.its x q
          exact ⟨(this.1.below bb).more (Nat.le_trans (Nat.le_of_lt HS17.out.lt) bb.size), this.2⟩
        · rw [List.mem_singleton] at q
          subst q
          exact ⟨(HN.out.below B18).more B18.size, by rw [HL.out]; exact HC.out⟩)
      rw [List.map_append, HS17.out.map] at hv hD
      have hD2 : Dfs w18 w18.heap.size A2 (nmG gs ++ [(aA, gs)]) := hD
      have hv2 : Value.slice (some ⟨g6, 0, none⟩) 6 cap6 = .slice A2 6 c2 := hv
      cases hv2
      have hdr := dright_any (some ⟨g6, 0, none⟩) cap6 (nmG gs ++ [(aA, gs)]) w18 hD2 (nm_dok2 HT.out.1 HT.out.2.1)
      have hdr' : Calls Try.prog 20 #[.slice (some ⟨g6, 0, none⟩) 6 cap6] w18 fun e w' => DRgt (nmG gs ++ [(aA, gs)]) w18 e w' := hdr
      have HB18 := hidd B18
      clear hown hnews hH hbase hown6 hgrow hat hlt6 bb B18 ho2 hv hD hD2 hdr hr17 HS17
      refine Lib.hid ?_
      go_wp2_with fail
      refine hdr'.mono ?_
      rintro e w19 ⟨z, rfl, hz, b19⟩
      have hz2 : z = false := by
        cases z with
        | false => rfl
        | true => exact absurd (hz.1 rfl) nm_twice
      subst hz2
      have HBE := hidd (HB18.out.trans (b19.mono HB18.out.size))
      clear hdr' hz b19
      go_wp2
      go_ret
      exact ⟨rfl, HBE.out⟩
end Go.Proofs.Ytnajcigfgniflaa.Sy.Ap

/- The landed Expand. -/
import Derived.Test.YtgppanbikfobbaaAm
import Derived.Test.YtgppanbikfobbaaSd
namespace Go.Proofs.Ytgppanbikfobbaa.Sy.Ap
open Go.RowKit
set_option maxRecDepth 100000
set_option linter.unusedVariables false

def df0 : Df := ([], [])
/-- Defs as plain lists. -/
structure GD (ds : List DG) (D : List Df) : Prop where
  len : ds.length = D.length
  at_ : ∀ i, i < ds.length → bs (ds.getD i dg0).1 = (D.getD i df0).1 ∧ GN (ds.getD i dg0).2 (D.getD i df0).2
  trs : TreesD D
theorem gn_tree {gs : List Gd} (h : RightG gs) : ∃ ns, GN gs ns ∧ TreeN ns := by
  obtain ⟨ns, h1, h2, h3, h4, h5⟩ := h
  exact ⟨ns, h1, h2, h3, h4, h5⟩
theorem tree_rg {gs : List Gd} {ns : List Nd} (h : GN gs ns) (ht : TreeN ns) : RightG gs := ⟨ns, h, ht.shp, ht.pos, ht.few, ht.frs⟩
theorem gd_of {ds : List DG} (h : RightDs ds) : ∃ D, GD ds D := by
  obtain ⟨h1, h2⟩ := h
  clear h2
  induction ds with
  | nil => exact ⟨[], rfl, fun i hi => absurd hi (Nat.not_lt_zero _), fun d hd => absurd hd List.not_mem_nil⟩
  | cons d r ih =>
    obtain ⟨D, hD⟩ := ih (fun x hx => h1 x (by simp [hx]))
    obtain ⟨ns, hn, ht⟩ := gn_tree (h1 d (by simp)).2
    refine ⟨(bs d.1, ns) :: D, by simp [hD.len], fun i hi => ?_, fun x hx => ?_⟩
    · cases i with
      | zero => exact ⟨rfl, hn⟩
      | succ i =>
        have := hD.at_ i (by simpa using hi)
        simpa using this
    · rcases List.mem_cons.1 hx with q | q
      · subst q; exact ht
      · exact hD.trs x q
theorem GD.mem {ds : List DG} {D : List Df} (h : GD ds D) {d : DG} (hd : d ∈ ds) : ∃ t, (bs d.1, t) ∈ D ∧ GN d.2 t := by
  obtain ⟨i, hi, rfl⟩ := List.getElem_of_mem hd
  have hi2 : i < D.length := by rw [← h.len]; exact hi
  have h1 := h.at_ i hi
  have e1 : ds.getD i dg0 = ds[i] := by rw [List.getD_eq_getElem?_getD, List.getElem?_eq_getElem hi]; rfl
  have e2 : D.getD i df0 = D[i] := by rw [List.getD_eq_getElem?_getD, List.getElem?_eq_getElem hi2]; rfl
  rw [e1, e2] at h1
  exact ⟨D[i].2, by rw [h1.1]; exact List.getElem_mem hi2, h1.2⟩
theorem GD.back {ds : List DG} {D : List Df} (h : GD ds D) {x : Df} (hx : x ∈ D) : ∃ d ∈ ds, bs d.1 = x.1 := by
  obtain ⟨i, hi, rfl⟩ := List.getElem_of_mem hx
  have hi2 : i < ds.length := by rw [h.len]; exact hi
  have h1 := h.at_ i hi2
  have e1 : ds.getD i dg0 = ds[i] := by rw [List.getD_eq_getElem?_getD, List.getElem?_eq_getElem hi2]; rfl
  have e2 : D.getD i df0 = D[i] := by rw [List.getD_eq_getElem?_getD, List.getElem?_eq_getElem hi]; rfl
  rw [e1, e2] at h1
  exact ⟨ds[i], List.getElem_mem hi2, h1.1⟩
theorem GD.apart {ds : List DG} {D : List Df} (h : GD ds D) (hr : RightDs ds) : D.Pairwise fun a b => a.1 ≠ b.1 := by
  rw [List.pairwise_iff_getElem]
  intro i j hi hj hij q
  have hi2 : i < ds.length := by rw [h.len]; exact hi
  have hj2 : j < ds.length := by rw [h.len]; exact hj
  have h1 := (h.at_ i hi2).1
  have h2 := (h.at_ j hj2).1
  have e1 : ds.getD i dg0 = ds[i] := by rw [List.getD_eq_getElem?_getD, List.getElem?_eq_getElem hi2]; rfl
  have e2 : D.getD i df0 = D[i] := by rw [List.getD_eq_getElem?_getD, List.getElem?_eq_getElem hi]; rfl
  have e3 : ds.getD j dg0 = ds[j] := by rw [List.getD_eq_getElem?_getD, List.getElem?_eq_getElem hj2]; rfl
  have e4 : D.getD j df0 = D[j] := by rw [List.getD_eq_getElem?_getD, List.getElem?_eq_getElem hj]; rfl
  rw [e1, e2] at h1
  rw [e3, e4] at h2
  exact (List.pairwise_iff_getElem.1 hr.2) i j hi2 hj2 hij (bs_inj (h1.trans (q.trans h2.symm)))
theorem trm_of {w : World} {b n B : Nat} {ds : List DG} {D : List Df} {f : ByteArray → Option Value} (h : MapT w b n B ds f) (hG : GD ds D) (hr : RightDs ds) (hok : DOk ds) : TrM w B D f := by
  have hp := hG.apart hr
  refine ⟨fun s hs => ?_, fun s v hv => ?_⟩
  · cases hf : findD D (bs s) with
    | none => rfl
    | some t =>
      obtain ⟨d, h1, h2⟩ := hG.back (findD_mem hf)
      exact absurd (bs_inj h2) ((h.none s).1 hs d h1)
  · obtain ⟨d, h1, h2, A, c, h3, h4, h5⟩ := h.some s v hv
    obtain ⟨t, h6, h7⟩ := hG.mem h1
    subst h2
    exact ⟨A, c, d.2, t, h3, h4, h5, h7, (findD_iff hp _ _).2 h6, hG.trs _ h6, hok.nds d h1⟩
/-- The nodes that were put. -/
theorem es_nds {B : Nat} {w : World} {b bt bo nt no : Nat} {f g : ByteArray → Option Value} {wv nv rv : Value} {wl : List WkE} {l : List NR} {rt : List Nat} (p : ES B w b bt bo nt no f g wv nv rv wl l rt) : ∃ A c, nv = .slice A l.length c ∧ Nds w w.heap.size A (l.map (·.1)) ∧ l.length ≤ c := by
  obtain ⟨A, c, hv⟩ := own_form p.nodes
  have hcap := own_cap (by have := p.nodes; rw [hv] at this; exact this)
  rcases Nat.eq_zero_or_pos l.length with h0 | h0
  · refine ⟨A, c, hv, fun hne => absurd ?_ hne, hcap⟩
    rw [List.eq_nil_of_length_eq_zero h0]
    rfl
  · obtain ⟨g, c', hv', _, hg⟩ := own_pos p.nodes h0
    rw [hv] at hv'
    cases hv'
    refine ⟨_, c, hv, fun _ => ⟨g, 0, rfl, hg, fun i hi => ?_⟩, hcap⟩
    rw [List.length_map] at hi
    have hx : l[i]? = some l[i] := List.getElem?_eq_getElem hi
    have e : (l.map (·.1)).getD i gd0 = l[i].1 := by rw [List.getD_eq_getElem?_getD, List.getElem?_map, hx]; rfl
    rw [e]
    obtain ⟨k1, -⟩ := p.kids _ (List.getElem_mem hi)
    refine ⟨l[i].2.1, l[i].2.2, fun hne => ?_, fun j u hu => ?_⟩
    · have hpos : 0 < l[i].1.l.length := by
        rcases Nat.eq_zero_or_pos l[i].1.l.length with q | q
        · exact absurd (List.eq_nil_of_length_eq_zero q) hne
        · exact q
      obtain ⟨q, cq, hq, _, hlt⟩ := own_pos k1 hpos
      have hA : l[i].2.1 = some ⟨q, 0, none⟩ := by injection hq
      refine ⟨q, 0, hA, hlt, fun j hj => ?_⟩
      have := k1.cells (g := q) (by rw [hq]; rfl) j (.int .i64 (l[i].1.l.getD j 0)) (by
        unfold ints
        rw [List.getElem?_map, List.getElem?_eq_getElem hj, List.getD_eq_getElem?_getD, List.getElem?_eq_getElem hj]
        rfl)
      rw [addr_add] at this
      rw [Nat.zero_add]
      exact this
    · have hj : j < 9 := by
        rcases Nat.lt_or_ge j 9 with h | h
        · exact h
        · rw [List.getElem?_eq_none (by rw [gdL_len]; exact h)] at hu; cases hu
      have := p.nodes.cells (g := g) (by rw [hv]; rfl) (i * 9 + j) u (by rw [nodesC_at l i j _ hx hj]; exact hu)
      rw [Nat.zero_add]
      rw [addr_add] at this
      exact this
theorem exF_err_ (all : List Nat → Bool) : ∀ (k : Nat) (D : List Df), D.length < k → ∀ (l : List Nd) (x : X) (er : Nat), exF all D l x = .error er → 1 ≤ er := by
  intro k
  induction k with
  | zero => intro D hk; omega
  | succ k ihk =>
    intro D hk l
    induction l with
    | nil => intro x er h; rw [exF_nil] at h; cases h
    | cons n r ih =>
      intro x er h
      by_cases h6 : n.op = 6
      · cases hf : findD D n.name with
        | none =>
          rw [exF_none h6 hf] at h
          cases h
          split <;> omega
        | some t =>
          rw [exF_some h6 hf] at h
          cases hx : exF all (remD D n.name) t x with
          | error e =>
            rw [hx] at h
            cases h
            exact ihk _ (by have := remD_lt hf; omega) t x er hx
          | ok x' =>
            rw [hx] at h
            exact ih x' er h
      · by_cases hl : 1024 ≤ x.out.length
        · rw [exF_long h6 hl] at h
          cases h
          omega
        · rw [exF_put h6 hl] at h
          exact ih _ er h
theorem exF_err {all : List Nat → Bool} {D : List Df} {l : List Nd} {x : X} {er : Nat} (h : exF all D l x = .error er) : 1 ≤ er := exF_err_ all (D.length + 1) D (by omega) l x er h
/-- What Expand tells of trees. -/
def XpR (w : World) (R : Except Nat (List Nd)) (e : Ending) (w' : World) : Prop :=
  Below w.heap.size w w' ∧ match R with
    | .error er => e = .returned (.tuple #[.slice none 0 0, .int .i64 (er : Int)])
    | .ok o => ∃ A c go, e = .returned (.tuple #[.slice A go.length c, .int .i64 0]) ∧ Nds w' w'.heap.size A go ∧ GN go o ∧ go.length ≤ c
set_option maxHeartbeats 1000000 in
theorem xpand_bad (A : Option Addr) (c : Nat) (gs : List Gd) (A2 : Option Addr) (c2 : Nat) (ds : List DG) (w : World) (hN : Nds w w.heap.size A gs) (hl : gs.length ≤ 2000) (hsm : Small gs) (hx : Dfs w w.heap.size A2 ds) (hok : DOk ds) (hno : ¬ (RightG gs ∧ RightDs ds)) :
    Calls Try.prog 6 #[.slice A gs.length c, .slice A2 ds.length c2] w fun e w' => XpR w (.error 1) e w' := by
  have hm := mean_any A2 c2 ds w hx hok
  have hR : ∀ u, Below w.heap.size w u → Calls Try.prog 20 #[.slice A gs.length c] u fun e w' => RgtR gs u e w' := fun u hu => right_any A c gs u ((hN.below hu).more hu.size) hl hsm
  have HNO := hidd hno
  clear hx hok hN hno hsm hl
  generalize hgl : gs.length = n at *
  generalize hdl : ds.length = m at *
  clear hgl hdl
  go_enter Try.func6, Try.ntmps6
  go_wp2_with fail
  refine hm.mono ?_
  rintro e w1 ⟨h | ⟨h, rfl⟩, hb⟩
  · obtain ⟨h1, b, k, f, rfl, -⟩ := h
    have H1 := hidd h1
    have hR1 := hR w1 hb
    clear h1 hm hR
    go_wp2_with fail
    refine hR1.mono ?_
    rintro e w2 ⟨z, rfl, hz, hb2⟩
    have hz2 : z = false := by
      cases z with
      | false => rfl
      | true => exact absurd ⟨hz.1 rfl, H1.out⟩ HNO.out
    subst hz2
    have HB := hidd (hb.trans (hb2.mono hb.size))
    clear hz hb hb2 hR1
    go_wp2
    go_ret2
    exact ⟨HB.out, rfl⟩
  · clear hm hR
    have HB := hidd hb
    clear hb
    go_wp2
    go_ret2
    exact ⟨HB.out, rfl⟩
set_option maxHeartbeats 1000000 in
theorem xpand_ok (A : Option Addr) (c : Nat) (gs : List Gd) (ns : List Nd) (A2 : Option Addr) (c2 : Nat) (ds : List DG) (D : List Df) (w : World) (hN : Nds w w.heap.size A gs) (hl : gs.length ≤ c) (hsm : Small gs) (hx : Dfs w w.heap.size A2 ds) (hok : DOk ds) (hg : GN gs ns) (ht : TreeN ns) (hr : RightDs ds) (hG : GD ds D) :
    Calls Try.prog 6 #[.slice A gs.length c, .slice A2 ds.length c2] w fun e w' => XpR w (expN ns D) e w' := by
  have hm := mean_any A2 c2 ds w hx hok
  have hgl2 : gs.length ≤ 2000 := by have := hg.1; have := ht.few; omega
  have hR : ∀ u, Below w.heap.size w u → Calls Try.prog 20 #[.slice A gs.length c] u fun e w' => RgtR gs u e w' := fun u hu => right_any A c gs u ((hN.below hu).more hu.size) hgl2 hsm
  have HRG := hidd (tree_rg hg ht)
  have HRD := hidd hr
  have hmm := @run_makeMap Try.prog
  have HD : Hid (D.length ≤ 1000) := by show _ ≤ _; rw [← hG.len]; exact hok.len
  have HTR : Hid (∀ {u : World} {b n : Nat} {f : ByteArray → Option Value}, MapT u b n w.heap.size ds f → TrM u w.heap.size D f) := fun h => trm_of h hG hr hok
  have HX : Hid (∀ (u : World) (b bt bo nt : Nat) (f : ByteArray → Option Value), Below w.heap.size w u → ES w.heap.size u b bt bo nt 0 f (fun _ => none) (.slice none 0 0) (.slice none 0 0) (.slice none 0 0) [] [] [] → TrM u w.heap.size D f →
      Calls Try.prog 21 #[.pointer (some ⟨b, 0, none⟩), .slice A gs.length c] u fun e w' => ExpR w.heap.size u b bt bo nt f (exF (allD D) D ns x0) e w') := fun u b bt bo nt f hu hE hT => expand_any hE A c gs ns (hN.below hu) hg hl ht hsm hT HD.out
  clear hx hok hN hsm hg ht hr hG hl hgl2
  generalize gs.length = n at *
  generalize ds.length = m at *
  go_enter Try.func6, Try.ntmps6
  go_wp2_with fail
  refine hm.mono ?_
  rintro e w1 ⟨h | ⟨h, rfl⟩, hb⟩
  · obtain ⟨h1, bt, k, f, rfl, hM, hk, hbt⟩ := h
    have hR1 := hR w1 hb
    have HM := hidd hM
    clear h1 hm hR hM
    go_wp2_with fail
    refine hR1.mono ?_
    rintro e w2 ⟨z, rfl, hz, hb2⟩
    have hz2 : z = true := hz.2 HRG.out
    subst hz2
    have hB2 := hb.trans (hb2.mono hb.size)
    have M2 := HM.out.keep (hb2.block _ HM.out.map.lt) (fun p hp => hb2.cell (p := p) (by have := hb.size; omega))
    clear hz hb hb2 hR1 HM
    have b3 : Below w.heap.size w ((w2.alloc (.map #[] 0)).alloc (.cells #[.map (some bt), .map (some w2.heap.size), .slice none 0 0, .slice none 0 0, .slice none 0 0] 48)) := (hB2.alloc hB2.size _).alloc (by have := hB2.size; simp; omega) _
    have E3 : ES w.heap.size ((w2.alloc (.map #[] 0)).alloc (.cells #[.map (some bt), .map (some w2.heap.size), .slice none 0 0, .slice none 0 0, .slice none 0 0] 48)) (w2.heap.size + 1) bt w2.heap.size k 0 f (fun _ => none) (.slice none 0 0) (.slice none 0 0) (.slice none 0 0) [] [] [] := by
      have hs : (w2.alloc (.map #[] 0)).heap.size = w2.heap.size + 1 := World.size_alloc ..
      have R := RowA.new (w2.alloc (.map #[] 0)) 48 #[.map (some bt), .map (some w2.heap.size), .slice none 0 0, .slice none 0 0, .slice none 0 0]
      rw [hs] at R
      have := hB2.size
      exact ⟨R, (M2.map.alloc _).alloc _, (mapV_new w2).alloc _, fun q => by have := M2.map.lt; omega, World.ownsRow_nil _ _ _ _, World.ownsRow_nil _ _ _ _, World.ownsRow_nil _ _ _ _, fun x hx => absurd hx List.not_mem_nil, by omega, this⟩
    have T3 : TrM _ w.heap.size D f := (HTR.out M2).keep (((Below.refl w.heap.size w2).alloc hB2.size (.map #[] 0)).alloc (by have := hB2.size; simp; omega) (.cells #[.map (some bt), .map (some w2.heap.size), .slice none 0 0, .slice none 0 0, .slice none 0 0] 48))
    have hcall := HX.out _ _ _ _ _ _ b3 E3 T3
    have HB3 := hidd b3
    clear M2 b3 E3 T3 HX HTR hB2
    go_wp2_with fail
    refine hcall.mono ?_
    rintro e w4 ⟨hb4, h4⟩
    have HB4 := hidd (HB3.out.trans hb4)
    cases hres : exF (allD D) D ns x0 with
    | error er =>
      rw [hres] at h4
      have h5 : e = .returned (.int .i64 (er : Int)) := h4
      subst h5
      have hne : (((er : Nat) : Int) != 0) = true := by have := exF_err hres; simp; omega
      have HXP : Hid (expN ns D = .error er) := by show _ = _; unfold expN; rw [hres]
      clear h4 hres hb4 hcall HB3
      go_wp2
      go_ret2
      unfold XpR
      rw [HXP.out]
      exact ⟨HB4.out, rfl⟩
    | ok x =>
      rw [hres] at h4
      obtain ⟨rfl, no, g, wv, nv, rv, wl, l, E4, G4⟩ := h4
      have HXP : Hid (expN ns D = .ok x.out) := by show _ = _; unfold expN; rw [hres]
      obtain ⟨A5, c5, rfl, N5, hc5⟩ := es_nds E4
      obtain ⟨d0, d1, d2, d3, d4⟩ := E4.cells
      have HN5 := hidd N5
      have HG4 := hidd G4
      have HC5 := hidd hc5
      have HLM : Hid ((l.map (·.1)).length = l.length) := List.length_map ..
      clear E4 N5 G4 hc5 hres hb4 hcall HB3
      go_wp2
      go_ret2
      unfold XpR
      rw [HXP.out]
      exact ⟨HB4.out, A5, c5, l.map (·.1), by rw [HLM.out]; rfl, HN5.out, HG4.out, by rw [HLM.out]; exact HC5.out⟩
  · exact absurd HRD.out h
end Go.Proofs.Ytgppanbikfobbaa.Sy.Ap

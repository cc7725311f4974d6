/- The landed glush: the places of plans. -/
import Derived.Test.YtahhiajliomcfaaPGF
namespace Go.Proofs.Ytahhiajliomcfaa.Sy.Gl
open Go.RowKit Go.Proofs.Ytahhiajliomcfaa.Sy.Ap Go.Proofs.Ytahhiajliomcfaa.Sy.Ap.Wk Go.Proofs.Ytahhiajliomcfaa.Sy.Lg Go.Proofs.Ytahhiajliomcfaa.Sy.Pl
set_option maxRecDepth 100000
set_option linter.unusedVariables false

def NoN (ps : List Pn) : Prop := ∀ p ∈ ps, p.next = []
theorem noN_getD {ps : List Pn} (h : NoN ps) (i : Nat) : (ps.getD i pn0).next = [] := by
  rw [List.getD_eq_getElem?_getD]
  cases hi : ps[i]? with
  | none => rfl
  | some p => exact h p (List.mem_of_getElem? hi)
theorem noN_set {ps : List Pn} (h : NoN ps) (i : Nat) {p : Pn} (hp : p.next = []) : NoN (ps.set i p) := fun q hq => by
  rcases List.mem_or_eq_of_mem_set hq with r | r
  · exact h q r
  · subst r; exact hp
theorem noN_take {rule : Nat} {n : Nd} {ks : List Pt} {g : Gs} (h : NoN g.ps) : NoN (takeG rule n ks g).2.ps := by
  unfold takeG
  by_cases h2 : n.op = 2
  · rw [if_pos h2]
    intro p hp
    rcases List.mem_append.1 hp with q | q
    · exact h p q
    · rw [List.mem_singleton] at q; subst q; rfl
  · rw [if_neg h2]
    by_cases h3 : n.op = 3
    · rw [if_pos h3]; exact h
    · rw [if_neg h3]
      by_cases h4 : n.op = 4
      · rw [if_pos h4]; exact h
      · rw [if_neg h4]
        by_cases h5 : n.op = 5
        · rw [if_pos h5]
          split
          · exact h
          · exact noN_set h _ (noN_getD h _)
        · rw [if_neg h5]; exact h
theorem noN_add (rule : Nat) (g : Gs) (h : NoN g.ps) : ∀ (k : Nat) (l : List Nd), l.length = k → NoN (addG rule l g).2.ps
  | 0, l, hl => by rw [List.eq_nil_of_length_eq_zero hl]; exact h
  | k + 1, l, hl => by
    rcases list_snoc l with e | ⟨r, n, e⟩
    · rw [e] at hl; simp at hl
    · subst e
      rw [List.length_append, List.length_singleton] at hl
      rw [addG_snoc]
      exact noN_take (noN_add rule g h k r (by omega))
theorem noN_mark : ∀ (l : List Nat) (ps : List Pn), NoN ps → NoN (markG l ps)
  | [], ps, h => h
  | i :: l, ps, h => noN_mark l _ (noN_set h i (noN_getD h i))
/-- What holds where i plans were taken. -/
structure OfS (B : Nat) (u : World) (bb fb many : Nat) (nl : List (List Nd)) (X : List Nat × Gs) (i : Nat) (F : List Nat) (FA : Option Addr) (Fc : Nat) (pv : Value) (l : List Pv) (f : Fol) (wr : World) : Prop where
  bs : BS B wr bb fb many pv l f
  fi : IR wr B FA Fc F
  st : plansG i (nl.drop i) (F, ⟨l.map (·.1), f⟩) = X
  cnt : l.length + manyN (nl.drop i) = many
  fl : F.length ≤ l.length
  bel : Below B u wr
  res : RowA wr B 26 #[.slice none 0 0, .slice none 0 0]
  nn : NoN (l.map (·.1))
theorem no_next {B : Nat} {w : World} {bb fb many : Nat} {pv : Value} {l : List Pv} {f : Fol} (h : BS B w bb fb many pv l f) (hn : NoN (l.map (·.1))) : ∀ x ∈ l, ∀ k, (Value.slice x.2.1 x.1.next.length x.2.2).ownBlock ≠ some k := fun x hx k e => by
  have h1 := h.nxt x hx (hn x.1 (List.mem_map.2 ⟨x, hx, rfl⟩))
  rw [h1] at e
  cases e
/-- What holds where j places were marked. -/
structure OmS (B : Nat) (u : World) (bb fb many β : Nat) (pv : Value) (f : Fol) (Qn : List Pn) (L : Nat) (A2 : Option Addr) (c2 : Nat) (last : List Nat) (FA : Option Addr) (Fc : Nat) (F : List Nat) (l : List Pv) (wr : World) : Prop where
  bs : BS B wr bb fb many pv l f
  len : l.length = L
  ps : l.map (·.1) = Qn
  la : IR wr β A2 c2 last
  fi : IR wr B FA Fc F
  res : RowA wr B 26 #[.slice none 0 0, .slice none 0 0]
  bel : Below B u wr
theorem OmS.mark {B : Nat} {u : World} {bb fb many β gp cp : Nat} {f : Fol} {Qn Qn' : List Pn} {L : Nat} {A2 : Option Addr} {c2 : Nat} {last : List Nat} {FA : Option Addr} {Fc : Nat} {F : List Nat} {l l' : List Pv} {wr : World} (h : OmS B u bb fb many β (.slice (some ⟨gp, 0, none⟩) L cp) f Qn L A2 c2 last FA Fc F l wr) {o : Nat} {v : Value} (hb : BS B (wr.setCell ⟨gp, o, none⟩ v) bb fb many (.slice (some ⟨gp, 0, none⟩) L cp) l' f) (hl : l'.length = L) (hp : l'.map (·.1) = Qn') (hgp : B ≤ gp) :
    OmS B u bb fb many β (.slice (some ⟨gp, 0, none⟩) L cp) f Qn' L A2 c2 last FA Fc F l' (wr.setCell ⟨gp, o, none⟩ v) := by
  refine ⟨hb, hl, hp, own_sb h.la (fun e => own_apart h.la h.bs.places (by decide) gp e rfl) _, own_sb h.fi (fun e => own_apart h.fi h.bs.places (by decide) gp e rfl) _, h.res.far (a := ⟨gp, o, none⟩) (fun q => ?_) _, bel_set h.bel _ _ hgp⟩
  exact own_neR h.bs.places h.res (by decide) (by rw [q]; rfl)
theorem OmS.below {B : Nat} {u : World} {bb fb many β : Nat} {pv : Value} {f : Fol} {Qn : List Pn} {L : Nat} {A2 : Option Addr} {c2 : Nat} {last : List Nat} {FA : Option Addr} {Fc : Nat} {F : List Nat} {l : List Pv} {wr w' : World} (h : OmS B u bb fb many β pv f Qn L A2 c2 last FA Fc F l wr) (hb : Below wr.heap.size wr w') : OmS B u bb fb many β pv f Qn L A2 c2 last FA Fc F l w' :=
  ⟨h.bs.below hb, h.len, h.ps, own_below h.la hb (Nat.le_refl _), own_below h.fi hb (Nat.le_refl _), h.res.below hb h.res.lt, h.bel.trans (hb.mono h.bs.size)⟩
/-- What Of tells. -/
def OfR (u : World) (G : List Nat × List Pn) (e : Ending) (u' : World) : Prop :=
  Below u.heap.size u u' ∧ ∃ FA Fc PA Pc l', e = .returned (.tuple #[.agg #[.slice FA G.1.length Fc, .slice PA l'.length Pc], .int .i64 0]) ∧ IR u' u.heap.size FA Fc G.1 ∧ u'.ownsRow u.heap.size 44 9 (.slice PA l'.length Pc) l'.length (posC l') ∧ (∀ x ∈ l', IR u' u.heap.size x.2.1 x.2.2 x.1.next) ∧ (∀ x ∈ l', x.1.next = [] → x.2.1 = none) ∧ l'.map (·.1) = G.2
def NxV (B : Nat) (fl : List Nat) (v : Value) (u : World) : Prop := ∃ A c, v = .slice A fl.length c ∧ IR u B A c fl ∧ (fl = [] → A = none)
theorem NxV.below {B : Nat} {fl : List Nat} {v : Value} {u u' : World} (h : NxV B fl v u) (hb : Below u.heap.size u u') : NxV B fl v u' := by
  obtain ⟨A, c, h1, h2, h3⟩ := h
  exact ⟨A, c, h1, own_below h2 hb (Nat.le_refl _), h3⟩
end Go.Proofs.Ytahhiajliomcfaa.Sy.Gl
namespace Go.Proofs.Ytahhiajliomcfaa.Sy.Gl.Oo
open Go.RowKit Go.Proofs.Ytahhiajliomcfaa.Sy.Ap Go.Proofs.Ytahhiajliomcfaa.Sy.Ap.Wk Go.Proofs.Ytahhiajliomcfaa.Sy.Lg Go.Proofs.Ytahhiajliomcfaa.Sy.Pl
set_option maxRecDepth 100000
set_option linter.unusedVariables false
theorem eby {d : Option Nat} {u u' : World} (_ : true = true) (h : Below u.heap.size u u') : EbL d u u' := h
set_option linter.unusedVariables false in
def OfGV (bb gp k L cp B : Nat) (fl : List Nat) (t : Nat) : Option Value :=
  match t with
  | 5 => some (.pointer (some ⟨bb, 0, none⟩))
  | 12 => some (.int .i64 (k : Int))
  | 63 => some (.pointer (some ⟨bb, 0, none⟩))
  | 64 => some (.slice (some ⟨gp, 0, none⟩) L cp)
  | 65 => some (.int .i64 (k : Int))
  | 66 => some (.int .i64 (k : Int))
  | 68 => some (.pointer (some ⟨gp, k * 9, none⟩))
  | 69 => some (.pointer (some ⟨gp, k * 9 + 8, none⟩))
  | _ => none
set_option linter.unusedVariables false in
def OfGP (bb gp k L cp B : Nat) (fl : List Nat) (t : Nat) : Option (Value → World → Prop) :=
  match t with
  | 67 => some (NxV B fl)
  | _ => none
def OfG (bb gp k L cp B : Nat) (fl : List Nat) (t : Nat) (v : Value) (u : World) : Prop := (∀ z9, OfGV bb gp k L cp B fl t = some z9 → v = z9) ∧ ∀ R, OfGP bb gp k L cp B fl t = some R → R v u
set_option maxHeartbeats 4000000 in
theorem of_ok (A : Option Addr) (c : Nat) (pl : List (List Gd)) (nl : List (List Nd)) (u : World) (hx : Pls u u.heap.size A pl) (hok : PlsOk pl) (hl : pl.length ≤ 512) (hP : PlN pl nl) (hm : manyN nl ≤ 512) :
    Calls Try.prog 10 #[.slice A pl.length c] u fun e u' => OfR u (ofG nl) e u' := by
  obtain ⟨n, hn⟩ : ∃ n, pl.length = n := ⟨_, rfl⟩
  have HN0 := hidd hn
  have HX := hidd hx
  have HOK := hidd hok
  have HP := hidd hP
  have HMG := hidd (many_gn hP)
  have hRall : ∀ gs ∈ pl, RgtP gs := fun gs hg => by
    obtain ⟨i, hi, rfl⟩ := List.getElem_of_mem hg
    obtain ⟨h1, h2, h3, h4⟩ := hP.each i hi
    have e : pl.getD i [] = pl[i] := by rw [List.getD_eq_getElem?_getD, List.getElem?_eq_getElem hi]; rfl
    rw [e] at h1
    exact ⟨_, h1, h2, h3, h4⟩
  have HRA := hidd hRall
  have R0 := RowA.new u 26 #[.slice none 0 0, .slice none 0 0]
  have b1 : Below u.heap.size u (u.alloc (.cells #[.slice none 0 0, .slice none 0 0] 26)) := (Below.refl _ _).alloc (Nat.le_refl _) _
  have hc := hasP_any A c pl (u.alloc (.cells #[.slice none 0 0, .slice none 0 0] 26)) ((hx.below b1).more b1.size) hok (by omega)
  obtain ⟨MN, hMN⟩ : ∃ MN, manyN nl = MN := ⟨_, rfl⟩
  have HMN := hidd hMN
  rw [hMN] at hm
  obtain ⟨X, hX⟩ : ∃ X, plansG 0 nl ([], ⟨[], fun _ _ => false⟩) = X := ⟨_, rfl⟩
  have HXX := hidd hX
  have HOF : Hid ((ofG nl).1 = X.1 ∧ (ofG nl).2 = nextG X.2.f X.2.ps.length X.2.ps.length X.2.ps) := by subst hX; exact ⟨rfl, rfl⟩
  obtain ⟨OF, hOF⟩ : ∃ OF, ofG nl = OF := ⟨_, rfl⟩
  rw [hOF] at HOF ⊢
  have hln : nl.length = n := by rw [← hP.len]; exact hn
  have HLN := hidd hln
  rw [hn] at hl hc ⊢
  clear hx hok hP hRall hn hX hMN hOF hln
  have hni : (n : Int) ≤ 512 := by omega
  go_enter Try.func10, Try.ntmps10
  go_wp2_with fail
  generalize u.alloc (.cells #[.slice none 0 0, .slice none 0 0] 26) = w1 at *
  refine hc.mono ?_
  clear hc
  rintro e w2 ⟨b2, z, rfl, hz⟩
  have hzf : z = false := hz.2 HRA.out
  subst hzf
  have hB2 : Below u.heap.size u w2 := b1.trans (b2.mono b1.size)
  have hc := many_any A c pl w2 ((HX.out.below hB2).more hB2.size) HOK.out (by rw [HN0.out]; exact hl)
  rw [HN0.out, HMG.out, HMN.out] at hc
  have R2 := R0.below b2 R0.lt
  clear b2 hz HRA HMG b1 R0
  go_wp2_with fail
  refine hc.mono ?_
  rintro e w3 ⟨rfl, b3⟩
  have hB3 : Below u.heap.size u w3 := hB2.trans (b3.mono hB2.size)
  have R3 := R2.below b3 R2.lt
  have hmi : (MN : Int) ≤ 512 := by omega
  have hmk := make_fol MN (by omega)
  obtain ⟨B, hB⟩ : ∃ B, u.heap.size = B := ⟨_, rfl⟩
  rw [hB] at hB3 R3
  have hBw : B ≤ w3.heap.size := by rw [← hB]; exact hB3.size
  have hs4 : (w3.alloc (.cells (fnC (MN * 512) (fun _ => .bool false)) 84)).heap.size = w3.heap.size + 1 := World.size_alloc ..
  have F5 := RowF.new w3 84 (MN * 512) (fun _ => .bool false)
  have Z5 := RowA.new (w3.alloc (.cells (fnC (MN * 512) (fun _ => .bool false)) 84)) 55 #[.slice none 0 0, .slice (some ⟨w3.heap.size, 0, none⟩) MN MN]
  rw [hs4] at Z5
  have b5 : Below w3.heap.size w3 ((w3.alloc (.cells (fnC (MN * 512) (fun _ => .bool false)) 84)).alloc (.cells #[.slice none 0 0, .slice (some ⟨w3.heap.size, 0, none⟩) MN MN] 55)) := ((Below.refl _ _).alloc (Nat.le_refl _) _).alloc (by rw [hs4]; omega) _
  have HO : Hid (OfS B u (w3.heap.size + 1) w3.heap.size MN nl X 0 [] none 0 (.slice none 0 0) [] (fun _ _ => false) ((w3.alloc (.cells (fnC (MN * 512) (fun _ => .bool false)) 84)).alloc (.cells #[.slice none 0 0, .slice (some ⟨w3.heap.size, 0, none⟩) MN MN] 55))) := by
    refine ⟨⟨Z5, ?_, World.ownsRow_nil _ _ _ _, fun x hx => absurd hx (List.not_mem_nil), by omega, hBw, hm, fun x hx => absurd hx (List.not_mem_nil)⟩, World.ownsRow_nil _ _ _ _, HXX.out, ?_, Nat.le_refl _, hB3.trans (b5.mono hBw), R3.below b5 R3.lt, fun p hp => absurd hp (List.not_mem_nil)⟩
    · exact F5.below (w := w3.alloc _) (((Below.refl _ _).alloc (Nat.le_refl _) _)) F5.lt
    · show 0 + manyN nl = MN
      rw [HMN.out]
      omega
  have HXU : Hid (Pls u B A pl) := by show Pls u B A pl; rw [← hB]; exact HX.out
  have HSZ : Hid (u.heap.size = B) := hB
  rw [hB]
  have HBW3 := hidd hBw
  clear F5 Z5 b5 hs4 hB3 R3 b3 hc hB2 R2 HX hBw hB
  go_wp2_with fail
  generalize (w3.alloc (.cells (fnC (MN * 512) (fun _ => .bool false)) 84)).alloc (.cells #[.slice none 0 0, .slice (some ⟨w3.heap.size, 0, none⟩) MN MN] 55) = w5 at *
  obtain ⟨bb, hbb⟩ : ∃ bb, w3.heap.size + 1 = bb := ⟨_, rfl⟩
  rw [hbb] at HO
  rw [hbb]
  obtain ⟨fb, hfb⟩ : ∃ fb, w3.heap.size = fb := ⟨_, rfl⟩
  rw [hfb] at HO
  rw [hfb]
  clear hbb hfb hmk
  go_loopw [6, 31] (fun s6 s31 wr => ∃ (i : Nat) (F : List Nat) (FA : Option Addr) (Fc : Nat) (pv : Value) (l : List Pv) (f : Fol), i ≤ n ∧ s31 = .int .i64 (i : Int) ∧ s6 = .slice FA F.length Fc ∧ OfS B u bb fb MN nl X i F FA Fc pv l f wr) (fun _ s31 _ => n - (intOf s31).toNat)
  case atStart => exact ⟨0, _, _, _, _, _, _, Nat.zero_le _, rfl, rfl, HO.out⟩
  case round =>
    clear HO
    obtain ⟨i, F, FA, Fc, pv, l, f, hi0, rfl, rfl, HS⟩ := hrel
    generalize wr = wo at *
    by_cases hlt : i < n
    · have hik : i < pl.length := by rw [HN0.out]; exact hlt
      have hil : i < nl.length := by rw [HLN.out]; exact hlt
      obtain ⟨g1, o1, A', c', rfl, hg1, x1, N1⟩ := (HXU.out.below HS.bel).at_ hik
      have hii : (i : Int) < (n : Int) := by omega
      obtain ⟨hgn, ht, hpn, hrp⟩ := HP.out.each i hik
      have hcn := many_drop hil
      have hbn : l.length + bytesN (nl.getD i []) ≤ MN := by have := HS.cnt; omega
      have hc := add_any HS.bs (pl.getD i []) (nl.getD i []) A' c' N1 hgn ht hrp i hbn
      have hrl := root_len (rule := i) (g := ⟨l.map (·.1), f⟩) ht
      have hpl := addG_ps i ⟨l.map (·.1), f⟩ _ (nl.getD i []) rfl
      have hnn := noN_add i ⟨l.map (·.1), f⟩ HS.nn _ (nl.getD i []) rfl
      have HST : Hid (plansG (i + 1) (nl.drop (i + 1)) (F ++ (rootG i (nl.getD i []) ⟨l.map (·.1), f⟩).first, ⟨markG (rootG i (nl.getD i []) ⟨l.map (·.1), f⟩).last (addG i (nl.getD i []) ⟨l.map (·.1), f⟩).2.ps, (addG i (nl.getD i []) ⟨l.map (·.1), f⟩).2.f⟩) = X) := by
        show _ = _
        rw [← HS.st]
        have e : nl.getD i [] = nl[i] := by rw [List.getD_eq_getElem?_getD, List.getElem?_eq_getElem hil]; rfl
        rw [e, List.drop_eq_getElem_cons hil]
        rfl
      obtain ⟨m, hmm⟩ : ∃ m, (pl.getD i []).length = m := ⟨_, rfl⟩
      rw [hmm] at x1 hc
      have HCN : Hid (l.length + bytesN (nl.getD i []) + manyN (nl.drop (i + 1)) = MN) := by have := HS.cnt; show _ = _; omega
      generalize hb0 : bytesN (nl.getD i []) = by0 at *
      generalize rootG i (nl.getD i []) ⟨l.map (·.1), f⟩ = R at *
      generalize (addG i (nl.getD i []) ⟨l.map (·.1), f⟩).2 = G2 at *
      obtain ⟨ps2, f2⟩ := G2
      have hrl1 : R.first.length ≤ by0 := hrl.1
      have hrl2 : R.last.length ≤ by0 := hrl.2.1
      have HRL : Hid (∀ x ∈ R.last, x < l.length + by0) := fun x hx => by have := hrl.2.2 x hx; rw [List.length_map] at this; exact this
      have HPL : Hid (ps2.length = l.length + by0) := by have := hpl; rw [List.length_map] at this; exact this
      have HNN := hidd hnn
      have HSS := hidd HS
      clear hcn hrl hpl hnn hgn ht hrp hpn hmm hb0 N1 HS hik hil
      go_wp2_with fail
      refine hc.mono ?_
      rintro e w7 ⟨pv2, l2, A1, c1, A2, c2, rfl, S7, hl7, K7, L7, o7⟩
      have Z9 := RowA.new w7 57 ptZ
      have hW8 : Below w7.heap.size w7 ((w7.alloc (.cells ptZ 57)).setRow w7.heap.size (ptA A1 R.first.length c1 A2 R.last.length c2 R.nul)) := bel_setRow ((Below.refl _ _).alloc (Nat.le_refl _) _) _ _ (Nat.le_refl _)
      have R9 := Z9.row (ptA A1 R.first.length c1 A2 R.last.length c2 R.nul)
      have fi7 := ir_keeps HSS.out.bs HSS.out.fi K7
      have res7 := row_keeps HSS.out.res K7 (HSS.out.bs.notW HSS.out.res (by decide))
      have bel7 := HSS.out.bel.trans (K7.below HSS.out.bs.size HSS.out.bs.wb)
      have hszr : B ≤ wo.heap.size := HSS.out.bs.size
      have HBR : Hid (∀ k, (Value.slice FA F.length Fc).ownBlock = some k → k < wo.heap.size) := fun k hk => (HSS.out.fi.lt k hk).2
      clear L7 K7 hc
      go_upto_region 12 with (refine wpList_store_row rfl 57 (.tmp 9) (.tmp 38) rfl w7.heap.size (ptA A1 R.first.length c1 A2 R.last.length c2 R.nul) rfl rfl 57 ptZ Z9 (pt_info _ _ _) rfl (pt_ones _ _ _ _ _ _ _) ?_)
      have hB7 : B ≤ w7.heap.size := S7.size
      have S8 := S7.below hW8
      have fi8 := own_below fi7 hW8 (Nat.le_refl _)
      have res8 := res7.below hW8 res7.lt
      have bel8 := bel7.trans (hW8.mono hB7)
      have o8 := ptok_below o7 hW8
      generalize (w7.alloc (.cells ptZ 57)).setRow w7.heap.size (ptA A1 R.first.length c1 A2 R.last.length c2 R.nul) = w8 at *
      obtain ⟨q9, hq9⟩ : ∃ q9, w7.heap.size = q9 := ⟨_, rfl⟩
      rw [hq9] at R9
      rw [hq9]
      clear hq9 S7 fi7 res7 bel7 o7 hW8 Z9 hB7
      rw [put_non]
      obtain ⟨L2, hL2⟩ : ∃ L2, l2.length = L2 := ⟨_, rfl⟩
      have HL2 : Hid (L2 = l.length + by0) := by show L2 = _; rw [← hL2, ← HPL.out, ← hl7, List.length_map]
      have HLL2 := hidd hL2
      have HFL : Hid ((F ++ R.first).length ≤ L2) := by show _ ≤ _; rw [List.length_append, HL2.out]; have := HSS.out.fl; omega
      have HNX0 : Hid (∀ x ∈ l2, ∀ k, (Value.slice x.2.1 x.1.next.length x.2.2).ownBlock ≠ some k) := no_next S8 (by rw [hl7]; exact HNN.out)
      have hFl : F.length ≤ l.length := HSS.out.fl
      have z0 : w8.cell? ⟨q9, 0, none⟩ = some (.slice A1 R.first.length c1) := R9.at_ rfl
      have HS8 := hidd S8
      have HF8 := hidd fi8
      have HR8 := hidd res8
      have HB8 := hidd bel8
      have HO8 := hidd o8
      have HR9 := hidd R9
      have hIt := o8.1.its
      have hsz8 := S8.size
      clear hL2 S8 res8 bel8 o8 R9
      go_upto_region 13 with (at_builtin; refine wpList_plain rfl fun K hK => ?_; refine wp_app_more (.tmp 39) (.tmp 41) rfl B (.slice FA F.length Fc) F rfl fi8 A1 c1 R.first rfl hIt (by omega) hsz8 ?_; intro A5 c5 w9 o9 g9 at9; generalize F ++ R.first = F2 at *; refine hK _ _ ?_)
      clear hK
      have S9 := HS8.out.grown (row := none) fi8 (by decide) (fun x hx k _ => HNX0.out x hx k) g9
      have la9 : IR w9 wo.heap.size A2 c2 R.last := own_kept HO8.out.2 g9 (fun k hk e => by have h1 := HBR.out k hk; have h2 := (HO8.out.2.lt k e).1; omega)
      have R10 : RowA w9 q9 57 (ptA A1 R.first.length c1 A2 R.last.length c2 R.nul) := (g9.block q9 HR9.out.lt (fun e => own_neR fi8 HR9.out (by decide) e.symm)).trans HR9.out
      have res9 : RowA w9 B 26 #[.slice none 0 0, .slice none 0 0] := (g9.block B HR8.out.lt (fun e => own_neR fi8 HR8.out (by decide) e.symm)).trans HR8.out
      have bel9 : Below B u w9 := bel_row HB8.out hsz8 g9 (fun k hk => (fi8.lt k hk).1)
      have z1 : w9.cell? ⟨q9, 1, none⟩ = some (.slice A2 R.last.length c2) := R10.at_ rfl
      obtain ⟨m2, hm2⟩ : ∃ m2, R.last.length = m2 := ⟨_, rfl⟩
      have HM2 := hidd hm2
      have hm25 : m2 ≤ 512 := by omega
      rw [hm2] at z1
      have HO9 : Hid (OmS B u bb fb MN wo.heap.size pv2 f2 (markG (R.last.take 0) ps2) L2 A2 c2 R.last A5 c5 F2 l2 w9) := ⟨S9, HLL2.out, hl7, la9, o9, res9, bel9⟩
      clear S9 la9 R10 res9 bel9 hm2 g9 at9 o9 fi8 hIt z0 HS8 HR8 HB8 HO8 HR9 HF8 HNX0
      go_wp2
      go_loopw [46] (fun s46 wr' => ∃ (j : Nat) (l3 : List Pv), j ≤ m2 ∧ s46 = .int .i64 (j : Int) ∧ OmS B u bb fb MN wo.heap.size pv2 f2 (markG (R.last.take j) ps2) L2 A2 c2 R.last A5 c5 F2 l3 wr') (fun s46 _ => m2 - (intOf s46).toNat)
      case atStart => exact ⟨0, l2, Nat.zero_le _, rfl, HO9.out⟩
      case round =>
        clear HO9 z1
        obtain ⟨j, l3, hj0, rfl, HM⟩ := hrel
        by_cases hltj : j < m2
        · have hjl : j < R.last.length := by rw [HM2.out]; exact hltj
          obtain ⟨g2, rfl, -, -, x2⟩ := HM.la.at_ hjl
          have hxl := HRL.out _ (List.getElem_mem hjl)
          have HTK : Hid (lastP (markG (R.last.take j) ps2) R.last[j] = markG (R.last.take (j + 1)) ps2) := by show _ = _; rw [List.take_succ_eq_append_getElem hjl, markG_snoc]
          generalize R.last[j] = k at *
          have hkL : k < l3.length := by rw [HM.len, HL2.out]; exact hxl
          obtain ⟨gp, cp, rfl, hgp, -⟩ := HM.bs.pos (by omega)
          obtain ⟨l4, S4, hl4, hm4, ⟨v4, hv4⟩, ht4⟩ := HM.bs.setLast hkL
          have d0 := HM.bs.cells.1
          have hkI : (k : Int) < (L2 : Int) := by have := HM.len; omega
          have hji : (j : Int) < (m2 : Int) := by omega
          have ht5 := ht4 (k * 9 + 7)
          have hlen3 := HM.len
          rw [hlen3] at d0 S4 HM
          have HN4 := hidd (HM.mark (Qn' := markG (R.last.take (j + 1)) ps2) S4 (hl4.trans hlen3) (by rw [hm4, HM.ps]; exact HTK.out) hgp)
          have HL3 := hidd hlen3
          clear HM S4 hl4 hm4 ht4 hkL hjl hxl HTK hlen3
          go_wp2
          exact ⟨⟨j + 1, l4, by omega, rfl, by rw [HL3.out]; exact HN4.out⟩, by simp [intOf]; omega⟩
        · have hje : m2 = j := by omega
          subst hje
          have HS1 : Hid (OfS B u bb fb MN nl X (i + 1) F2 A5 c5 pv2 l3 f2 wr) := by
            have htk : R.last.take m2 = R.last := List.take_of_length_le (by rw [HM2.out]; exact Nat.le_refl _)
            rw [htk] at HM
            refine ⟨HM.bs, HM.fi, ?_, ?_, ?_, HM.bel, HM.res, ?_⟩
            · rw [HM.ps]; exact HST.out
            · rw [HM.len, HL2.out]; exact HCN.out
            · rw [HM.len]; exact HFL.out
            · rw [HM.ps]; exact noN_mark _ _ HNN.out
          clear HM
          go_wp2
          exact ⟨⟨i + 1, F2, A5, c5, pv2, l3, f2, by omega, rfl, rfl, HS1.out⟩, by simp [intOf]; omega⟩
    · have hie : n = i := by omega
      subst hie
      have hdr : nl.drop n = [] := List.drop_eq_nil_of_le (by rw [HLN.out]; exact Nat.le_refl _)
      have hst := HS.st
      have hcnt := HS.cnt
      rw [hdr] at hst hcnt
      have hX : X = (F, ⟨l.map (·.1), f⟩) := hst.symm
      have hll : l.length = MN := hcnt
      obtain ⟨P, Pc, rfl⟩ := own_form HS.bs.places
      have HOM : Hid (OmS B u bb fb MN B (.slice P l.length Pc) f (nextG f MN 0 (l.map (·.1))) MN none 0 [] FA Fc F l wo) := ⟨HS.bs, hll, rfl, World.ownsRow_nil _ _ _ _, HS.fi, HS.res, HS.bel⟩
      have HOG : Hid (OF.1 = F ∧ OF.2 = nextG f MN MN (l.map (·.1))) := by
        have h1 := HOF.out.1
        have h2 := HOF.out.2
        rw [hX] at h1 h2
        have e : (l.map (fun x => x.1)).length = MN := by rw [List.length_map]; exact hll
        refine ⟨h1, ?_⟩
        rw [h2]
        show nextG f (l.map (fun x => x.1)).length (l.map (fun x => x.1)).length _ = _
        rw [e]
      have d0 := HS.bs.cells.1
      have hres := HS.res
      rw [hll] at HOM d0
      clear HS hst hcnt hX hdr HOF
      generalize l.map (·.1) = ps0 at *
      clear hll
      go_wp2
      go_loopw [60] (fun s60 wr' => ∃ (k : Nat) (l3 : List Pv), k ≤ MN ∧ s60 = .int .i64 (k : Int) ∧ OmS B u bb fb MN B (.slice P MN Pc) f (nextG f MN k ps0) MN none 0 [] FA Fc F l3 wr') (fun s60 _ => MN - (intOf s60).toNat)
      case atStart => exact ⟨0, _, Nat.zero_le _, rfl, HOM.out⟩
      case round =>
        clear HOM d0 hres
        obtain ⟨k, l3, hk0, rfl, HM⟩ := hrel
        by_cases hltk : k < MN
        · have hkL : k < l3.length := by rw [HM.len]; exact hltk
          obtain ⟨gp, cp, hP, hgp, -⟩ := HM.bs.pos (by omega)
          injection hP with e1 e2 e3
          subst e1
          clear e2 e3
          have hki : (k : Int) < (MN : Int) := by omega
          have HBW : Hid (B ≤ wr.heap.size) := HM.bs.size
          have HMM := hidd HM
          have HS2 := hidd HM.bs
          obtain ⟨fl, hfl⟩ : ∃ fl, followL f MN k = fl := ⟨_, rfl⟩
          have HNX : Hid (∀ v, Below wr.heap.size wr v → Calls Try.prog 25 #[.pointer (some ⟨bb, 0, none⟩), .int .i64 (k : Int)] v fun e u' => ∃ A c, e = .returned (.slice A fl.length c) ∧ IR u' v.heap.size A c fl ∧ (fl = [] → A = none) ∧ Below v.heap.size v u') := fun v hb => by
            have h := next_any (HMM.out.bs.below hb) k (by rw [HMM.out.len]; exact hltk) (by rw [HMM.out.len]; exact Nat.le_refl _)
            rw [HMM.out.len, hfl] at h
            exact h
          have HST3 : Hid (nextP (nextG f MN k ps0) k fl = nextG f MN (k + 1) ps0) := by show _ = _; rw [nextG_succ, hfl]
          have HKL := hidd hkL
          clear HM hfl hkL
          go_upto_region 22 with fail
          refine wp_region_slotsH 7 (by decide) (by kernel_rfl) (by kernel_rfl) (fun _ _ => true) (Below wr.heap.size wr) (OfG bb gp k MN Pc B fl) EbL (by kernel_rfl) (by kernel_rfl) (by kernel_rfl) (by kernel_rfl) ?_ (bel_drew (Below.refl _ _)) [5, 12] (by kernel_rfl) ?_ ?_ ?_
          · intro t dd v u1 u' _ _ h hE
            refine ⟨h.1, fun R hR => ?_⟩
            have hh := h.2 R hR
            unfold OfGP at hR
            split at hR
            · cases hR; exact hh.below hE
            · cases hR
          · intro u _
            refine ⟨⟨_, rfl, ?_⟩, ⟨_, rfl, ?_⟩, trivial⟩ <;> exact ⟨fun _ h => Option.some.inj h, fun _ h => no_some h⟩
          · refine ⟨?_, ?_, ?_, ?_, ?_, ?_, ?_, trivial⟩
            · intro a u hS hr K hK
              obtain ⟨⟨vl0, e0, g0⟩, -⟩ := hr
              obtain rfl := g0.1 _ rfl
              clear g0
              rw [if_pos (want_none rfl)]
              unfold Oper.wp
              go_simp
              exact hK _ _ ⟨fun _ h => Option.some.inj h, fun _ h => no_some h⟩ hS (eby rfl (Below.refl _ _))
            · intro a u hS hr K hK
              obtain ⟨⟨vl0, e0, g0⟩, -⟩ := hr
              obtain rfl := g0.1 _ rfl
              clear g0
              rw [if_pos (want_none rfl)]
              have d0 := (HS2.out.below hS).cells.1
              unfold Oper.wp
              go_simp
              exact hK _ _ ⟨fun _ h => Option.some.inj h, fun _ h => no_some h⟩ hS (eby rfl (Below.refl _ _))
            · intro a u hS hr K hK
              obtain ⟨⟨vl0, e0, g0⟩, -⟩ := hr
              obtain rfl := g0.1 _ rfl
              clear g0
              rw [if_pos (want_none rfl)]
              unfold Oper.wp
              go_simp
              exact hK _ _ ⟨fun _ h => Option.some.inj h, fun _ h => no_some h⟩ hS (eby rfl (Below.refl _ _))
            · intro a u hS hr K hK
              obtain ⟨⟨vl0, e0, g0⟩, -⟩ := hr
              obtain rfl := g0.1 _ rfl
              clear g0
              rw [if_pos (want_none rfl)]
              unfold Oper.wp
              go_simp
              exact hK _ _ ⟨fun _ h => Option.some.inj h, fun _ h => no_some h⟩ hS (eby rfl (Below.refl _ _))
            · intro a u hS hr K hK
              obtain ⟨⟨vl0, e0, g0⟩, ⟨vl1, e1, g1⟩, -⟩ := hr
              obtain rfl := g0.1 _ rfl
              clear g0
              obtain rfl := g1.1 _ rfl
              clear g1
              rw [if_pos (want_none rfl)]
              unfold Oper.wp
              go_simp
              refine (HNX.out u hS).mono ?_
              rintro e u1 ⟨A1, c1, rfl, h1, h2, hb⟩
              exact hK _ _ ⟨fun _ h => no_some h, fun _ h => spec_ok h ⟨A1, c1, rfl, own_base h1 (Nat.le_trans HBW.out hS.size), h2⟩⟩ (hS.trans (hb.mono hS.size)) (eby rfl hb)
            · intro a u hS hr K hK
              obtain ⟨⟨vl0, e0, g0⟩, ⟨vl1, e1, g1⟩, -⟩ := hr
              obtain rfl := g0.1 _ rfl
              clear g0
              obtain rfl := g1.1 _ rfl
              clear g1
              rw [if_pos (want_none rfl)]
              unfold Oper.wp
              go_simp
              exact hK _ _ ⟨fun _ h => Option.some.inj h, fun _ h => no_some h⟩ hS (eby rfl (Below.refl _ _))
            · intro a u hS hr K hK
              obtain ⟨⟨vl0, e0, g0⟩, -⟩ := hr
              obtain rfl := g0.1 _ rfl
              clear g0
              rw [if_pos (want_none rfl)]
              unfold Oper.wp
              go_simp
              exact hK _ _ ⟨fun _ h => Option.some.inj h, fun _ h => no_some h⟩ hS (eby rfl (Below.refl _ _))
          intro a u5 hS5 hts hd hkn hf
          obtain ⟨v63, e63, g63⟩ := hf 0 _ 63 (by decide) rfl rfl (fun _ => rfl)
          obtain ⟨v64, e64, g64⟩ := hf 1 _ 64 (by decide) rfl rfl (fun _ => rfl)
          obtain ⟨v65, e65, g65⟩ := hf 2 _ 65 (by decide) rfl rfl (fun _ => rfl)
          obtain ⟨v66, e66, g66⟩ := hf 3 _ 66 (by decide) rfl rfl (fun _ => rfl)
          obtain ⟨v67, e67, g67⟩ := hf 4 _ 67 (by decide) rfl rfl (fun _ => rfl)
          obtain ⟨v68, e68, g68⟩ := hf 5 _ 68 (by decide) rfl rfl (fun _ => rfl)
          obtain ⟨v69, e69, g69⟩ := hf 6 _ 69 (by decide) rfl rfl (fun _ => rfl)
          have hA := act_putsH [(63, v63), (64, v64), (65, v65), (66, v66), (67, v67), (68, v68), (69, v69)] hts hd hkn (by kernel_rfl) (by simp [e63, e64, e65, e66, e67, e68, e69])
          clear hf hts hd hkn e63 e64 e65 e66 e67 e68 e69
          obtain rfl := g63.1 _ rfl
          clear g63
          obtain rfl := g64.1 _ rfl
          clear g64
          obtain rfl := g65.1 _ rfl
          clear g65
          obtain rfl := g66.1 _ rfl
          clear g66
          replace g67 := g67.2 _ rfl
          obtain rfl := g68.1 _ rfl
          clear g68
          obtain rfl := g69.1 _ rfl
          clear g69
          subst hA
          simp only [List.foldl, List.setIfInBounds_toArray, List.set_cons_zero, List.set_cons_succ]
          simp only [List.drop_succ_cons, List.drop_zero]
          obtain ⟨A1, c1, rfl, I1, hnn⟩ := g67
          have M5 := HMM.out.below hS5
          have hlen := M5.len
          have hb5 : BS B u5 bb fb MN (.slice (some ⟨gp, 0, none⟩) l3.length Pc) l3 f := by rw [hlen]; exact M5.bs
          obtain ⟨l4, S4, hl4, hm4, ⟨v4, hv4⟩, ht4⟩ := hb5.setNext HKL.out I1 hnn
          have ht5 := ht4 (k * 9 + 8)
          rw [hlen] at S4
          have HN4 := hidd (M5.mark (Qn' := nextG f MN (k + 1) ps0) S4 (hl4.trans hlen) (by rw [hm4, M5.ps]; exact HST3.out) hgp)
          clear M5 hlen hb5 S4 hl4 hm4 ht4 I1 hnn
          go_wp2
          exact ⟨⟨k + 1, l4, by omega, rfl, HN4.out⟩, by simp [intOf]; omega⟩
        · have hke : MN = k := by omega
          subst hke
          have d0 := HM.bs.cells.1
          have hres := HM.res
          have HR9 := hidd (hres.row #[.slice FA F.length Fc, .slice P MN Pc])
          have HF : Hid (OfR u OF (.returned (.tuple #[.agg #[.slice FA F.length Fc, .slice P MN Pc], .int .i64 0])) (wr.setRow B #[.slice FA F.length Fc, .slice P MN Pc])) := by
            show OfR _ _ _ _
            unfold OfR
            have hl3 := HM.len
            have hpl := own_setRow HM.bs.places (own_neR HM.bs.places HM.res (by decide)) #[.slice FA F.length Fc, .slice P MN Pc]
            rw [HSZ.out, HOG.out.1, HOG.out.2]
            refine ⟨bel_setRow HM.bel _ _ (Nat.le_refl _), FA, Fc, P, Pc, l3, by rw [hl3], own_setRow HM.fi (own_neR HM.fi HM.res (by decide)) _, ?_, fun x hx => own_setRow (HM.bs.nexts x hx) (own_neR (HM.bs.nexts x hx) HM.res (by decide)) _, HM.bs.nxt, HM.ps⟩
            rw [hl3] at hpl ⊢
            exact hpl
          clear HM
          go_wp2_with (refine wpList_store_row rfl 26 (.tmp 2) (.tmp 74) rfl B #[.slice FA F.length Fc, .slice P MN Pc] rfl rfl 26 #[.slice none 0 0, .slice none 0 0] hres (gl_info _ _) rfl (gl_ones _ _ _ _ _ _) ?_)
          exact ret_glush Try.results10 rfl HR9.out rfl rfl HF.out
end Go.Proofs.Ytahhiajliomcfaa.Sy.Gl.Oo

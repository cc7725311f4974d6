/- The reference's walk. -/
import Derived.Test.YtgppanbikfobbaaBg
namespace Go.Proofs.Ytgppanbikfobbaa.Sy.Ap.Wk.Rw
open Go.RowKit
set_option maxRecDepth 100000
set_option linter.unusedVariables false

/-! ### A name's tree is walked -/
structure W11 (w : World) (b ob m : Nat) (A2 : Option Addr) (c2 : Nat) (nv : Value) (e : Int) (b1 o1 : Nat) (d : DG) (A3 : Option Addr) (c3 : Nat) (u : World) : Prop where
  row : RowA u b 53 (wkC A2 m c2 ob nv e)
  nd : u.rangeAt b1 o1 (dfL d A3 c3)
  bel : Below w.heap.size w u
  lt : b1 < w.heap.size
theorem W11.below {w : World} {b ob m : Nat} {A2 : Option Addr} {c2 : Nat} {nv : Value} {e : Int} {b1 o1 : Nat} {d : DG} {A3 : Option Addr} {c3 : Nat} {u u' : World} (h : W11 w b ob m A2 c2 nv e b1 o1 d A3 c3 u) (hb : Below u.heap.size u u') : W11 w b ob m A2 c2 nv e b1 o1 d A3 c3 u' :=
  ⟨h.row.below hb h.row.lt, fun j v hv => by rw [hb.cell (by have := h.lt; have := h.bel.size; show b1 < _; omega)]; exact h.nd j v hv, h.bel.trans (hb.mono h.bel.size), h.lt⟩
set_option linter.unusedVariables false in
def RwGV (b b1 o1 k m c2 : Nat) (gl : Nat) (A3 : Option Addr) (c3 : Nat) (t : Nat) : Option Value :=
  match t with
  | 0 => some (.pointer (some ⟨b, 0, none⟩))
  | 8 => some (.int .i64 (k : Int))
  | 44 => some (.pointer (some ⟨b, 0, none⟩))
  | 45 => some (.pointer (some ⟨b, 0, none⟩))
  | 46 => some (.pointer (some ⟨b, 0, none⟩))
  | 47 => some (.pointer (some ⟨b, 0, none⟩))
  | 48 => some (.slice (some ⟨b1, o1, none⟩) m c2)
  | 49 => some (.int .i64 (k : Int))
  | 50 => some (.pointer (some ⟨b1, o1 + k * 2, none⟩))
  | 51 => some (.pointer (some ⟨b1, o1 + k * 2 + 1, none⟩))
  | 52 => some (.slice A3 gl c3)
  | 53 => some (.pointer (some ⟨b, 0, none⟩))
  | 54 => some (.pointer (some ⟨b, 0, none⟩))
  | 55 => some (.pointer (some ⟨b, 0, none⟩))
  | 56 => some (.slice (some ⟨b1, o1, none⟩) m c2)
  | 57 => some (.int .i64 (k : Int))
  | 58 => some (.pointer (some ⟨b1, o1 + k * 2, none⟩))
  | 59 => some (.pointer (some ⟨b1, o1 + k * 2 + 1, none⟩))
  | 60 => some (.slice A3 gl c3)
  | 61 => some (.int .i64 (gl : Int))
  | 62 => some (.int .i64 ((gl : Int) - 1))
  | _ => none
set_option linter.unusedVariables false in
def RwGP (b b1 o1 k m c2 : Nat) (gl : Nat) (A3 : Option Addr) (c3 : Nat) (t : Nat) : Option (Value → World → Prop) :=
  match t with
  | _ => none
def RwG (b b1 o1 k m c2 : Nat) (gl : Nat) (A3 : Option Addr) (c3 : Nat) (t : Nat) (v : Value) (u : World) : Prop := (∀ z9, RwGV b b1 o1 k m c2 gl A3 c3 t = some z9 → v = z9) ∧ ∀ R, RwGP b b1 o1 k m c2 gl A3 c3 t = some R → R v u
/-! ### The kids are walked -/
theorem WK.grown {B : Nat} {w w' : World} {b ob m : Nat} {A2 : Option Addr} {c2 : Nat} {nv : Value} {l : List NR} {o : List Bool} {e : Int} (h : WK B w b ob m A2 c2 nv l o e) {row : Option Nat} (hg : w.grownBy w' row) (h1 : row ≠ some b) (h2 : row ≠ some ob) (h3 : ∀ k, row = some k → nv.ownBlock ≠ some k) (h4 : ∀ y ∈ l, ∀ k, row = some k → (Value.slice y.2.1 y.1.l.length y.2.2).ownBlock ≠ some k) : WK B w' b ob m A2 c2 nv l o e :=
  ⟨(hg.block b h.row.lt (fun q => h1 q.symm)).trans h.row, (hg.block ob h.opn.lt (fun q => h2 q.symm)).trans h.opn, h.len, own_kept h.nodes hg h3, fun y hy => own_kept (h.kids y hy) hg (h4 y hy), h.hb, h.ho⟩
structure WL (B : Nat) (u w1 : World) (b ob m : Nat) (A2 : Option Addr) (c2 : Nat) (nv : Value) (l : List NR) (o : List Bool) (q : Nat) (cs : Array Value) (all : List Nat → Bool) (D : List Df) (ns : List Nd) (nl : List Nat) (bb i0 : Nat) (out : List Nd) (i : Nat) (kv : Value) (wr : World) (nv1 : Value) (new : List NR) (x : X) (mid : Nat) : Prop where
  wk : WK B wr b ob m A2 c2 nv1 (l ++ new) o 0
  lies : Lies u nv nv1
  frsh : ∀ y ∈ new, ∀ k, (Value.slice y.2.1 y.1.l.length y.2.2).ownBlock = some k → u.heap.size ≤ k
  keep : Keeps (Wr b ob nv) u wr
  box : RowA wr q 41 cs
  boxn : nv1.ownBlock ≠ some q
  own : wr.ownsRow w1.heap.size 3 1 kv i (ints (x.rt.map fun k : Nat => (k : Int)))
  apart : ∀ y ∈ l ++ new, ∀ k, (Value.slice y.2.1 y.1.l.length y.2.2).ownBlock = some k → kv.ownBlock ≠ some k
  gn : GN ((l ++ new).map (·.1)) x.out
  few : (l ++ new).length ≤ 1024
  ex : exF all D (seg ns bb mid) ⟨out, []⟩ = .ok x
  len : x.rt.length = i
  fa : Forest ns mid i0 (nl.drop i)
  le : bb ≤ mid
  sz : w1.heap.size ≤ wr.heap.size
theorem row_ne {w : World} {g g' : Nat} {t t' : TypeId} {cs cs' : Array Value} (r : RowA w g t cs) (r' : RowA w g' t' cs') (h : t ≠ t') : g ≠ g' := fun q => by
  unfold RowA at r r'
  rw [q, r'] at r
  injection r with r
  injection r with _ r2
  exact h r2.symm
set_option linter.unusedVariables false in
def AnGV (w : World) (b q : Nat) (LL : Nat) (A9 : Option Addr) (c9 : Nat) (g : Gd) (kA : Option Addr) (mm kc : Nat) (t : Nat) : Option Value :=
  match t with
  | 0 => some (.pointer (some ⟨b, 0, none⟩))
  | 7 => some (.pointer (some ⟨q, 0, none⟩))
  | 105 => some (.pointer (some ⟨b, 0, none⟩))
  | 106 => some (.pointer (some ⟨b, 0, none⟩))
  | 107 => some (.pointer (some ⟨b, 0, none⟩))
  | 108 => some (.pointer (some ⟨b, 2, none⟩))
  | 109 => some (.slice A9 LL c9)
  | 110 => some (.agg #[.int .u8 g.op, .int .u64 (W g.s 0), .int .u64 (W g.s 1), .int .u64 (W g.s 2), .int .u64 (W g.s 3), .slice kA mm kc, .int .i64 g.lo, .int .i64 g.hi, .string g.nm])
  | _ => none
set_option linter.unusedVariables false in
def AnGP (w : World) (b q : Nat) (LL : Nat) (A9 : Option Addr) (c9 : Nat) (g : Gd) (kA : Option Addr) (mm kc : Nat) (t : Nat) : Option (Value → World → Prop) :=
  match t with
  | 111 => some (NewR w (.slice A9 LL c9) 41 #[.int .u8 g.op, .int .u64 (W g.s 0), .int .u64 (W g.s 1), .int .u64 (W g.s 2), .int .u64 (W g.s 3), .slice kA mm kc, .int .i64 g.lo, .int .i64 g.hi, .string g.nm])
  | 112 => some (fun z _ => z ≠ undef)
  | _ => none
def AnG (w : World) (b q : Nat) (LL : Nat) (A9 : Option Addr) (c9 : Nat) (g : Gd) (kA : Option Addr) (mm kc : Nat) (t : Nat) (v : Value) (u : World) : Prop := (∀ z9, AnGV w b q LL A9 c9 g kA mm kc t = some z9 → v = z9) ∧ ∀ R, AnGP w b q LL A9 c9 g kA mm kc t = some R → R v u
set_option maxHeartbeats 4000000 in
theorem walk_any {B b ob m : Nat} {A2 : Option Addr} {c2 : Nat} (ds : List DG) (D : List Df) (hG : GD ds D) (hp : Apart D) (hm : ds.length = m) (hm2 : m ≤ 1000) :
    ∀ (N : Nat) (o : List Bool), shut o < N → ∀ (gs : List Gd) (ns : List Nd) (A : Option Addr) (c : Nat), GN gs ns → TreeN ns →
      ∀ (i : Nat) (bb : Nat), Forest ns bb (i + 1) [i] → ∀ (u : World) (nv : Value) (l : List NR) (out : List Nd), Nds u B A gs → Dfs u B A2 ds → WK B u b ob m A2 c2 nv l o 0 → GN (l.map (·.1)) out → l.length ≤ 1024 →
        Calls Try.prog 22 #[.pointer (some ⟨b, 0, none⟩), .slice A gs.length c, .int .i64 (i : Int)] u fun e u' => WkQ B u b ob m A2 c2 nv l o (exF (allD D) (opD D o) (seg ns bb (i + 1)) ⟨out, []⟩) e u' := by
  intro N
  induction N with
  | zero => intro o h; omega
  | succ N ihN =>
    intro o ho gs ns A c hg ht i
    induction i using Nat.strongRecOn with
    | ind i ih =>
      intro bb hF u nv l out hN hx hW hgo hl
      obtain ⟨n, hn, hF2⟩ := top1 hF
      obtain ⟨hig, hg1⟩ := gn_get hg hn
      obtain ⟨bt, ot, rfl, hbt, A3, c3, I1, r1⟩ := hN.at_ hig
      have hkd : (gs.getD i gd0).l.length ≤ 1024 := gn_kids hg ht _ (by
        rw [List.getD_eq_getElem?_getD, List.getElem?_eq_getElem hig]
        exact List.getElem_mem hig)
      have HKV : Hid (∀ j, j < (gs.getD i gd0).l.length → 0 ≤ (gs.getD i gd0).l.getD j 0 ∧ (gs.getD i gd0).l.getD j 0 < 1024) := fun j hj => gn_kid hg ht hig hj
      have hii : (i : Int) < (gs.length : Int) := by omega
      have HIH : Hid (∀ k, k < i → ∀ bb', Forest ns bb' (k + 1) [k] → ∀ (u : World) (nv : Value) (l : List NR) (out : List Nd), Nds u B (some ⟨bt, ot, none⟩) gs → Dfs u B A2 ds → WK B u b ob m A2 c2 nv l o 0 → GN (l.map (·.1)) out → l.length ≤ 1024 →
        Calls Try.prog 22 #[.pointer (some ⟨b, 0, none⟩), .slice (some ⟨bt, ot, none⟩) gs.length c, .int .i64 (k : Int)] u fun e u' => WkQ B u b ob m A2 c2 nv l o (exF (allD D) (opD D o) (seg ns bb' (k + 1)) ⟨out, []⟩) e u') := fun k hk => ih k hk
      clear ih
      have HN := hidd hN
      have HX := hidd hx
      have HW := hidd hW
      have HG := hidd hg
      have HTR := hidd ht
      have HGO := hidd hgo
      have HF := hidd hF
      have HF2 := hidd hF2
      have HNN := hidd hn
      have HG1 := hidd hg1
      have HIHN := hidd ihN
      have HO := hidd ho
      clear hN hx hW hg ht hgo hF hF2 hn hg1 ihN ho
      generalize gs.getD i gd0 = g at *
      generalize hgn : gs.length = gn at *
      have HGN := hidd hgn
      clear hgn
      generalize hml : g.l.length = mm at *
      have HML := hidd hml
      have hrow : gdL g A3 c3 = [.int .u8 g.op, .int .u64 (W g.s 0), .int .u64 (W g.s 1), .int .u64 (W g.s 2), .int .u64 (W g.s 3), .slice A3 mm c3, .int .i64 g.lo, .int .i64 g.hi, .string g.nm] := by unfold gdL; rw [hml]
      have HROW := hidd hrow
      clear hml hrow
      have Z1 := RowA.new u 41 zeroC
      have hW1 : Below u.heap.size u ((u.alloc (.cells zeroC 41)).setRow u.heap.size (gdL g A3 c3).toArray) := bel_setRow ((Below.refl _ _).alloc (Nat.le_refl _) _) _ _ (Nat.le_refl _)
      have R1 := Z1.row (gdL g A3 c3).toArray
      go_enter Try.func22, Try.ntmps22
      go_upto_region 2 with (first
        | refine wpList_load_mid rfl 41 (.tmp 14) rfl bt (ot + i * 9) rfl (gdL g A3 c3) _ r1 Try.underlying41 rfl (gdL_info g A3 c3) ?_
        | refine wpList_store_row rfl 41 (.tmp 7) (.tmp 15) rfl u.heap.size (gdL g A3 c3).toArray rfl rfl 41 zeroC Z1 (gdL_infoA g A3 c3) rfl (gdL_one g A3 c3) ?_)
      change RowA ((u.alloc (.cells zeroC 41)).setRow u.heap.size (gdL g A3 c3).toArray) _ _ _ at R1
      have B1 := hW1
      generalize (u.alloc (.cells zeroC 41)).setRow u.heap.size (gdL g A3 c3).toArray = w1 at *
      obtain ⟨q, hq⟩ : ∃ q, u.heap.size = q := ⟨_, rfl⟩
      rw [hq] at R1
      rw [hq]
      have HQ := hidd hq
      rw [HROW.out] at R1
      have HR1 := hidd R1
      have HB1 := hidd B1
      have W1 := HW.out.below B1
      have HW1 := hidd W1
      have HI := hidd I1
      have x0 : w1.cell? ⟨q, 0, none⟩ = some (.int .u8 g.op) := R1.at_ rfl
      have x5 : w1.cell? ⟨q, 5, none⟩ = some (.slice A3 mm c3) := R1.at_ rfl
      have x8 : w1.cell? ⟨q, 8, none⟩ = some (.string g.nm) := R1.at_ rfl
      have hqs : q < w1.heap.size := R1.lt
      clear Z1 hW1 r1 R1 B1 I1 hq
      rw [put_none]
      have hBu := HW.out.size
      by_cases h6 : n.op = 6
      · have hop : g.op = 6 := by rw [HG1.out.op, h6]; rfl
        rw [hop] at x0
        have hl0 := shp_ref (HTR.out.shp n (List.mem_of_getElem? HNN.out)) h6
        have hbb : i = bb := by
          have := HF2.out
          rw [hl0] at this
          exact forest_nil this
        have hseg : seg ns bb (i + 1) = [n] := by rw [← hbb, seg_one HNN.out]
        have HSG := hidd hseg
        have HH6 := hidd h6
        clear hop hl0 hbb hseg h6
        have hfi := find_any W1.row ds (HX.out.below (HB1.out.mono hBu)) hm hm2 g.nm
        have ht3 := W1.row.thawed
        have d3 : w1.cell? ⟨b, 3, none⟩ = some (.int .i64 0) := W1.row.at_ rfl
        have d1 : w1.cell? ⟨b, 1, none⟩ = some (.slice (some ⟨ob, 0, none⟩) m m) := W1.row.at_ rfl
        clear W1
        go_wp2_with fail
        refine hfi.mono ?_
        rintro e w2 ⟨rfl, h⟩
        clear hfi
        rcases h with ⟨rfl, hno⟩ | ⟨k, rfl, hk, hnm⟩
        · have hnoD : ∀ x ∈ D, x.1 ≠ n.name := fun x hx => by
            obtain ⟨j, hj, rfl⟩ := List.getElem_of_mem hx
            have h1 := hG.at_ j (by rw [hG.len]; exact hj)
            have e1 : D.getD j df0 = D[j] := by rw [List.getD_eq_getElem?_getD, List.getElem?_eq_getElem hj]; rfl
            rw [e1] at h1
            rw [← h1.1, ← HG1.out.nm]
            intro q
            exact hno _ (getD_mem (by rw [hG.len]; exact hj)) (bs_inj q)
          have HRES : Hid (exF (allD D) (opD D o) (seg ns bb (i + 1)) ⟨out, []⟩ = .error 60) := by
            show exF _ _ _ _ = _
            rw [HSG.out]
            have := exF_none (all := allD D) (r := []) (x := ⟨out, []⟩) HH6.out (find_no (o := o) hnoD)
            rw [all_no hnoD] at this
            exact this
          clear hno hnoD
          go_wp2
          go_ret
          exact wkq_bad HRES.out (by omega) (HW1.out.err 60) (keeps_set (Keeps.of_below HB1.out) _ _ (.inl (.inl rfl)))
        · have hkD : k < D.length := by rw [← hG.len]; exact hk
          have hDk : D[k]? = some D[k] := List.getElem?_eq_getElem hkD
          have hgk := hG.at_ k hk
          have e1 : D.getD k df0 = D[k] := by rw [List.getD_eq_getElem?_getD, hDk]; rfl
          rw [e1] at hgk
          have hnmD : D[k].1 = n.name := by rw [← hgk.1, hnm]; exact HG1.out.nm
          have hko : k < o.length := by rw [HW1.out.len, ← hm]; exact hk
          have hkm : (k : Int) < (m : Int) := by rw [← hm]; omega
          have hok : o[k]? = some o[k] := List.getElem?_eq_getElem hko
          have hcell : w2.cell? ⟨ob, k, none⟩ = some (.bool o[k]) := HW1.out.opn.at_ (by rw [List.getElem?_toArray, List.getElem?_map, hok]; rfl)
          have hto := HW1.out.opn.thawed
          cases hb : o[k] with
          | true =>
            rw [hb] at hcell hok
            have HRES : Hid (exF (allD D) (opD D o) (seg ns bb (i + 1)) ⟨out, []⟩ = .error 61) := by
              show exF _ _ _ _ = _
              rw [HSG.out]
              have h1 := find_open hp hDk hok
              rw [hnmD] at h1
              have := exF_none (all := allD D) (r := []) (x := ⟨out, []⟩) HH6.out h1
              have h2 := all_yes hp hDk
              rw [hnmD] at h2
              rw [h2] at this
              exact this
            clear hDk hgk e1 hnmD hok hb
            go_wp2
            go_ret
            exact wkq_bad HRES.out (by omega) (HW1.out.err 61) (keeps_set (Keeps.of_below HB1.out) _ _ (.inl (.inl rfl)))
          | false =>
            rw [hb] at hcell hok
            have HRES : Hid (exF (allD D) (opD D o) (seg ns bb (i + 1)) ⟨out, []⟩ = exF (allD D) (opD D (o.set k true)) (seg D[k].2 0 D[k].2.length) ⟨out, []⟩) := by
              show exF _ _ _ _ = _
              rw [HSG.out]
              have h1 := find_shut hp hDk hok
              rw [hnmD] at h1
              have h2 := exF_some (all := allD D) (r := []) (x := ⟨out, []⟩) HH6.out h1
              have h3 := exF_congr (all := allD D) (find_set hp hDk hok) D[k].2 ⟨out, []⟩
              rw [hnmD] at h3
              show exF _ _ _ _ = _
              rw [h2, seg_all, h3]
              cases exF (allD D) (remD (opD D o) n.name) D[k].2 ⟨out, []⟩ with
              | error e => rfl
              | ok x => exact exF_nil
            have HSH : Hid (shut (o.set k true) < N) := by have := shut_set hok; have := HO.out; show _ < _; omega
            have HOO : Hid ((o.set k true).set k false = o) := by
              show _ = _
              rw [List.set_set]
              apply List.ext_getElem?
              intro j
              by_cases hj : k = j
              · subst hj
                rw [List.getElem?_set_self hko, hok]
              · rw [List.getElem?_set_ne hj]
            have HTD : Hid (TreeN D[k].2 ∧ GN (ds.getD k dg0).2 D[k].2) := ⟨hG.trs _ (List.getElem_mem hkD), hgk.2⟩
            have W3 := HW1.out.flag k true
            have K3 : Keeps (Wr b ob nv) u (w2.setCell ⟨ob, k, none⟩ (.bool true)) := keeps_set (Keeps.of_below HB1.out) _ _ (.inl (.inr (.inl rfl)))
            clear hDk hgk e1 hnmD hok hb
            go_upto_region 11 with fail
            generalize w2.setCell ⟨ob, k, none⟩ (.bool true) = w3 at *
            clear hcell hto x0 x5 x8 d1 d3 ht3
            have HW3 := hidd W3
            have HK3 := hidd K3
            have B3 : Below B u w3 := K3.below hBu HW.out.wr
            obtain ⟨b1, o1, hA, hb1, A4, c4, N4, r4, hc4⟩ := (HX.out.below B3).at_ hk
            subst hA
            have hN4 := N4
            have hs3 : B ≤ w3.heap.size := W3.size
            obtain ⟨DK, hDK⟩ : ∃ DK, DK = D[k].2 := ⟨_, rfl⟩
            rw [← hDK] at HRES HTD
            have hlen := HTD.out.2.1
            have hpos := HTD.out.1.pos
            have HC : Hid (∀ u5, Below w3.heap.size w3 u5 → Calls Try.prog 22 #[.pointer (some ⟨b, 0, none⟩), .slice A4 (ds.getD k dg0).2.length c4, .int .i64 (((ds.getD k dg0).2.length : Int) - 1)] u5 fun e u' => WkQ B u5 b ob m (some ⟨b1, o1, none⟩) c2 nv l (o.set k true) (exF (allD D) (opD D o) (seg ns bb (i + 1)) ⟨out, []⟩) e u') := fun u5 h5 => by
              have h5B := h5.mono hs3
              have hcall := HIHN.out (o.set k true) HSH.out (ds.getD k dg0).2 DK A4 c4 HTD.out.2 HTD.out.1 (DK.length - 1) 0 (by rw [show DK.length - 1 + 1 = DK.length from by omega]; exact HTD.out.1.frs) u5 nv l out (hN4.below h5B) ((HX.out.below B3).below h5B) (W3.below h5) HGO.out hl
              rw [show DK.length - 1 + 1 = DK.length from by omega, ← HRES.out, show ((DK.length - 1 : Nat) : Int) = ((ds.getD k dg0).2.length : Int) - 1 from by omega] at hcall
              exact hcall
            generalize hd : ds.getD k dg0 = d at *
            have S3 : W11 w3 b ob m (some ⟨b1, o1, none⟩) c2 nv 0 b1 (o1 + k * 2) d A4 c4 w3 := ⟨W3.row, r4, Below.refl _ _, by omega⟩
            generalize hgl : d.2.length = gl at *
            have hd1 : ∀ u, W11 w3 b ob m (some ⟨b1, o1, none⟩) c2 nv 0 b1 (o1 + k * 2) d A4 c4 u → u.cell? ⟨b1, o1 + k * 2 + 1, none⟩ = some (.slice A4 gl c4) := fun u hu => by
              have := hu.nd 1 (.slice A4 d.2.length c4) rfl
              rw [hgl] at this
              exact this
            have hglp : 1 ≤ gl := by omega
            have hgls : gl ≤ 1024 := by have := HTD.out.1.few; omega
            have hwr : IntKind.i64.wrap ((gl : Int) - 1) = (gl : Int) - 1 := IntWalk.i64_in _ (by omega)
            clear hlen hpos hDK W3 K3 B3 N4 hN4 r4 hgl hd hc4
            refine wp_region_slotsH 19 (by decide) (by kernel_rfl) (by kernel_rfl) (fun _ _ => true) (W11 w3 b ob m (some ⟨b1, o1, none⟩) c2 nv 0 b1 (o1 + k * 2) d A4 c4) (RwG b b1 o1 k m c2 gl A4 c4) (EbS 999 (.slice none 0 0)) (by kernel_rfl) (by kernel_rfl) (by kernel_rfl) (by kernel_rfl) ?_ (S3.below (bel_drew (Below.refl _ _))) [0, 8] (by kernel_rfl) ?_ ?_ ?_
            · intro t dd v u u' _ _ h hE
              refine ⟨h.1, fun R hR => ?_⟩
              unfold RwGP at hR
              cases hR
            · intro u _
              refine ⟨⟨_, rfl, ?_⟩, ⟨_, rfl, ?_⟩, trivial⟩ <;> exact ⟨fun _ h => Option.some.inj h, fun _ h => no_some h⟩
            · refine ⟨?_, ?_, ?_, ?_, ?_, ?_, ?_, ?_, ?_, ?_, ?_, ?_, ?_, ?_, ?_, ?_, ?_, ?_, ?_, trivial⟩
              · intro a u hS hr K hK
                obtain ⟨⟨vl0, e0, g0⟩, -⟩ := hr
                obtain rfl := g0.1 _ rfl
                clear g0
                rw [if_pos (want_none rfl)]
                unfold Oper.wp
                go_simp
                exact hK _ _ ⟨fun _ h => Option.some.inj h, fun _ h => no_some h⟩ hS (eby rfl (Below.refl _ _))
              · intro a u hS hr K hK
                obtain ⟨⟨vl0, e0, g0⟩, -⟩ := hr
                obtain rfl := g0.1 _ rfl
                clear g0
                rw [if_pos (want_none rfl)]
                unfold Oper.wp
                go_simp
                exact hK _ _ ⟨fun _ h => Option.some.inj h, fun _ h => no_some h⟩ hS (eby rfl (Below.refl _ _))
              · intro a u hS hr K hK
                obtain ⟨⟨vl0, e0, g0⟩, -⟩ := hr
                obtain rfl := g0.1 _ rfl
                clear g0
                rw [if_pos (want_none rfl)]
                unfold Oper.wp
                go_simp
                exact hK _ _ ⟨fun _ h => Option.some.inj h, fun _ h => no_some h⟩ hS (eby rfl (Below.refl _ _))
              · intro a u hS hr K hK
                obtain ⟨⟨vl0, e0, g0⟩, -⟩ := hr
                obtain rfl := g0.1 _ rfl
                clear g0
                rw [if_pos (want_none rfl)]
                unfold Oper.wp
                go_simp
                exact hK _ _ ⟨fun _ h => Option.some.inj h, fun _ h => no_some h⟩ hS (eby rfl (Below.refl _ _))
              · intro a u hS hr K hK
                obtain ⟨⟨vl0, e0, g0⟩, -⟩ := hr
                obtain rfl := g0.1 _ rfl
                clear g0
                rw [if_pos (want_none rfl)]
                have d0 := hS.row.at_ (k := 0) rfl
                unfold Oper.wp
                go_simp
                exact hK _ _ ⟨fun _ h => Option.some.inj h, fun _ h => no_some h⟩ hS (eby rfl (Below.refl _ _))
              · intro a u hS hr K hK
                obtain ⟨⟨vl0, e0, g0⟩, -⟩ := hr
                obtain rfl := g0.1 _ rfl
                clear g0
                rw [if_pos (want_none rfl)]
                unfold Oper.wp
                go_simp
                exact hK _ _ ⟨fun _ h => Option.some.inj h, fun _ h => no_some h⟩ hS (eby rfl (Below.refl _ _))
              · intro a u hS hr K hK
                obtain ⟨⟨vl0, e0, g0⟩, ⟨vl1, e1, g1⟩, -⟩ := hr
                obtain rfl := g0.1 _ rfl
                clear g0
                obtain rfl := g1.1 _ rfl
                clear g1
                rw [if_pos (want_none rfl)]
                unfold Oper.wp
                go_simp
                exact hK _ _ ⟨fun _ h => Option.some.inj h, fun _ h => no_some h⟩ hS (eby rfl (Below.refl _ _))
              · intro a u hS hr K hK
                obtain ⟨⟨vl0, e0, g0⟩, -⟩ := hr
                obtain rfl := g0.1 _ rfl
                clear g0
                rw [if_pos (want_none rfl)]
                unfold Oper.wp
                go_simp
                exact hK _ _ ⟨fun _ h => Option.some.inj h, fun _ h => no_some h⟩ hS (eby rfl (Below.refl _ _))
              · intro a u hS hr K hK
                obtain ⟨⟨vl0, e0, g0⟩, -⟩ := hr
                obtain rfl := g0.1 _ rfl
                clear g0
                rw [if_pos (want_none rfl)]
                have d1 := hd1 u hS
                unfold Oper.wp
                go_simp
                exact hK _ _ ⟨fun _ h => Option.some.inj h, fun _ h => no_some h⟩ hS (eby rfl (Below.refl _ _))
              · intro a u hS hr K hK
                obtain ⟨⟨vl0, e0, g0⟩, -⟩ := hr
                obtain rfl := g0.1 _ rfl
                clear g0
                rw [if_pos (want_none rfl)]
                unfold Oper.wp
                go_simp
                exact hK _ _ ⟨fun _ h => Option.some.inj h, fun _ h => no_some h⟩ hS (eby rfl (Below.refl _ _))
              · intro a u hS hr K hK
                obtain ⟨⟨vl0, e0, g0⟩, -⟩ := hr
                obtain rfl := g0.1 _ rfl
                clear g0
                rw [if_pos (want_none rfl)]
                unfold Oper.wp
                go_simp
                exact hK _ _ ⟨fun _ h => Option.some.inj h, fun _ h => no_some h⟩ hS (eby rfl (Below.refl _ _))
              · intro a u hS hr K hK
                obtain ⟨⟨vl0, e0, g0⟩, -⟩ := hr
                obtain rfl := g0.1 _ rfl
                clear g0
                rw [if_pos (want_none rfl)]
                unfold Oper.wp
                go_simp
                exact hK _ _ ⟨fun _ h => Option.some.inj h, fun _ h => no_some h⟩ hS (eby rfl (Below.refl _ _))
              · intro a u hS hr K hK
                obtain ⟨⟨vl0, e0, g0⟩, -⟩ := hr
                obtain rfl := g0.1 _ rfl
                clear g0
                rw [if_pos (want_none rfl)]
                have d0 := hS.row.at_ (k := 0) rfl
                unfold Oper.wp
                go_simp
                exact hK _ _ ⟨fun _ h => Option.some.inj h, fun _ h => no_some h⟩ hS (eby rfl (Below.refl _ _))
              · intro a u hS hr K hK
                obtain ⟨⟨vl0, e0, g0⟩, -⟩ := hr
                obtain rfl := g0.1 _ rfl
                clear g0
                rw [if_pos (want_none rfl)]
                unfold Oper.wp
                go_simp
                exact hK _ _ ⟨fun _ h => Option.some.inj h, fun _ h => no_some h⟩ hS (eby rfl (Below.refl _ _))
              · intro a u hS hr K hK
                obtain ⟨⟨vl0, e0, g0⟩, ⟨vl1, e1, g1⟩, -⟩ := hr
                obtain rfl := g0.1 _ rfl
                clear g0
                obtain rfl := g1.1 _ rfl
                clear g1
                rw [if_pos (want_none rfl)]
                unfold Oper.wp
                go_simp
                exact hK _ _ ⟨fun _ h => Option.some.inj h, fun _ h => no_some h⟩ hS (eby rfl (Below.refl _ _))
              · intro a u hS hr K hK
                obtain ⟨⟨vl0, e0, g0⟩, -⟩ := hr
                obtain rfl := g0.1 _ rfl
                clear g0
                rw [if_pos (want_none rfl)]
                unfold Oper.wp
                go_simp
                exact hK _ _ ⟨fun _ h => Option.some.inj h, fun _ h => no_some h⟩ hS (eby rfl (Below.refl _ _))
              · intro a u hS hr K hK
                obtain ⟨⟨vl0, e0, g0⟩, -⟩ := hr
                obtain rfl := g0.1 _ rfl
                clear g0
                rw [if_pos (want_none rfl)]
                have d1 := hd1 u hS
                unfold Oper.wp
                go_simp
                exact hK _ _ ⟨fun _ h => Option.some.inj h, fun _ h => no_some h⟩ hS (eby rfl (Below.refl _ _))
              · intro a u hS hr K hK
                obtain ⟨⟨vl0, e0, g0⟩, -⟩ := hr
                obtain rfl := g0.1 _ rfl
                clear g0
                rw [if_pos (want_none rfl)]
                unfold Oper.wp
                go_simp
                exact hK _ _ ⟨fun _ h => Option.some.inj h, fun _ h => no_some h⟩ hS (eby rfl (Below.refl _ _))
              · intro a u hS hr K hK
                obtain ⟨⟨vl0, e0, g0⟩, -⟩ := hr
                obtain rfl := g0.1 _ rfl
                clear g0
                rw [if_pos (want_none rfl)]
                unfold Oper.wp
                go_simp
                exact hK _ _ ⟨fun _ h => Option.some.inj h, fun _ h => no_some h⟩ hS (eby rfl (Below.refl _ _))
            intro a u5 hS hts hd hkn hf
            obtain ⟨v44, e44, g44⟩ := hf 0 _ 44 (by decide) rfl rfl (fun _ => rfl)
            obtain ⟨v45, e45, g45⟩ := hf 1 _ 45 (by decide) rfl rfl (fun _ => rfl)
            obtain ⟨v46, e46, g46⟩ := hf 2 _ 46 (by decide) rfl rfl (fun _ => rfl)
            obtain ⟨v47, e47, g47⟩ := hf 3 _ 47 (by decide) rfl rfl (fun _ => rfl)
            obtain ⟨v48, e48, g48⟩ := hf 4 _ 48 (by decide) rfl rfl (fun _ => rfl)
            obtain ⟨v49, e49, g49⟩ := hf 5 _ 49 (by decide) rfl rfl (fun _ => rfl)
            obtain ⟨v50, e50, g50⟩ := hf 6 _ 50 (by decide) rfl rfl (fun _ => rfl)
            obtain ⟨v51, e51, g51⟩ := hf 7 _ 51 (by decide) rfl rfl (fun _ => rfl)
            obtain ⟨v52, e52, g52⟩ := hf 8 _ 52 (by decide) rfl rfl (fun _ => rfl)
            obtain ⟨v53, e53, g53⟩ := hf 9 _ 53 (by decide) rfl rfl (fun _ => rfl)
            obtain ⟨v54, e54, g54⟩ := hf 10 _ 54 (by decide) rfl rfl (fun _ => rfl)
            obtain ⟨v55, e55, g55⟩ := hf 11 _ 55 (by decide) rfl rfl (fun _ => rfl)
            obtain ⟨v56, e56, g56⟩ := hf 12 _ 56 (by decide) rfl rfl (fun _ => rfl)
            obtain ⟨v57, e57, g57⟩ := hf 13 _ 57 (by decide) rfl rfl (fun _ => rfl)
            obtain ⟨v58, e58, g58⟩ := hf 14 _ 58 (by decide) rfl rfl (fun _ => rfl)
            obtain ⟨v59, e59, g59⟩ := hf 15 _ 59 (by decide) rfl rfl (fun _ => rfl)
            obtain ⟨v60, e60, g60⟩ := hf 16 _ 60 (by decide) rfl rfl (fun _ => rfl)
            obtain ⟨v61, e61, g61⟩ := hf 17 _ 61 (by decide) rfl rfl (fun _ => rfl)
            obtain ⟨v62, e62, g62⟩ := hf 18 _ 62 (by decide) rfl rfl (fun _ => rfl)
            have hA := act_putsH [(44, v44), (45, v45), (46, v46), (47, v47), (48, v48), (49, v49), (50, v50), (51, v51), (52, v52), (53, v53), (54, v54), (55, v55), (56, v56), (57, v57), (58, v58), (59, v59), (60, v60), (61, v61), (62, v62)] hts hd hkn (by kernel_rfl) (by simp [e44, e45, e46, e47, e48, e49, e50, e51, e52, e53, e54, e55, e56, e57, e58, e59, e60, e61, e62])
            clear hf hts hd hkn e44 e45 e46 e47 e48 e49 e50 e51 e52 e53 e54 e55 e56 e57 e58 e59 e60 e61 e62
            obtain rfl := g44.1 _ rfl
            clear g44
            obtain rfl := g45.1 _ rfl
            clear g45
            obtain rfl := g46.1 _ rfl
            clear g46
            obtain rfl := g47.1 _ rfl
            clear g47
            obtain rfl := g48.1 _ rfl
            clear g48
            obtain rfl := g49.1 _ rfl
            clear g49
            obtain rfl := g50.1 _ rfl
            clear g50
            obtain rfl := g51.1 _ rfl
            clear g51
            obtain rfl := g52.1 _ rfl
            clear g52
            obtain rfl := g53.1 _ rfl
            clear g53
            obtain rfl := g54.1 _ rfl
            clear g54
            obtain rfl := g55.1 _ rfl
            clear g55
            obtain rfl := g56.1 _ rfl
            clear g56
            obtain rfl := g57.1 _ rfl
            clear g57
            obtain rfl := g58.1 _ rfl
            clear g58
            obtain rfl := g59.1 _ rfl
            clear g59
            obtain rfl := g60.1 _ rfl
            clear g60
            obtain rfl := g61.1 _ rfl
            clear g61
            obtain rfl := g62.1 _ rfl
            clear g62
            subst hA
            simp only [List.foldl, List.setIfInBounds_toArray, List.set_cons_zero, List.set_cons_succ]
            simp only [List.drop_succ_cons, List.drop_zero]
            have hcall := HC.out u5 hS.bel
            have K5 := HK3.out.trans (Keeps.of_below (P := Wr b ob nv) (hS.bel)) (fun k _ h => h)
            have HK5 := hidd K5
            clear hS S3 hd1 HC K5
            go_wp2_with fail
            refine hcall.mono ?_
            rintro e u6 ⟨nv', new, er, r, rfl, W6, L6, F6, K6, hres⟩
            have y1 : u6.cell? ⟨b, 1, none⟩ = some (.slice (some ⟨ob, 0, none⟩) m m) := W6.row.at_ rfl
            have hko6 : (o.set k true)[k]? = some true := by rw [List.getElem?_set_self hko]
            have y2 : u6.cell? ⟨ob, k, none⟩ = some (.bool true) := W6.opn.at_ (by rw [List.getElem?_toArray, List.getElem?_map, hko6]; rfl)
            have hto6 := W6.opn.thawed
            have W7 := W6.flag k false
            rw [HOO.out] at W7
            have HFIN : Hid (WkQ B u b ob m (some ⟨b1, o1, none⟩) c2 nv l o (exF (allD D) (opD D o) (seg ns bb (i + 1)) ⟨out, []⟩) (.returned (.int .i64 r)) (u6.setCell ⟨ob, k, none⟩ (.bool false))) :=
              ⟨nv', new, er, r, rfl, W7, lies_trans HK5.out.size (lies_refl _ _) L6, fun x hx k hk => Nat.le_trans HK5.out.size (F6 x hx k hk), keeps_set (HK5.out.trans K6 (fun k _ h => h)) _ _ (.inl (.inr (.inl rfl))), hres⟩
            clear hcall W6 L6 F6 K6 hres W7 hko6
            go_wp2
            go_ret
            exact HFIN.out
      · have hop : g.op ≠ 6 := by rw [HG1.out.op]; intro e; exact h6 (by omega)
        have hop1 : (g.op == 6) = false := by simp [hop]
        have hop2 : decide (g.op = 6) = false := by simp [hop]
        have HH6 := hidd h6
        have HLN : Hid (n.l.length = mm) := by show _ = _; rw [← HML.out, HG1.out.l, List.length_map]
        have HT : Hid (TreesD (opD D o)) := fun d hd => hG.trs d ((opD_sub D o).subset hd)
        have hnvq : nv.ownBlock ≠ some q := fun e => by have := (HW.out.nodes.lt q e).2; have := HQ.out; omega
        have HS0 : Hid (WL B u w1 b ob m A2 c2 nv l o q #[.int .u8 g.op, .int .u64 (W g.s 0), .int .u64 (W g.s 1), .int .u64 (W g.s 2), .int .u64 (W g.s 3), .slice A3 mm c3, .int .i64 g.lo, .int .i64 g.hi, .string g.nm] (allD D) (opD D o) ns n.l bb i out 0 (.slice none 0 0) w1 nv [] ⟨out, []⟩ bb) :=
          ⟨by rw [List.append_nil]; exact W1, lies_refl _ _, fun y hy => absurd hy List.not_mem_nil, Keeps.of_below HB1.out, HR1.out, hnvq, World.ownsRow_nil _ _ _ _, (fun y hy k hk e => by cases e), by rw [List.append_nil]; exact HGO.out, by rw [List.append_nil]; exact hl, by rw [seg_self]; exact exF_nil, rfl, by rw [List.drop_zero]; exact HF2.out, Nat.le_refl _, Nat.le_refl _⟩
        obtain ⟨j0, hj0i, hy0, hy1, hy2⟩ := info_parts int_info
        clear h6 W1 hnvq hop
        go_wp2
        go_loopw [10, 11] (fun s10 s11 wr => ∃ (j : Nat) (nv1 : Value) (new : List NR) (x : X) (mid : Nat), j ≤ mm ∧ s11 = .int .i64 (j : Int) ∧ WL B u w1 b ob m A2 c2 nv l o q #[.int .u8 g.op, .int .u64 (W g.s 0), .int .u64 (W g.s 1), .int .u64 (W g.s 2), .int .u64 (W g.s 3), .slice A3 mm c3, .int .i64 g.lo, .int .i64 g.hi, .string g.nm] (allD D) (opD D o) ns n.l bb i out j s10 wr nv1 new x mid) (fun _ s11 _ => mm - (intOf s11).toNat)
        case atStart => exact ⟨0, _, _, _, _, Nat.zero_le _, rfl, HS0.out⟩
        case round =>
          clear HS0
          obtain ⟨j, nv1, new, x, mid, hj0, rfl, L⟩ := hrel
          obtain ⟨kA, kc, rfl⟩ := own_form L.own
          have y5 : wr.cell? ⟨q, 5, none⟩ = some (.slice A3 mm c3) := L.box.at_ rfl
          clear x0 x5 x8
          by_cases hlt : j < mm
          · have hlt2 : j < n.l.length := by rw [HLN.out]; exact hlt
            have hdr : n.l.drop j = n.l[j] :: n.l.drop (j + 1) := List.drop_eq_getElem_cons hlt2
            have hfa := L.fa
            rw [hdr] at hfa
            obtain ⟨f1, f2⟩ := kid_step hfa
            have hki : n.l[j] < i := by have := f1.le; have := f2.le; omega
            have hBW : Below B u wr := L.keep.below hBu HW.out.wr
            obtain ⟨gk, ok, rfl, hgk, hcell⟩ := (HI.out.below hBW).at_ (k := j) (by rw [HML.out]; exact hlt)
            have hval : g.l.getD j 0 = ((n.l[j] : Nat) : Int) := by
              rw [HG1.out.l, List.getD_eq_getElem?_getD, List.getElem?_map, List.getElem?_eq_getElem hlt2]
              rfl
            rw [hval] at hcell
            have hkb : n.l[j] < 1024 := by have := (HKV.out j hlt).2; rw [hval] at this; omega
            have hcall := HIH.out n.l[j] hki mid f1 wr nv1 (l ++ new) x.out (HN.out.below hBW) (HX.out.below hBW) L.wk L.gn L.few
            have HL := hidd L
            have HF1 := hidd f1
            have HFF := hidd f2
            have HKI := hidd hki
            clear hdr hfa f1 f2 hval L hki
            generalize n.l[j] = kk at *
            have hjm : (j : Int) < (mm : Int) := by omega
            go_wp2_with fail
            refine hcall.mono ?_
            rintro e w5 ⟨nv2, new2, er, r, rfl, W5, L5, F5, K5, hres⟩
            have hbox5 : RowA w5 q 41 #[.int .u8 g.op, .int .u64 (W g.s 0), .int .u64 (W g.s 1), .int .u64 (W g.s 2), .int .u64 (W g.s 3), .slice (some ⟨gk, ok, none⟩) mm c3, .int .i64 g.lo, .int .i64 g.hi, .string g.nm] := row_keeps HL.out.box K5 (by
              rintro (e | e | e)
              · exact row_ne HL.out.box HL.out.wk.row (by decide) e
              · exact row_ne HL.out.box HL.out.wk.opn (by decide) e
              · exact HL.out.boxn e)
            have hown5 := own_keeps HL.out.own K5 (fun k hk => by
              rintro (e | e | e)
              · exact own_neR HL.out.own HL.out.wk.row (by decide) (e ▸ hk)
              · exact own_neR HL.out.own HL.out.wk.opn (by decide) (e ▸ hk)
              · exact own_apart HL.out.own HL.out.wk.nodes (by decide) k hk e)
            have hb52 : nv2.ownBlock ≠ some q := fun e => by
              rcases L5 with h | ⟨k, h, h2⟩
              · exact HL.out.boxn (h ▸ e)
              · rw [h] at e
                cases e
                have := HL.out.box.lt
                omega
            have hap5 : ∀ y ∈ (l ++ new) ++ new2, ∀ k, (Value.slice y.2.1 y.1.l.length y.2.2).ownBlock = some k → (Value.slice kA j kc).ownBlock ≠ some k := fun y hy k hk e => by
              rcases List.mem_append.1 hy with h | h
              · exact HL.out.apart y h k hk e
              · have h1 := F5 y h k hk
                have h2 := (HL.out.own.lt k e).2
                omega
            have hK5 : Keeps (Wr b ob nv) u w5 := HL.out.keep.trans K5 (fun k hk h => lies_wr HL.out.lies hk h)
            have hLi : Lies u nv nv2 := lies_trans HL.out.keep.size HL.out.lies L5
            have hFr : ∀ y ∈ new ++ new2, ∀ k, (Value.slice y.2.1 y.1.l.length y.2.2).ownBlock = some k → u.heap.size ≤ k := fun y hy k hk => by
              rcases List.mem_append.1 hy with h | h
              · exact HL.out.frsh y h k hk
              · exact Nat.le_trans HL.out.keep.size (F5 y h k hk)
            have hs5 : w1.heap.size ≤ w5.heap.size := Nat.le_trans HL.out.sz K5.size
            have hown := hown5.alloc (.cells #[.int .i64 r] 3)
            have hnews := int_news w5 r
            have hH : (w5.alloc (.cells #[.int .i64 r] 3)).heap.size = w5.heap.size + 1 := World.size_alloc ..
            have hbase : w1.heap.size ≤ (w5.alloc (.cells #[.int .i64 r] 3)).heap.size := by rw [hH]; omega
            have bA : Below w5.heap.size w5 (w5.alloc (.cells #[.int .i64 r] 3)) := (Below.refl _ _).alloc (Nat.le_refl _) _
            have WA := W5.below bA
            have HWA := hidd WA
            have HBX := hidd (hbox5.below bA hbox5.lt)
            have HKA : Hid (Keeps (Wr b ob nv) u (w5.alloc (.cells #[.int .i64 r] 3))) := hK5.trans (Keeps.of_below (P := Wr b ob nv) bA) (fun k _ h => h)
            have HH : Hid (nv2.ownBlock ≠ some q ∧ (∀ y ∈ (l ++ new) ++ new2, ∀ k, (Value.slice y.2.1 y.1.l.length y.2.2).ownBlock = some k → (Value.slice kA j kc).ownBlock ≠ some k) ∧ Lies u nv nv2 ∧ (∀ y ∈ new ++ new2, ∀ k, (Value.slice y.2.1 y.1.l.length y.2.2).ownBlock = some k → u.heap.size ≤ k)) := ⟨hb52, hap5, hLi, hFr⟩
            have HRS := hidd hres
            clear hcall hbox5 hown5 hb52 hap5 hK5 hLi hFr W5 L5 F5 K5 bA WA hres
            go_upto_region 19 with (at_builtin; refine wpList_append_lies _ rfl _ _ _ rfl w1.heap.size 3 j0 (.int .i64 0) 1 8 Try.underlying39 hj0i hy0 hy1 hy2 rfl (by omega) _ j (ints (x.rt.map fun k : Nat => (k : Int))) rfl hown ⟨w5.heap.size, 0, none⟩ 1 1 [.int .i64 r] rfl rfl hnews (by simp [Value.oneCell']) (by omega) (by simp only [maxLen]; omega) (by omega) hbase (w5.heap.size + 1) hH ?_; intro g7 cap7 w7 hown7 hgrow hat hlt7; refine Hid.out ?_)
            have W7 : WK B w7 b ob m A2 c2 nv2 (l ++ new ++ new2) o er := WK.grown HWA.out hgrow (own_neR hown HWA.out.row (by decide)) (own_neR hown HWA.out.opn (by decide)) (fun k hk => own_apart hown HWA.out.nodes (by decide) k hk) (fun y hy k hk e => HH.out.2.1 y hy k e hk)
            have K7 : Keeps (Wr b ob nv) u w7 := keeps_grown HKA.out hgrow (fun k hk => .inr (by have h1 := (hown.lt k hk).1; have h2 := HB1.out.size; omega))
            have X7 : RowA w7 q 41 #[.int .u8 g.op, .int .u64 (W g.s 0), .int .u64 (W g.s 1), .int .u64 (W g.s 2), .int .u64 (W g.s 3), .slice (some ⟨gk, ok, none⟩) mm c3, .int .i64 g.lo, .int .i64 g.hi, .string g.nm] := (hgrow.block q HBX.out.lt (fun e => own_neR hown HBX.out (by decide) e.symm)).trans HBX.out
            have hs7 : w1.heap.size ≤ w7.heap.size := Nat.le_trans hbase hgrow.size
            have hap7 : ∀ y ∈ l ++ new ++ new2, ∀ k, (Value.slice y.2.1 y.1.l.length y.2.2).ownBlock = some k → (Value.slice (some ⟨g7, 0, none⟩) (j + 1) cap7).ownBlock ≠ some k := fun y hy k hk e => by
              have e2 : g7 = k := Option.some.inj e
              rcases hat with h | h
              · exact HH.out.2.1 y hy k hk (by have h2 : (Value.slice kA j kc).ownBlock = some g7 := h; rw [h2, e2])
              · have := ((HWA.out.kids y hy).lt k hk).2
                omega
            have HO7 := hidd hown7
            have d3 : w7.cell? ⟨b, 3, none⟩ = some (.int .i64 er) := W7.row.at_ rfl
            have HW7 := hidd W7
            have HK7 := hidd K7
            have HX7 := hidd X7
            have HAP := hidd hap7
            clear hown hnews hH hbase hown7 hgrow hat hlt7 hap7 W7 K7 X7 HBX HKA HWA
            refine Lib.hid ?_
            cases hR : exF (allD D) (opD D o) (seg ns mid (kk + 1)) ⟨x.out, []⟩ with
            | error qe =>
              have hrs := HRS.out
              rw [hR] at hrs
              obtain ⟨he, hq1⟩ := hrs
              subst he
              have HRE : Hid (exF (allD D) (opD D o) (seg ns bb (i + 1)) ⟨out, []⟩ = .error qe) := kid_bad HT.out HTR.out.shp HL.out.le HF1.out (by have := HKI.out; omega) HL.out.ex hR
              have hne : (((qe : Nat) : Int) != 0) = true := by simp; omega
              have HFIN : Hid (WkQ B u b ob m A2 c2 nv l o (exF (allD D) (opD D o) (seg ns bb (i + 1)) ⟨out, []⟩) (.returned (.int .i64 0)) w7) := by
                show WkQ _ _ _ _ _ _ _ _ _ _ _ _ _
                rw [HRE.out]
                exact ⟨nv2, new ++ new2, qe, 0, rfl, by rw [← List.append_assoc]; exact HW7.out, HH.out.2.2.1, HH.out.2.2.2, HK7.out, rfl, hq1⟩
              clear hR hq1
              go_wp2
              go_ret
              exact HFIN.out
            | ok y =>
              have hrs := HRS.out
              rw [hR] at hrs
              obtain ⟨he, hgn, hfw, jj, hr, hrt⟩ := hrs
              subst he hr
              have HFIN : Hid (WL B u w1 b ob m A2 c2 nv l o q #[.int .u8 g.op, .int .u64 (W g.s 0), .int .u64 (W g.s 1), .int .u64 (W g.s 2), .int .u64 (W g.s 3), .slice (some ⟨gk, ok, none⟩) mm c3, .int .i64 g.lo, .int .i64 g.hi, .string g.nm] (allD D) (opD D o) ns n.l bb i out (j + 1) (.slice (some ⟨g7, 0, none⟩) (j + 1) cap7) w7 nv2 (new ++ new2) ⟨y.out, x.rt ++ y.rt⟩ (kk + 1)) :=
                ⟨by rw [← List.append_assoc]; exact HW7.out, HH.out.2.2.1, HH.out.2.2.2, HK7.out, HX7.out, HH.out.1, by
                  rw [hrt, List.map_append, List.map_cons, List.map_nil, ← ints_snoc]
                  exact HO7.out, by rw [← List.append_assoc]; exact HAP.out, by rw [← List.append_assoc]; exact hgn, by rw [← List.append_assoc]; exact hfw, kid_ok HT.out HTR.out.shp HL.out.le HF1.out HL.out.ex hR, by rw [List.length_append, HL.out.len, hrt]; rfl, HFF.out, Nat.le_trans HL.out.le HF1.out.le, hs7⟩
              clear hR hgn hfw hrt
              go_wp2
              exact ⟨⟨j + 1, _, _, _, _, by omega, rfl, HFIN.out⟩, by simp [intOf]; omega⟩
          · have hje : mm = j := by omega
            subst hje
            have hfa := L.fa
            rw [List.drop_eq_nil_of_le (by rw [HLN.out]; exact Nat.le_refl _)] at hfa
            have hmid := forest_nil hfa
            have hex := L.ex
            rw [← hmid] at hex
            have hput := put_all HNN.out HH6.out (by rw [hmid]; exact L.le) hex (by rw [L.len, HLN.out])
            have hLn : x.out.length = (l ++ new).length := by rw [← L.gn.1, List.length_map]
            rw [hLn] at hput
            have HPUT := hidd hput
            clear hfa hmid hex hput
            obtain ⟨A9, c9, rfl⟩ := own_form L.wk.nodes
            have hfew := L.few
            have d2 : wr.cell? ⟨b, 2, none⟩ = some (.slice A9 (l ++ new).length c9) := L.wk.row.at_ rfl
            have d3 : wr.cell? ⟨b, 3, none⟩ = some (.int .i64 0) := L.wk.row.at_ rfl
            have ht3 := L.wk.row.thawed
            have htq := L.box.thawed
            have HL := hidd L
            have HLN2 := hidd hLn
            clear L hLn
            generalize hLL : (l ++ new).length = LL at *
            have HLL := hidd hLL
            clear hLL
            by_cases hbig : 1024 ≤ LL
            · have hbi : (LL : Int) ≥ 1024 := by omega
              have hbd : decide ((1024 : Int) ≤ (LL : Int)) = true := by simp; omega
              have HFIN : Hid (WkQ B u b ob m A2 c2 nv l o (exF (allD D) (opD D o) (seg ns bb (i + 1)) ⟨out, []⟩) (.returned (.int .i64 0)) (wr.setCell ⟨b, 3, none⟩ (.int .i64 3))) := by
                show WkQ _ _ _ _ _ _ _ _ _ _ _ _ _
                rw [HPUT.out, if_pos hbig]
                exact ⟨_, new, 3, 0, rfl, HL.out.wk.err 3, HL.out.lies, HL.out.frsh, keeps_set HL.out.keep _ _ (.inl (.inl rfl)), rfl, by omega⟩
              clear htq
              go_wp2
              go_ret
              exact HFIN.out
            · have hbd : decide ((1024 : Int) ≤ (LL : Int)) = false := by simp; omega
              have hbi : (LL : Int) < 1024 := by omega
              have R8 : RowA (wr.setCell ⟨q, 5, none⟩ (.slice kA mm kc)) q 41 #[.int .u8 g.op, .int .u64 (W g.s 0), .int .u64 (W g.s 1), .int .u64 (W g.s 2), .int .u64 (W g.s 3), .slice kA mm kc, .int .i64 g.lo, .int .i64 g.hi, .string g.nm] := HL.out.box.set 5 (.slice kA mm kc)
              have hqb := row_ne HL.out.box HL.out.wk.row (by decide)
              have hqo := row_ne HL.out.box HL.out.wk.opn (by decide)
              have B8 : Keeps (fun k => k = q) wr (wr.setCell ⟨q, 5, none⟩ (.slice kA mm kc)) := keeps_set (Keeps.of_below (Below.refl _ _)) _ _ (.inl rfl)
              have W8 : WK B (wr.setCell ⟨q, 5, none⟩ (.slice kA mm kc)) b ob m A2 c2 (.slice A9 LL c9) (l ++ new) o 0 :=
                ⟨row_keeps HL.out.wk.row B8 (fun e => hqb e.symm), row_keeps HL.out.wk.opn B8 (fun e => hqo e.symm), HL.out.wk.len, own_keeps HL.out.wk.nodes B8 (fun k hk e => HL.out.boxn (e ▸ hk)), fun y hy => own_keeps (HL.out.wk.kids y hy) B8 (fun k hk e => own_neR (HL.out.wk.kids y hy) HL.out.box (by decide) (e ▸ hk)), HL.out.wk.hb, HL.out.wk.ho⟩
              have O8 := own_keeps HL.out.own B8 (fun k hk e => own_neR HL.out.own HL.out.box (by decide) (e ▸ hk))
              have K8 : Keeps (Wr b ob nv) u (wr.setCell ⟨q, 5, none⟩ (.slice kA mm kc)) := keeps_set HL.out.keep _ _ (.inr (by have := HQ.out; show _ ≤ q; omega))
              have hs8 : B ≤ w1.heap.size := Nat.le_trans hBu HB1.out.size
              go_upto_region 25 with fail
              generalize wr.setCell ⟨q, 5, none⟩ (.slice kA mm kc) = w8 at *
              clear d2 d3 ht3 htq y5 B8
              have hBw : B ≤ w8.heap.size := W8.size
              obtain ⟨i0, hi0, hz0, hz1, hz2⟩ := info_parts node_info
              obtain ⟨XS, hXS⟩ : ∃ XS, nodesC (l ++ new) = XS := ⟨_, rfl⟩
              have hcut : w8.ownsRow B 41 9 (.slice A9 LL c9) LL XS := by
                have := W8.nodes
                rw [HLL.out, hXS] at this
                exact this
              have HXS := hidd hXS
              clear hXS
              have hvb : (Value.slice A9 LL c9).ownBlock ≠ some b := own_neR hcut W8.row (by decide)
              have hvq : (Value.slice A9 LL c9).ownBlock ≠ some q := HL.out.boxn
              have hnw : ∀ k, w8.heap.size ≤ k → (Value.slice A9 LL c9).ownBlock ≠ some k := fun k hk e => by have := (hcut.lt k e).2; omega
              have HW8 := hidd W8
              have HO8 := hidd O8
              have HK8 := hidd K8
              clear O8 K8
              refine wp_region_slotsA 8 (by decide) (by kernel_rfl) (by kernel_rfl) (fun _ _ => true) (AppS w8 B b q 53 (wkC A2 m c2 ob (.slice A9 LL c9) 0) #[.int .u8 g.op, .int .u64 (W g.s 0), .int .u64 (W g.s 1), .int .u64 (W g.s 2), .int .u64 (W g.s 3), .slice kA mm kc, .int .i64 g.lo, .int .i64 g.hi, .string g.nm] 41 9 (.slice A9 LL c9) LL XS [.int .u8 g.op, .int .u64 (W g.s 0), .int .u64 (W g.s 1), .int .u64 (W g.s 2), .int .u64 (W g.s 3), .slice kA mm kc, .int .i64 g.lo, .int .i64 g.hi, .string g.nm] 112) (AnG w8 b q LL A9 c9 g kA mm kc) (EbS 112 (.slice A9 LL c9)) (by kernel_rfl) (by kernel_rfl) (by kernel_rfl) (by kernel_rfl) ?_ ⟨R8, W8.row, grown_below ⟨rfl, rfl, rfl, Nat.le_refl _, fun _ _ _ => rfl⟩ (bel_drew (Below.refl _ _)), hcut, fun z hz => .inl (Option.some.inj hz).symm⟩ [0, 7] (by kernel_rfl) ?_ ?_ ?_
              · intro t d z u u' _ h hE
                refine ⟨h.1, fun R hR => ?_⟩
                have h2 := h.2 R hR
                unfold AnGP at hR
                split at hR
                · cases hR
                  exact NewR.stab h2 hE
                · cases hR
                  exact h2
                · cases hR
              · intro a u _
                refine ⟨⟨_, rfl, ?_⟩, ⟨_, rfl, ?_⟩, trivial⟩
                · exact ⟨fun _ h => Option.some.inj h, fun _ h => no_some h⟩
                · exact ⟨fun _ h => Option.some.inj h, fun _ h => no_some h⟩
              · refine ⟨?_, ?_, ?_, ?_, ?_, ?_, ?_, ?_, trivial⟩
                · intro a u hS hr K hK
                  obtain ⟨⟨vl0, e0, g0⟩, -⟩ := hr
                  obtain rfl := g0.1 _ rfl
                  clear g0
                  rw [if_pos (want_none rfl)]
                  unfold Oper.wp
                  go_simp
                  exact hK _ _ ⟨fun _ h => Option.some.inj h, fun _ h => no_some h⟩ (hS.put rfl _) (eby rfl (Below.refl _ _))
                · intro a u hS hr K hK
                  obtain ⟨⟨vl0, e0, g0⟩, -⟩ := hr
                  obtain rfl := g0.1 _ rfl
                  clear g0
                  rw [if_pos (want_none rfl)]
                  unfold Oper.wp
                  go_simp
                  exact hK _ _ ⟨fun _ h => Option.some.inj h, fun _ h => no_some h⟩ (hS.put rfl _) (eby rfl (Below.refl _ _))
                · intro a u hS hr K hK
                  obtain ⟨⟨vl0, e0, g0⟩, -⟩ := hr
                  obtain rfl := g0.1 _ rfl
                  clear g0
                  rw [if_pos (want_none rfl)]
                  unfold Oper.wp
                  go_simp
                  exact hK _ _ ⟨fun _ h => Option.some.inj h, fun _ h => no_some h⟩ (hS.put rfl _) (eby rfl (Below.refl _ _))
                · intro a u hS hr K hK
                  obtain ⟨⟨vl0, e0, g0⟩, -⟩ := hr
                  obtain rfl := g0.1 _ rfl
                  clear g0
                  rw [if_pos (want_none rfl)]
                  unfold Oper.wp
                  go_simp
                  exact hK _ _ ⟨fun _ h => Option.some.inj h, fun _ h => no_some h⟩ (hS.put rfl _) (eby rfl (Below.refl _ _))
                · intro a u hS hr K hK
                  obtain ⟨⟨vl0, e0, g0⟩, -⟩ := hr
                  obtain rfl := g0.1 _ rfl
                  clear g0
                  rw [if_pos (want_none rfl)]
                  have d2 := hS.row.at_ (k := 2) rfl
                  unfold Oper.wp
                  go_simp
                  exact hK _ _ ⟨fun _ h => Option.some.inj h, fun _ h => no_some h⟩ (hS.put rfl _) (eby rfl (Below.refl _ _))
                · intro a u hS hr K hK
                  obtain ⟨⟨vl0, e0, g0⟩, -⟩ := hr
                  obtain rfl := g0.1 _ rfl
                  clear g0
                  rw [if_pos (want_none rfl)]
                  have z0 := hS.box.at_ (k := 0) rfl
                  have z1 := hS.box.at_ (k := 1) rfl
                  have z2 := hS.box.at_ (k := 2) rfl
                  have z3 := hS.box.at_ (k := 3) rfl
                  have z4 := hS.box.at_ (k := 4) rfl
                  have z5 := hS.box.at_ (k := 5) rfl
                  have z6 := hS.box.at_ (k := 6) rfl
                  have z7 := hS.box.at_ (k := 7) rfl
                  have z8 := hS.box.at_ (k := 8) rfl
                  unfold Oper.wp
                  go_simp
                  exact hK _ _ ⟨fun _ h => Option.some.inj h, fun _ h => no_some h⟩ (hS.put rfl _) (eby rfl (Below.refl _ _))
                · intro a u hS hr K hK
                  obtain ⟨⟨vl0, e0, g0⟩, -⟩ := hr
                  obtain rfl := g0.1 _ rfl
                  clear g0
                  rw [if_pos (want_none rfl)]
                  unfold Oper.wp
                  go_simp
                  exact hK _ _ ⟨fun _ h => no_some h, fun _ h => spec_ok h (⟨_, rfl, hnw _ hS.grow.size, hS.grow.size, RowA.new _ _ _⟩)⟩ ((hS.below ((Below.refl _ _).alloc (Nat.le_refl _) _)).put rfl _) (eby rfl ((Below.refl _ _).alloc (Nat.le_refl _) _))
                · intro a u hS hr K hK
                  obtain ⟨⟨vl0, e0, g0⟩, ⟨vl1, e1, g1⟩, -⟩ := hr
                  obtain rfl := g0.1 _ rfl
                  clear g0
                  replace g1 := g1.2 _ rfl
                  rw [if_pos (want_none rfl)]
                  obtain ⟨gq, rfl, hgv, hgq, Rg⟩ := g1
                  refine wp_append_both u (.tmp 109) (.tmp 111) 22 rfl B 41 i0 _ 9 96 Try.underlying22 hi0 hz0 hz1 hz2 rfl (by omega) (.slice A9 LL c9) LL XS (eval_at e0) hS.own ⟨gq, 0, none⟩ 1 1 [.int .u8 g.op, .int .u64 (W g.s 0), .int .u64 (W g.s 1), .int .u64 (W g.s 2), .int .u64 (W g.s 3), .slice kA mm kc, .int .i64 g.lo, .int .i64 g.hi, .string g.nm] (eval_at e1) rfl (World.news_of_block Rg) (by simp [Value.oneCell']) (by simp only [maxLen]; omega) (by omega) (Nat.le_trans hBw hS.grow.size) ?_
                  intro v' u1 h1 h2 h3 h4
                  exact hK _ _ ⟨fun _ h => no_some h, fun _ h => spec_ok h (own_not h1)⟩ (hS.app_ hvb hvq h1 h2 h3 h4) (Ap.ebw rfl h3)
              intro a u9 hS hts hd hkn hf
              obtain ⟨v105, e105, g105⟩ := hf 0 _ 105 (by decide) rfl rfl (fun _ => rfl)
              obtain ⟨v106, e106, g106⟩ := hf 1 _ 106 (by decide) rfl rfl (fun _ => rfl)
              obtain ⟨v107, e107, g107⟩ := hf 2 _ 107 (by decide) rfl rfl (fun _ => rfl)
              obtain ⟨v108, e108, g108⟩ := hf 3 _ 108 (by decide) rfl rfl (fun _ => rfl)
              obtain ⟨v109, e109, g109⟩ := hf 4 _ 109 (by decide) rfl rfl (fun _ => rfl)
              obtain ⟨v110, e110, g110⟩ := hf 5 _ 110 (by decide) rfl rfl (fun _ => rfl)
              obtain ⟨v111, e111, g111⟩ := hf 6 _ 111 (by decide) rfl rfl (fun _ => rfl)
              obtain ⟨v112, e112, g112⟩ := hf 7 _ 112 (by decide) rfl rfl (fun _ => rfl)
              obtain ⟨v113, e113⟩ : ∃ z, a.tmps[113]? = some z := ⟨_, Array.getElem?_eq_getElem (by rw [hts]; simp)⟩
              obtain ⟨v114, e114⟩ : ∃ z, a.tmps[114]? = some z := ⟨_, Array.getElem?_eq_getElem (by rw [hts]; simp)⟩
              have hA := act_puts [(105, v105), (106, v106), (107, v107), (108, v108), (109, v109), (110, v110), (111, v111), (112, v112), (113, v113), (114, v114)] hts hd hkn (by kernel_rfl) (by simp [e105, e106, e107, e108, e109, e110, e111, e112, e113, e114])
              have hown := (hS.app v112 e112).resolve_left (g112.2 _ rfl)
              have hgrow := hS.grow
              have R := hS.row
              clear hS
              clear hf hts hd hkn e105 e106 e107 e108 e109 e110 e111 e112 e113 e114
              obtain rfl := g105.1 _ rfl
              clear g105
              obtain rfl := g106.1 _ rfl
              clear g106
              obtain rfl := g107.1 _ rfl
              clear g107
              obtain rfl := g108.1 _ rfl
              clear g108
              obtain rfl := g109.1 _ rfl
              clear g109
              obtain rfl := g110.1 _ rfl
              clear g110
              replace g111 := g111.2 _ rfl
              replace g112 := g112.2 _ rfl
              subst hA
              simp only [List.foldl, List.setIfInBounds_toArray, List.set_cons_zero, List.set_cons_succ]
              simp only [List.drop_succ_cons, List.drop_zero]
              clear g111 g112 R8 hcut W8
              obtain ⟨hown, hat⟩ := hown
              obtain ⟨A6, c6, rfl⟩ := own_form hown
              have d2 := R.at_ (k := 2) rfl
              have ht := R.thawed
              have hxl : (withG g (x.rt.map fun k : Nat => (k : Int))).l.length = mm := by show (x.rt.map fun k : Nat => (k : Int)).length = mm; rw [List.length_map]; exact HL.out.len
              have hgx : gdL (withG g (x.rt.map fun k : Nat => (k : Int))) kA kc = [.int .u8 g.op, .int .u64 (W g.s 0), .int .u64 (W g.s 1), .int .u64 (W g.s 2), .int .u64 (W g.s 3), .slice kA mm kc, .int .i64 g.lo, .int .i64 g.hi, .string g.nm] := by
                unfold gdL
                rw [hxl]
                rfl
              have W9 := HW8.out.add (x := (withG g (x.rt.map fun k : Nat => (k : Int)), kA, kc)) hgrow (z := .slice A6 (LL + 1) c6) (by
                rw [List.length_append, HLL.out, List.length_singleton, ← nodesC_snoc, HXS.out]
                show u9.ownsRow B _ _ _ _ (XS ++ gdL (withG g (x.rt.map fun k : Nat => (k : Int))) kA kc)
                rw [hgx]
                exact hown) (by
                show w8.ownsRow B 3 1 (.slice kA (withG g (x.rt.map fun k : Nat => (k : Int))).l.length kc) (withG g (x.rt.map fun k : Nat => (k : Int))).l.length _
                rw [hxl]
                exact own_less HO8.out hs8)
              have K9 : Keeps (Wr b ob nv) u (u9.setCell ⟨b, 2, none⟩ (.slice A6 (LL + 1) c6)) := keeps_set (keeps_grown HK8.out hgrow (fun k hk => by
                rcases HL.out.lies with h | ⟨k2, h, h2⟩
                · exact .inl (.inr (.inr (h ▸ hk)))
                · rw [h] at hk
                  cases hk
                  exact .inr h2)) _ _ (.inl (.inl rfl))
              have L9 : Lies u nv (.slice A6 (LL + 1) c6) := lies_trans HK8.out.size HL.out.lies hat
              have HFIN : Hid (WkQ B u b ob m A2 c2 nv l o (exF (allD D) (opD D o) (seg ns bb (i + 1)) ⟨out, []⟩) (.returned (.int .i64 (LL : Int))) (u9.setCell ⟨b, 2, none⟩ (.slice A6 (LL + 1) c6))) := by
                show WkQ _ _ _ _ _ _ _ _ _ _ _ _ _
                rw [HPUT.out, if_neg hbig]
                refine ⟨.slice A6 (LL + 1) c6, new ++ [(withG g (x.rt.map fun k : Nat => (k : Int)), kA, kc)], 0, LL, rfl, by rw [← List.append_assoc]; exact W9, L9, fun y hy k hk => ?_, K9, rfl, ?_, by rw [← List.append_assoc, List.length_append, HLL.out]; show LL + 1 ≤ 1024; omega, LL, rfl, rfl⟩
                · rcases List.mem_append.1 hy with h | h
                  · exact HL.out.frsh y h k hk
                  · rw [List.mem_singleton] at h
                    subst h
                    have h1 : (Value.slice kA mm kc).ownBlock = some k := by rw [← hk]; exact ob_eq kA mm kc _ kc
                    have h2 := (HL.out.own.lt k h1).1
                    have h3 := HB1.out.size
                    omega
                · rw [← List.append_assoc, List.map_append]
                  exact gn_snoc HL.out.gn ⟨HG1.out.op, HG1.out.s, rfl, HG1.out.lo, HG1.out.hi, HG1.out.nm⟩
              have e3 : ((LL + 1 : Nat) : Int) - 1 = (LL : Int) := by omega
              clear hown hat hgrow W9 K9 L9 hnw hvb hvq hBw hxl hgx
              go_wp2
              go_ret
              exact HFIN.out
end Go.Proofs.Ytgppanbikfobbaa.Sy.Ap.Wk.Rw

/- The matcher: optional. -/
import Derived.Test.YtcgondjekpcpgaaDoorPCq
import Derived.Test.YtcgondjekpcpgaaDoorPRt
namespace Go.Proofs.YtcgondjekpcpgaaDoor.Sy.Lg.Oq
open Go.RowKit Go.Proofs.YtcgondjekpcpgaaDoor.Sy.Ap Go.Proofs.YtcgondjekpcpgaaDoor.Sy.Ap.Wk Go.Proofs.YtcgondjekpcpgaaDoor.Sy.Lg.Cp Go.Proofs.YtcgondjekpcpgaaDoor.Sy.Lg.Wo
set_option maxRecDepth 100000
set_option linter.unusedVariables false

theorem _root_.Go.Proofs.YtcgondjekpcpgaaDoor.Sy.Lg.OpS.done {M : MC} {F : Nat → Prop} {w : World} {x y : Row3} {q r : Nat} {sv : Value} {p : Nat → Bool} {c c' : Array Value} {v : Value} {X Y : Nat → Prop} {u : World} (h : OpS M F w.heap.size w [x, y, (r, 58, c)] q sv p v X u) (hf : ∀ f, F f → f < w.heap.size) (hr : w.heap.size ≤ r) (hx : x.1 ≠ r) (hy : y.1 ≠ r) (hc : c[0]? = some (.int .i64 0)) (hY : ∀ j, p j = true ↔ Y j) : RetQ M F w Y (.returned (.agg #[.int .i64 0, sv])) (u.setRow r c') := by
  have h2 : OpS M F w.heap.size w [(r, 58, c), x, y] q sv p v X u := h.sub (fun z hz => by simp at hz ⊢; rcases hz with e | e | e <;> simp [e])
  have h3 := h2.setRow (c' := c') hr (fun z hz => by simp at hz; rcases hz with e | e <;> (rw [e]; assumption)) hc
  obtain ⟨cs, ms, hm⟩ := h3.fs.mi
  refine ⟨_, rfl, ⟨cs, ms, hm.less fun k hk => .inl (.inl hk)⟩, h3.fs.keep, ⟨p, h3.pb.pl, hY⟩, fun b hb hk => ?_⟩
  have h4 : sv.ownBlock = some b := hb
  have := h3.own_lo b h4
  have := hf b hk
  omega
class EbyC (E : Option Nat → World → World → Prop) : Prop where
  h : ∀ (d : Option Nat) (u u' : World), Below u.heap.size u u' → E d u u'
instance : EbyC EbL := ⟨fun _ _ _ h => h⟩
instance {M : MC} : EbyC (EbM M) := ⟨fun _ _ _ h => Keeps.of_below h⟩
theorem eby {E : Option Nat → World → World → Prop} [EbyC E] {d : Option Nat} {u u' : World} (_ : true = true) (h : Below u.heap.size u u') : E d u u' := EbyC.h d u u' h
namespace A4
/-- Memory while the two are made; the first of them may be laid already. -/
structure TwS (w : World) (p : Nat → Bool) (fl : Bool) (a : Act) (u : World) : Prop where
  s : Below w.heap.size w u
  p8 : ∀ g, a.tmps[8]? = some (.pointer (some ⟨g, 0, none⟩)) → w.heap.size ≤ g ∧ (fl = false → RowA u g 58 #[.int .i64 0, .slice none 0 0]) ∧ (fl = true → ∃ sv, RowA u g 58 #[.int .i64 0, sv] ∧ ClR w p sv u)
  p9 : ∀ g, a.tmps[9]? = some (.pointer (some ⟨g, 0, none⟩)) → w.heap.size ≤ g ∧ RowA u g 58 #[.int .i64 0, .slice none 0 0]
  far : ∀ g h, a.tmps[8]? = some (.pointer (some ⟨g, 0, none⟩)) → a.tmps[9]? = some (.pointer (some ⟨h, 0, none⟩)) → g ≠ h
section
variable {w : World} {p : Nat → Bool} {fl : Bool} {a : Act} {u u' : World}
theorem TwS.at8 (h : TwS w p fl a u) {g : Nat} (e : a.tmps[8]? = some (.pointer (some ⟨g, 0, none⟩))) : ∃ c, RowA u g 58 c := by
  obtain ⟨_, h2, h3⟩ := h.p8 g e
  cases fl with
  | false => exact ⟨_, h2 rfl⟩
  | true => obtain ⟨sv, h4, _⟩ := h3 rfl; exact ⟨_, h4⟩
theorem TwS.below (h : TwS w p fl a u) (hb : Below u.heap.size u u') : TwS w p fl a u' :=
  ⟨h.s.trans (hb.mono h.s.size), fun g e => by
    obtain ⟨h1, h2, h3⟩ := h.p8 g e
    exact ⟨h1, fun q => (h2 q).below hb (h2 q).lt, fun q => by obtain ⟨sv, h4, h5⟩ := h3 q; exact ⟨sv, h4.below hb h4.lt, h5.below hb⟩⟩, fun g e => by obtain ⟨h1, h3⟩ := h.p9 g e; exact ⟨h1, h3.below hb h3.lt⟩, h.far⟩
theorem TwS.put (h : TwS w p fl a u) {d : Option Nat} (hd : (d != some 8 && d != some 9) = true) (z : Value) : TwS w p fl (a.put d z) u := by
  have e : ∀ k, (d != some k) = true → (a.put d z).tmps[k]? = a.tmps[k]? := by
    intro k hk
    cases d with
    | none => rfl
    | some d => rw [put_tmps, Array.getElem?_setIfInBounds_ne (fun e => by subst e; simp at hk)]
  have hd' : (d != some 8) = true ∧ (d != some 9) = true := by simpa using hd
  have e1 := e 8 hd'.1
  have e2 := e 9 hd'.2
  exact ⟨h.s, fun g q => h.p8 g (e1 ▸ q), fun g q => h.p9 g (e2 ▸ q), fun g k q r => h.far g k (e1 ▸ q) (e2 ▸ r)⟩
theorem TwS.new8 (h : TwS w p false a u) : TwS w p false (a.put (some 8) (.pointer (some ⟨u.heap.size, 0, none⟩))) (u.alloc (.cells #[.int .i64 0, .slice none 0 0] 58)) := by
  have e9 : (a.put (some 8) (.pointer (some ⟨u.heap.size, 0, none⟩))).tmps[9]? = a.tmps[9]? := by rw [put_tmps, Array.getElem?_setIfInBounds_ne (by omega)]
  refine ⟨h.s.alloc h.s.size _, fun g e => by rw [put_self e]; exact ⟨h.s.size, fun _ => RowA.new _ _ _, fun q => by cases q⟩, fun g e => ?_, fun g k e f => ?_⟩
  · obtain ⟨h1, h3⟩ := h.p9 g (e9 ▸ e)
    exact ⟨h1, h3.alloc _⟩
  · obtain ⟨h1, h3⟩ := h.p9 k (e9 ▸ f)
    have := h3.lt
    rw [put_self e]
    omega
theorem TwS.new9 (h : TwS w p fl a u) : TwS w p fl (a.put (some 9) (.pointer (some ⟨u.heap.size, 0, none⟩))) (u.alloc (.cells #[.int .i64 0, .slice none 0 0] 58)) := by
  have h' := h.below ((Below.refl u.heap.size u).alloc (Nat.le_refl _) (.cells #[.int .i64 0, .slice none 0 0] 58))
  have e9 : (a.put (some 9) (.pointer (some ⟨u.heap.size, 0, none⟩))).tmps[8]? = a.tmps[8]? := by rw [put_tmps, Array.getElem?_setIfInBounds_ne (by omega)]
  refine ⟨h'.s, fun g e => h'.p8 g (e9 ▸ e), fun g e => by rw [put_self e]; exact ⟨h.s.size, RowA.new _ _ _⟩, fun g k e f => ?_⟩
  obtain ⟨c, h3⟩ := h.at8 (e9 ▸ e)
  have := h3.lt
  rw [put_self f]
  omega
/-- The first of them is laid. -/
theorem TwS.lay (h : TwS w p false a u) {g : Nat} (e : a.tmps[8]? = some (.pointer (some ⟨g, 0, none⟩))) {sv : Value} (hc : ClR w p sv u) : TwS w p true a (u.setRow g #[.int .i64 0, sv]) := by
  obtain ⟨h1, h2, -⟩ := h.p8 g e
  have r := h2 rfl
  refine ⟨bel_setRow h.s _ _ h1, fun k q => ?_, fun k q => ?_, h.far⟩
  · have : Value.pointer (some ⟨g, 0, none⟩) = .pointer (some ⟨k, 0, none⟩) := Option.some.inj (e.symm.trans q)
    cases this
    refine ⟨h1, (fun q => by cases q), fun _ => ⟨sv, r.row _, ?_⟩⟩
    rcases hc with hc | ⟨h3, h4⟩
    · exact .inl hc
    · exact .inr ⟨h3, own_setRow h4 (own_neR h4 r (by decide)) _⟩
  · obtain ⟨h4, h5⟩ := h.p9 k q
    exact ⟨h4, h5.apart _ (fun x => h.far g k e q x.symm)⟩
end
/-- What an operation does to memory: new blocks, or a row of places that is not the first's turned. -/
def EbT (d : Option Nat) (u u' : World) : Prop := Below u.heap.size u u' ∨ ∃ g c0 c, RowA u g 58 c0 ∧ u' = u.setRow g c
instance : EbyC EbT := ⟨fun _ _ _ h => .inl h⟩
theorem ClR.ebt {w u u' : World} {p : Nat → Bool} {v : Value} {d : Option Nat} (h : ClR w p v u) (hE : EbT d u u') : ClR w p v u' := by
  rcases hE with hb | ⟨g, c0, c, r, rfl⟩
  · exact h.below hb
  · rcases h with h | ⟨h1, h2⟩
    · exact .inl h
    · exact .inr ⟨h1, own_setRow h2 (own_neR h2 r (by decide)) _⟩
set_option linter.unusedVariables false in
def OaGV (w : World) (n0 : Nat) (p0 : Nat → Bool) (vv : Value) (t : Nat) : Option Value :=
  match t with
  | 5 => some (.pointer (some ⟨n0 + 1, 0, none⟩))
  | 23 => some (vv)
  | 25 => some (vv)
  | _ => none
set_option linter.unusedVariables false in
def OaGP (w : World) (n0 : Nat) (p0 : Nat → Bool) (vv : Value) (t : Nat) : Option (Value → World → Prop) :=
  match t with
  | 8 => some (fun z _ => ∃ q : Nat, z = .pointer (some ⟨q, 0, none⟩))
  | 9 => some (fun z _ => ∃ q : Nat, z = .pointer (some ⟨q, 0, none⟩))
  | 24 => some (fun z u => ∃ sv, z = .agg #[.int .i64 0, sv] ∧ ClR w p0 sv u)
  | _ => none
def OaG (w : World) (n0 : Nat) (p0 : Nat → Bool) (vv : Value) (t : Nat) (v : Value) (u : World) : Prop := (∀ z9, OaGV w n0 p0 vv t = some z9 → v = z9) ∧ ∀ R, OaGP w n0 p0 vv t = some R → R v u
end A4
set_option linter.unusedVariables false in
def OpGV (M : MC) (F : Nat → Prop) (sv : Value) (Y Y2 : Nat → Prop) (n0 q8 q9 : Nat) (b o k : Nat) (kc : Nat) (vv : Value) (t : Nat) : Option Value :=
  match t with
  | 0 => some (.pointer (some ⟨M.mq, 0, none⟩))
  | 4 => some (.pointer (some ⟨n0, 0, none⟩))
  | 8 => some (.pointer (some ⟨q8, 0, none⟩))
  | 9 => some (.pointer (some ⟨q9, 0, none⟩))
  | 29 => some (.pointer (some ⟨M.mq, 0, none⟩))
  | 30 => some (.pointer (some ⟨n0, 5, none⟩))
  | 31 => some (.slice (some ⟨b, o, none⟩) 1 kc)
  | 32 => some (.pointer (some ⟨b, o, none⟩))
  | 33 => some (.int .i64 (k : Int))
  | 34 => some (vv)
  | 36 => some (.agg #[.int .i64 0, sv])
  | _ => none
set_option linter.unusedVariables false in
def OpGP (M : MC) (F : Nat → Prop) (sv : Value) (Y Y2 : Nat → Prop) (n0 q8 q9 : Nat) (b o k : Nat) (kc : Nat) (vv : Value) (t : Nat) : Option (Value → World → Prop) :=
  match t with
  | 35 => some (PlO (Fo F sv) Y)
  | 37 => some (PlO (Fo F sv) Y2)
  | _ => none
def OpG (M : MC) (F : Nat → Prop) (sv : Value) (Y Y2 : Nat → Prop) (n0 q8 q9 : Nat) (b o k : Nat) (kc : Nat) (vv : Value) (t : Nat) (v : Value) (u : World) : Prop := (∀ z9, OpGV M F sv Y Y2 n0 q8 q9 b o k kc vv t = some z9 → v = z9) ∧ ∀ R, OpGP M F sv Y Y2 n0 q8 q9 b o k kc vv t = some R → R v u
set_option maxHeartbeats 4000000 in
theorem optional_any {M : MC} (hM : M.Ok) {k : Nat} (hE : EndsC M k) (g : Gd) (kA : Option Addr) (kc : Nat) (hkA : KidAt M kA 0 k) (hlo : 0 ≤ g.lo) (hlo2 : g.lo ≤ 4096) (hhi : g.hi = -1 ∨ (g.lo ≤ g.hi ∧ g.hi ≤ 4096)) (hin : ∀ i j, M.R k i j → i ≤ M.s.size → j ≤ M.s.size) (F : Nat → Prop) (u : World) (v : Value) (X : Nat → Prop) (h : Inp M F u v X) :
    Calls Tryd.prog 65 #[.pointer (some ⟨M.mq, 0, none⟩), .agg #[.int .u8 g.op, .int .u64 (W g.s 0), .int .u64 (W g.s 1), .int .u64 (W g.s 2), .int .u64 (W g.s 3), .slice kA 1 kc, .int .i64 g.lo, .int .i64 g.hi, .string g.nm], v] u (RetQ M F u (img (upR (M.R k) (if g.hi < 0 then M.s.size else (g.hi - g.lo).toNat)) X)) := by
  obtain ⟨b, o, rfl, hkb, hkc⟩ := hkA
  obtain ⟨A, n, c, rfl⟩ := h.pl.form
  have hfl := h.fl
  have F0 := FS.start h
  have hB := F0.lo
  have hX := h.le
  clear h
  go_enter Tryd.func65, Tryd.ntmps65
  go_upto_region 1 with fail
  have F1 := F0.three 43 (by decide) (by decide) (ndC g (some ⟨b, o, none⟩) 1 kc) #[.int .i64 0, .slice A n c] #[.int .i64 0, .slice none 0 0]
  rw [Nat.add_zero] at hkc
  generalize ((u.alloc (.cells (ndC g (some ⟨b, o, none⟩) 1 kc) 43)).alloc (.cells #[.int .i64 0, .slice A n c] 58)).alloc (.cells #[.int .i64 0, .slice none 0 0] 58) = u1 at *
  have d3 : u1.cell? ⟨u.heap.size, 6, none⟩ = some (.int .i64 g.lo) := F1.r0.at_ rfl
  have d4 : u1.cell? ⟨u.heap.size, 7, none⟩ = some (.int .i64 g.hi) := F1.r0.at_ rfl
  have d5 : u1.cell? ⟨M.mq, 1, none⟩ = some (.string M.s) := F1.mbox.at_ rfl
  clear F0
  have hfew := hM.few
  have HF1 := hidd F1
  have HX0 := hidd hX
  have HIN := hidd hin
  have HFL := hidd hfl
  obtain ⟨p0, hp0, hx0⟩ := F1.pl
  clear F1 hX hin hfl
  by_cases hneg : g.hi < 0
  · obtain ⟨T, hT⟩ : ∃ T : Nat, M.s.size = T := ⟨_, rfl⟩
    have hTI : (M.s.size : Int) = (T : Int) := by omega
    rw [if_pos hneg, hT]
    go_upto_region 4 with fail
    rw [hT]
    refine wp_region_slotsB 6 (by decide) (by kernel_rfl) (by kernel_rfl) (fun _ _ => true) 5 (by decide) (A4.TwS u1 p0) (A4.OaG u1 u.heap.size p0 (.agg #[.int .i64 0, .slice A n c])) A4.EbT (by kernel_rfl) (by kernel_rfl) (by kernel_rfl) (by kernel_rfl) ?_ ⟨bel_drew (Below.refl _ _), fun g e => (by cases e), fun g e => (by cases e), fun g h e _ => (by cases e)⟩ [5] (by kernel_rfl) ?_ ?_ ?_
    · intro t dd v u u' _ h hE
      refine ⟨h.1, fun R hR => ?_⟩
      have h2 := h.2 R hR
      unfold A4.OaGP at hR
      split at hR
      · cases hR; exact h2
      · cases hR; exact h2
      · cases hR
        obtain ⟨sv, e, hcl⟩ := h2
        exact ⟨sv, e, A4.ClR.ebt hcl hE⟩
      · cases hR
    · intro _ _ u _
      refine ⟨⟨_, rfl, ?_⟩, trivial⟩
      exact ⟨fun _ h => Option.some.inj h, fun _ h => no_some h⟩
    · refine ⟨?_, ?_, ?_, ?_, ?_, ?_, trivial⟩
      · intro fl hfl a u hS hr K hK
        obtain ⟨⟨vl0, e0, g0⟩, -⟩ := hr
        obtain rfl := g0.1 _ rfl
        clear g0
        rw [if_pos (want_none rfl)]
        have d0 := (HF1.out.below hS.s).r1.at_ (k := 0) rfl
        have d1 := (HF1.out.below hS.s).r1.at_ (k := 1) rfl
        unfold Oper.wp
        go_simp
        exact hK _ _ ⟨fun _ h => Option.some.inj h, fun _ h => no_some h⟩ (hS.put rfl _) (eby rfl (Below.refl _ _))
      · intro fl hfl a u hS hr K hK
        obtain ⟨⟨vl0, e0, g0⟩, -⟩ := hr
        obtain rfl := g0.1 _ rfl
        clear g0
        rw [if_pos (want_none rfl)]
        unfold Oper.wp
        go_simp
        refine (copied_any _ p0 u (hp0.below hS.s)).mono ?_
        rintro e u1 ⟨hb, sv, rfl, hcl⟩
        exact hK _ _ ⟨fun _ h => no_some h, fun _ h => spec_ok h ⟨_, rfl, hcl.less hS.s.size⟩⟩ ((hS.below hb).put rfl _) (eby rfl hb)
      · intro fl hfl a u hS hr K hK
        obtain ⟨⟨vl0, e0, g0⟩, -⟩ := hr
        obtain rfl := g0.1 _ rfl
        clear g0
        rw [if_pos (want_none rfl)]
        have d0 := (HF1.out.below hS.s).r1.at_ (k := 0) rfl
        have d1 := (HF1.out.below hS.s).r1.at_ (k := 1) rfl
        unfold Oper.wp
        go_simp
        exact hK _ _ ⟨fun _ h => Option.some.inj h, fun _ h => no_some h⟩ (hS.put rfl _) (eby rfl (Below.refl _ _))
      · intro fl hfl a u hS hr K hK
        rw [if_pos (want_none rfl)]
        unfold Oper.wp
        go_simp
        exact hK _ _ ⟨fun _ h => no_some h, fun _ h => spec_ok h ⟨_, rfl⟩⟩ (by obtain rfl := hfl (by kernel_rfl); exact hS.new8) (eby rfl ((Below.refl _ _).alloc (Nat.le_refl _) _))
      · intro fl hfl a u hS hr K hK
        rw [if_pos (want_none rfl)]
        unfold Oper.wp
        go_simp
        exact hK _ _ ⟨fun _ h => no_some h, fun _ h => spec_ok h ⟨_, rfl⟩⟩ hS.new9 (eby rfl ((Below.refl _ _).alloc (Nat.le_refl _) _))
      · intro fl hfl a u hS hr K hK
        obtain ⟨⟨vl0, e0, g0⟩, ⟨vl1, e1, g1⟩, -⟩ := hr
        replace g0 := g0.2 _ rfl
        replace g1 := g1.2 _ rfl
        obtain ⟨q, rfl⟩ := g0
        obtain ⟨sv, rfl, hcl⟩ := g1
        obtain rfl := hfl (by kernel_rfl)
        rw [if_pos (want_none rfl)]
        obtain ⟨h1, h2, -⟩ := hS.p8 q e0
        have r := h2 rfl
        have hone : sv.oneCell' = true := by
          obtain ⟨A, n, c, e⟩ := hcl.form
          rw [e]; rfl
        refine wp_store_row 58 (.tmp 8) (.tmp 24) rfl q #[.int .i64 0, sv] (eval_at e0) (eval_at e1) 58 #[.int .i64 0, .slice none 0 0] r (pl_info _ _) rfl (ones2 rfl hone) ?_
        exact hK _ _ trivial ((hS.lay e0 hcl).put rfl _) (.inr ⟨q, _, _, r, rfl⟩)
    intro a u2 hS2 hts hd hkn hf
    obtain ⟨v23, e23, g23⟩ := hf 0 _ 23 (by decide) rfl rfl (fun _ => rfl)
    obtain ⟨v24, e24, g24⟩ := hf 1 _ 24 (by decide) rfl rfl (fun _ => rfl)
    obtain ⟨v25, e25, g25⟩ := hf 2 _ 25 (by decide) rfl rfl (fun _ => rfl)
    obtain ⟨v8, e8, g8⟩ := hf 3 _ 8 (by decide) rfl rfl (fun _ => rfl)
    obtain ⟨v9, e9, g9⟩ := hf 4 _ 9 (by decide) rfl rfl (fun _ => rfl)
    have hA := act_puts [(23, v23), (24, v24), (25, v25), (8, v8), (9, v9)] hts hd hkn (by kernel_rfl) (by simp [e23, e24, e25, e8, e9])
    have hne : ∀ p8 p9 : Nat, v8 = .pointer (some ⟨p8, 0, none⟩) → v9 = .pointer (some ⟨p9, 0, none⟩) → p8 ≠ p9 := fun p8 p9 h8 h9 => hS2.far p8 p9 (h8 ▸ e8) (h9 ▸ e9)
    have k8 := fun (q : Nat) (h : v8 = .pointer (some ⟨q, 0, none⟩)) => hS2.p8 q (h ▸ e8)
    have k9 := fun (q : Nat) (h : v9 = .pointer (some ⟨q, 0, none⟩)) => hS2.p9 q (h ▸ e9)
    have hbel := hS2.s
    clear hS2
    clear hf hts hd hkn e23 e24 e25 e8 e9
    obtain rfl := g23.1 _ rfl
    clear g23
    replace g24 := g24.2 _ rfl
    obtain rfl := g25.1 _ rfl
    clear g25
    replace g8 := g8.2 _ rfl
    replace g9 := g9.2 _ rfl
    subst hA
    simp only [List.foldl, List.setIfInBounds_toArray, List.set_cons_zero, List.set_cons_succ]
    simp only [List.drop_succ_cons, List.drop_zero]
    obtain ⟨q8, rfl⟩ := g8
    obtain ⟨q9, rfl⟩ := g9
    obtain ⟨sv0, rfl, -⟩ := g24
    obtain ⟨hq8, -, h8⟩ := k8 q8 rfl
    obtain ⟨sv, R8, hcl⟩ := h8 rfl
    obtain ⟨hq9, R9⟩ := k9 q9 rfl
    have hne := hne q8 q9 rfl rfl
    obtain ⟨As, ns, cs, rfl⟩ := hcl.form
    have BB := bel_setRow hbel q9 #[.int .i64 0, .slice A n c] hq9
    have O3 : OpS M F u.heap.size u [(q9, 58, #[.int .i64 0, .slice A n c]), (u.heap.size, 43, ndC g (some ⟨b, o, none⟩) 1 kc), (u.heap.size + 1 + 1, 58, #[.int .i64 0, .slice none 0 0])] q8 (.slice As ns cs) p0 (.agg #[.int .i64 0, .slice A n c]) X (u2.setRow q9 #[.int .i64 0, .slice A n c]) := by
      obtain ⟨cs, ms, hm⟩ := HF1.out.mi
      have F3 := HF1.out.below BB
      have hs1 := HF1.out.keep.size
      have hr0 := HF1.out.r0.lt
      have hr2 := HF1.out.r2.lt
      have hown : ∀ k, (Value.slice As ns _).ownBlock = some k → u1.heap.size ≤ k := fun k hk => by
        rcases hcl with ⟨e, _⟩ | ⟨_, o⟩
        · rw [e] at hk; cases hk
        · exact (o.lt k hk).1
      refine ⟨⟨⟨cs, ms, hm.step (P := fun _ => False) ⟨BB.os, BB.tape, BB.output, BB.size, fun k hl _ => BB.block k hl⟩ (fun k hp => hp.elim) (fun k hk => ?_)⟩, F3.keep, fun x hx => ?_, F3.pl, fun b hb hk => ?_, F3.lo⟩, ⟨R8.apart _ hne, hp0.1, ?_⟩, by omega, hB, fun x hx => ?_⟩
      · rcases hk with hk | hk
        · exact .inl hk
        · exact .inr (hown k hk)
      · simp at hx
        rcases hx with e | e | e
        · subst e; exact ⟨R9.row _, (show (58 : TypeId) ≠ 3 by decide), (show (58 : TypeId) ≠ 94 by decide)⟩
        · exact F3.rows x (by simp [e])
        · exact F3.rows x (by simp [e])
      · rcases hk with hk | hk
        · exact F3.off b hb hk
        · have := hown b hk
          have := HF1.out.pl.lt hb
          omega
      · rcases hcl with ⟨e, h⟩ | ⟨h, o⟩
        · exact .inl ⟨e, h⟩
        · exact .inr ⟨h, own_less (Cp.own_setRow o (own_neR o R9 (by decide)) _) hs1⟩
      · simp at hx
        rcases hx with e | e | e
        · subst e; exact hne.symm
        · subst e; show u.heap.size ≠ q8; omega
        · subst e; show u.heap.size + 1 + 1 ≠ q8; omega
    have HO3 := hidd O3
    have HFR : Hid (Fresh (M.R k) X 0 (fun j => p0 j = true) X) := by
      have e : (fun j => p0 j = true) = X := funext fun j => propext (hx0 j)
      show Fresh _ _ _ _ _
      rw [e]
      exact Fresh.start _ _
    clear R8 hcl hbel BB O3 k8 k9 h8 hp0 hx0 d3 d4 d5
    go_wp2_with (refine wpList_store_row rfl 58 (.tmp 9) (.tmp 25) rfl q9 #[.int .i64 0, .slice A n c] rfl rfl 58 #[.int .i64 0, .slice none 0 0] R9 (pl_info _ _) rfl (ones2 rfl rfl) ?_)
    generalize u2.setRow q9 #[.int .i64 0, .slice A n c] = u3 at *
    clear R9
    go_loopw [27] (fun s27 wr => ∃ (t : Nat) (sv : Value) (A9 : Option Addr) (n9 c9 : Nat) (p : Nat → Bool) (Xf : Nat → Prop), s27 = .int .i64 (t : Int) ∧ t ≤ T ∧ OpS M F u.heap.size u [(q9, 58, #[.int .i64 0, .slice A9 n9 c9]), (u.heap.size, 43, ndC g (some ⟨b, o, none⟩) 1 kc), (u.heap.size + 1 + 1, 58, #[.int .i64 0, .slice none 0 0])] q8 sv p (.agg #[.int .i64 0, .slice A9 n9 c9]) Xf wr ∧ Fresh (M.R k) X t (fun j => p j = true) Xf) (fun s27 _ => T - (intOf s27).toNat)
    case atStart => exact ⟨0, _, A, n, c, p0, X, rfl, Nat.zero_le _, HO3.out, HFR.out⟩
    case round =>
      clear HO3 HFR
      obtain ⟨t, sv, A9, n9, c9, p9, Xf, rfl, ht, hO, hfr⟩ := hrel
      have HFR := hidd hfr
      have HO := hidd hO
      have hXf : ∀ j, Xf j → j ≤ M.s.size := fun j hj => by
        obtain ⟨i, h1, s, h2, h3⟩ := (hfr.all_ j).1 (hfr.sub j hj)
        exact powR_le (N := M.s.size) HIN.out s i j h3 (HX0.out i h1)
      clear hO hfr
      by_cases hlt : t < T
      · have hS0 := HO.out.again
        have hfl : ∀ f, Fo F sv f → f < wr.heap.size := fun f hf => by
          rcases hf with hf | hf
          · exact Nat.lt_of_lt_of_le (HFL.out f hf) HO.out.fs.keep.size
          · exact HO.out.own_lt f hf
        have hle := hXf
        have hY2 : ∀ px : Nat → Bool, (∀ j, px j = true ↔ img (M.R k) Xf j) → ∀ j, subB px p9 j = true ↔ img (M.R k) Xf j ∧ ¬ p9 j = true := fun px h j => by
          rw [← h]
          unfold subB
          cases px j <;> cases p9 j <;> simp
        go_upto_region 7 with fail
        refine wp_region_slotsH 9 (by decide) (by kernel_rfl) (by kernel_rfl) (fun _ _ => true) (OpS M F u.heap.size wr [(q9, 58, #[.int .i64 0, .slice A9 n9 c9]), (u.heap.size, 43, ndC g (some ⟨b, o, none⟩) 1 kc), (u.heap.size + 1 + 1, 58, #[.int .i64 0, .slice none 0 0])] q8 sv p9 (.agg #[.int .i64 0, .slice A9 n9 c9]) Xf) (OpG M F sv (img (M.R k) Xf) (fun j => img (M.R k) Xf j ∧ ¬ p9 j = true) u.heap.size q8 q9 b o k kc (.agg #[.int .i64 0, .slice A9 n9 c9])) (EbM M) (by kernel_rfl) (by kernel_rfl) (by kernel_rfl) (by kernel_rfl) ?_ (hS0.below (bel_drew (Below.refl _ _))) [0, 4, 8, 9] (by kernel_rfl) ?_ ?_ ?_
        · intro t dd v u u' _ hS h hE
          refine ⟨h.1, fun R hR => ?_⟩
          have h2 := h.2 R hR
          unfold OpGP at hR
          split at hR
          · cases hR; exact hS.fs.plO h2 hE
          · cases hR; exact hS.fs.plO h2 hE
          · cases hR
        · intro u _
          refine ⟨⟨_, rfl, ?_⟩, ⟨_, rfl, ?_⟩, ⟨_, rfl, ?_⟩, ⟨_, rfl, ?_⟩, trivial⟩ <;> exact ⟨fun _ h => Option.some.inj h, fun _ h => no_some h⟩
        · refine ⟨?_, ?_, ?_, ?_, ?_, ?_, ?_, ?_, ?_, trivial⟩
          · intro a u hS hr K hK
            obtain ⟨⟨vl0, e0, g0⟩, -⟩ := hr
            obtain rfl := g0.1 _ rfl
            clear g0
            rw [if_pos (want_none rfl)]
            unfold Oper.wp
            go_simp
            exact hK _ _ ⟨fun _ h => Option.some.inj h, fun _ h => no_some h⟩ hS (eby rfl (Below.refl _ _))
          · intro a u hS hr K hK
            obtain ⟨⟨vl0, e0, g0⟩, -⟩ := hr
            obtain rfl := g0.1 _ rfl
            clear g0
            rw [if_pos (want_none rfl)]
            unfold Oper.wp
            go_simp
            exact hK _ _ ⟨fun _ h => Option.some.inj h, fun _ h => no_some h⟩ hS (eby rfl (Below.refl _ _))
          · intro a u hS hr K hK
            obtain ⟨⟨vl0, e0, g0⟩, -⟩ := hr
            obtain rfl := g0.1 _ rfl
            clear g0
            rw [if_pos (want_none rfl)]
            have d0 := hS.fs.r1.at_ (k := 5) rfl
            unfold Oper.wp
            go_simp
            exact hK _ _ ⟨fun _ h => Option.some.inj h, fun _ h => no_some h⟩ hS (eby rfl (Below.refl _ _))
          · intro a u hS hr K hK
            obtain ⟨⟨vl0, e0, g0⟩, -⟩ := hr
            obtain rfl := g0.1 _ rfl
            clear g0
            rw [if_pos (want_none rfl)]
            unfold Oper.wp
            go_simp
            exact hK _ _ ⟨fun _ h => Option.some.inj h, fun _ h => no_some h⟩ hS (eby rfl (Below.refl _ _))
          · intro a u hS hr K hK
            obtain ⟨⟨vl0, e0, g0⟩, -⟩ := hr
            obtain rfl := g0.1 _ rfl
            clear g0
            rw [if_pos (want_none rfl)]
            have d0 := hS.fs.kid hkb hkc
            unfold Oper.wp
            go_simp
            exact hK _ _ ⟨fun _ h => Option.some.inj h, fun _ h => no_some h⟩ hS (eby rfl (Below.refl _ _))
          · intro a u hS hr K hK
            obtain ⟨⟨vl0, e0, g0⟩, -⟩ := hr
            obtain rfl := g0.1 _ rfl
            clear g0
            rw [if_pos (want_none rfl)]
            have d0 := hS.fs.r0.at_ (k := 0) rfl
            have d1 := hS.fs.r0.at_ (k := 1) rfl
            unfold Oper.wp
            go_simp
            exact hK _ _ ⟨fun _ h => Option.some.inj h, fun _ h => no_some h⟩ hS (eby rfl (Below.refl _ _))
          · intro a u hS hr K hK
            obtain ⟨⟨vl0, e0, g0⟩, ⟨vl1, e1, g1⟩, ⟨vl2, e2, g2⟩, -⟩ := hr
            obtain rfl := g0.1 _ rfl
            clear g0
            obtain rfl := g1.1 _ rfl
            clear g1
            obtain rfl := g2.1 _ rfl
            clear g2
            rw [if_pos (want_none rfl)]
            unfold Oper.wp
            go_simp
            refine (hE (Fo F sv) u _ _ (hS.fs.inp hfl hle)).mono ?_
            rintro e u1 ⟨v1, rfl, hm1, hk1, hp1, ho1⟩
            exact hK _ _ ⟨fun _ h => no_some h, fun _ h => spec_ok h ⟨hp1, ho1⟩⟩ (hS.step hm1 hk1) hk1
          · intro a u hS hr K hK
            obtain ⟨⟨vl0, e0, g0⟩, -⟩ := hr
            obtain rfl := g0.1 _ rfl
            clear g0
            rw [if_pos (want_none rfl)]
            have d0 := hS.pb.1.at_ (k := 0) rfl
            have d1 := hS.pb.1.at_ (k := 1) rfl
            unfold Oper.wp
            go_simp
            exact hK _ _ ⟨fun _ h => Option.some.inj h, fun _ h => no_some h⟩ hS (eby rfl (Below.refl _ _))
          · intro a u hS hr K hK
            obtain ⟨⟨vl0, e0, g0⟩, ⟨vl1, e1, g1⟩, -⟩ := hr
            replace g0 := g0.2 _ rfl
            obtain rfl := g1.1 _ rfl
            clear g1
            rw [if_pos (want_none rfl)]
            obtain ⟨⟨px, hpx, hxx⟩, hox⟩ := g0
            unfold Oper.wp
            go_simp
            refine (without_any _ _ px p9 u hpx hS.pb.pl).mono ?_
            rintro e u1 ⟨hb, v1, rfl, hp1, hn1⟩
            exact hK _ _ ⟨fun _ h => no_some h, fun _ h => spec_ok h ⟨⟨_, hp1, hY2 px hxx⟩, fun b hb2 hf => by have := hn1 b hb2; have := hfl b hf; have := hS.fs.keep.size; omega⟩⟩ (hS.below hb) (eby rfl hb)
        intro a u4 hS4 hts hd hkn hf
        obtain ⟨v29, e29, g29⟩ := hf 0 _ 29 (by decide) rfl rfl (fun _ => rfl)
        obtain ⟨v30, e30, g30⟩ := hf 1 _ 30 (by decide) rfl rfl (fun _ => rfl)
        obtain ⟨v31, e31, g31⟩ := hf 2 _ 31 (by decide) rfl rfl (fun _ => rfl)
        obtain ⟨v32, e32, g32⟩ := hf 3 _ 32 (by decide) rfl rfl (fun _ => rfl)
        obtain ⟨v33, e33, g33⟩ := hf 4 _ 33 (by decide) rfl rfl (fun _ => rfl)
        obtain ⟨v34, e34, g34⟩ := hf 5 _ 34 (by decide) rfl rfl (fun _ => rfl)
        obtain ⟨v35, e35, g35⟩ := hf 6 _ 35 (by decide) rfl rfl (fun _ => rfl)
        obtain ⟨v36, e36, g36⟩ := hf 7 _ 36 (by decide) rfl rfl (fun _ => rfl)
        obtain ⟨v37, e37, g37⟩ := hf 8 _ 37 (by decide) rfl rfl (fun _ => rfl)
        have hA := act_putsH [(29, v29), (30, v30), (31, v31), (32, v32), (33, v33), (34, v34), (35, v35), (36, v36), (37, v37)] hts hd hkn (by kernel_rfl) (by simp [e29, e30, e31, e32, e33, e34, e35, e36, e37])
        clear hf hts hd hkn e29 e30 e31 e32 e33 e34 e35 e36 e37
        obtain rfl := g29.1 _ rfl
        clear g29
        obtain rfl := g30.1 _ rfl
        clear g30
        obtain rfl := g31.1 _ rfl
        clear g31
        obtain rfl := g32.1 _ rfl
        clear g32
        obtain rfl := g33.1 _ rfl
        clear g33
        obtain rfl := g34.1 _ rfl
        clear g34
        replace g35 := g35.2 _ rfl
        obtain rfl := g36.1 _ rfl
        clear g36
        replace g37 := g37.2 _ rfl
        subst hA
        simp only [List.foldl, List.setIfInBounds_toArray, List.set_cons_zero, List.set_cons_succ]
        simp only [List.drop_succ_cons, List.drop_zero]
        obtain ⟨hp37, ho37⟩ := g37
        obtain ⟨A1, n1, c1, rfl⟩ := hp37.form
        have C4 := (HO.out.chain hS4).turn hp37 ho37
        have R9 := C4.fs.r0
        have hq9u : u.heap.size + 1 + 1 < q9 := by have := HF1.out.r2.lt; omega
        have G1 := C4.setRow (c' := #[.int .i64 0, .slice A1 n1 c1]) (by omega) (fun x hx => by simp at hx; rcases hx with e | e <;> (subst e; simp; omega)) rfl
        clear hS4 hS0 C4 g35
        go_upto_region 8 with (refine wpList_store_row rfl 58 (.tmp 9) (.tmp 37) rfl q9 #[.int .i64 0, .slice A1 n1 c1] rfl rfl 58 #[.int .i64 0, .slice A9 n9 c9] R9 (pl_info _ _) rfl (ones2 rfl rfl) ?_)
        rw [put_none]
        generalize u4.setRow q9 #[.int .i64 0, .slice A1 n1 c1] = u5 at *
        clear R9 hp37 ho37
        obtain ⟨p2, hp2, hx2⟩ := G1.fs.pl
        have hno := none_any _ p2 u5 hp2
        have rr9 := pl_range G1.fs.r0
        have HG1 := hidd G1
        have HX2 := hidd hx2
        have HLE := hidd hle
        have HFL2 := hidd hfl
        clear G1 hp2 hx2 hle hfl hY2 hXf
        go_wp2_with (refine wpList_load_mid rfl 58 (.tmp 9) rfl q9 0 rfl [.int .i64 0, .slice A1 n1 c1] _ rr9 Tryd.underlying58 rfl (pl_info _ _) ?_)
        refine hno.mono ?_
        rintro e u6 ⟨z, rfl, hz, b6⟩
        have G6 := HG1.out.below b6
        clear hno rr9 b6
        cases z with
        | true =>
          have HY : Hid (∀ j, p9 j = true ↔ img (upR (M.R k) T) X j) := fun j => by
            have h1 := HFR.out.none (fun j hj => by
              cases e : p9 j with
              | true => rfl
              | false =>
                have := (HX2.out j).2 ⟨hj, by rw [e]; simp⟩
                rw [(hz.1 rfl) j] at this
                cases this) (T - t) j
            rw [show t + (T - t) = T from by omega] at h1
            exact h1.symm
          have HO6 := hidd G6
          clear G6 hz
          obtain ⟨A8, n8, c8, e8⟩ := pl_form HO6.out.pb.pl
          have e8 := agg2_inj e8
          subst e8
          have R6 := HO6.out.fs.r2
          have rr8 := pl_range HO6.out.pb.1
          have hq9u : u.heap.size + 1 + 1 < q9 := by have := HF1.out.r2.lt; omega
          have HFIN : Hid (RetQ M F u (img (upR (M.R k) T) X) (.returned (.agg #[.int .i64 0, .slice A8 n8 c8])) (u6.setRow (u.heap.size + 1 + 1) #[.int .i64 0, .slice A8 n8 c8])) := HO6.out.done HFL.out (by omega) (by simp; omega) (by simp; omega) rfl HY.out
          have HRF := hidd (R6.row #[.int .i64 0, .slice A8 n8 c8])
          go_wp2_with (first
            | refine wpList_load_mid rfl 58 (.tmp 8) rfl q8 0 rfl [.int .i64 0, .slice A8 n8 c8] _ rr8 Tryd.underlying58 rfl (pl_info _ _) ?_
            | refine wpList_store_row rfl 58 (.tmp 6) (.tmp 43) rfl (u.heap.size + 1 + 1) #[.int .i64 0, .slice A8 n8 c8] rfl rfl 58 #[.int .i64 0, .slice none 0 0] R6 (pl_info _ _) rfl (ones2 rfl rfl) ?_)
          exact ret_places Tryd.results65 rfl HRF.out rfl HFIN.out
        | false =>
          obtain ⟨p3, hp3, hx3⟩ := G6.fs.pl
          have hjo := Jo.join_any u.heap.size u6 q8 sv p9 p3 _ G6.pb (by have := G6.fs.keep.size; omega) hp3 (fun b hb => ⟨hp3.off G6.pb.1 rfl (fun x q => by cases q) hb, fun q => G6.fs.off b hb (.inr q)⟩)
          have rr9 := pl_range G6.fs.r0
          have HG6 := hidd G6
          clear G6 hp3 hz
          go_wp2_with (refine wpList_load_mid rfl 58 (.tmp 9) rfl q9 0 rfl [.int .i64 0, .slice A1 n1 c1] _ rr9 Tryd.underlying58 rfl (pl_info _ _) ?_)
          refine hjo.mono ?_
          intro e u7 h7
          obtain ⟨rfl, sv7, O7⟩ := HG6.out.more (Nat.le_refl _) (fun x hx => by
            simp at hx
            rcases hx with e | e | e
            · subst e; exact (show (58 : TypeId) ≠ 39 by decide)
            · subst e; exact (show (43 : TypeId) ≠ 39 by decide)
            · subst e; exact (show (58 : TypeId) ≠ 39 by decide)) h7
          have HN : Hid (OpS M F u.heap.size u [(q9, 58, #[.int .i64 0, .slice A1 n1 c1]), (u.heap.size, 43, ndC g (some ⟨b, o, none⟩) 1 kc), (u.heap.size + 1 + 1, 58, #[.int .i64 0, .slice none 0 0])] q8 sv7 (orB p9 p3) (.agg #[.int .i64 0, .slice A1 n1 c1]) (fun j => img (M.R k) Xf j ∧ ¬ p9 j = true) u7 ∧ Fresh (M.R k) X (t + 1) (fun j => orB p9 p3 j = true) (fun j => img (M.R k) Xf j ∧ ¬ p9 j = true)) := by
            refine ⟨O7, HFR.out.next (fun j => Iff.rfl) (fun j => ?_)⟩
            rw [← hx3 j]
            unfold orB
            simp
          clear hjo rr9 O7 h7 hx3
          go_wp2
          exact ⟨⟨t + 1, sv7, A1, n1, c1, orB p9 p3, _, rfl, by omega, HN.out.1, HN.out.2⟩, by simp [intOf]; omega⟩
      · have HY : Hid (∀ j, p9 j = true ↔ img (upR (M.R k) T) X j) := fun j => by
          have := HFR.out.all_ j
          rw [show t = T from by omega] at this
          exact this
        clear hXf
        obtain ⟨A8, n8, c8, e8⟩ := pl_form HO.out.pb.pl
        have e8 := agg2_inj e8
        subst e8
        have R6 := HO.out.fs.r2
        have rr8 := pl_range HO.out.pb.1
        have hq9u : u.heap.size + 1 + 1 < q9 := by have := HF1.out.r2.lt; omega
        have HFIN : Hid (RetQ M F u (img (upR (M.R k) T) X) (.returned (.agg #[.int .i64 0, .slice A8 n8 c8])) (wr.setRow (u.heap.size + 1 + 1) #[.int .i64 0, .slice A8 n8 c8])) := HO.out.done HFL.out (by omega) (by simp; omega) (by simp; omega) rfl HY.out
        have HRF := hidd (R6.row #[.int .i64 0, .slice A8 n8 c8])
        go_wp2_with (first
          | refine wpList_load_mid rfl 58 (.tmp 8) rfl q8 0 rfl [.int .i64 0, .slice A8 n8 c8] _ rr8 Tryd.underlying58 rfl (pl_info _ _) ?_
          | refine wpList_store_row rfl 58 (.tmp 6) (.tmp 43) rfl (u.heap.size + 1 + 1) #[.int .i64 0, .slice A8 n8 c8] rfl rfl 58 #[.int .i64 0, .slice none 0 0] R6 (pl_info _ _) rfl (ones2 rfl rfl) ?_)
        exact ret_places Tryd.results65 rfl HRF.out rfl HFIN.out
  · obtain ⟨T, hT⟩ : ∃ T : Nat, (g.hi - g.lo).toNat = T := ⟨_, rfl⟩
    have hTI : g.hi - g.lo = (T : Int) := by omega
    rw [if_neg hneg, hT]
    go_upto_region 4 with fail
    rw [hTI]
    refine wp_region_slotsB 6 (by decide) (by kernel_rfl) (by kernel_rfl) (fun _ _ => true) 5 (by decide) (A4.TwS u1 p0) (A4.OaG u1 u.heap.size p0 (.agg #[.int .i64 0, .slice A n c])) A4.EbT (by kernel_rfl) (by kernel_rfl) (by kernel_rfl) (by kernel_rfl) ?_ ⟨bel_drew (Below.refl _ _), fun g e => (by cases e), fun g e => (by cases e), fun g h e _ => (by cases e)⟩ [5] (by kernel_rfl) ?_ ?_ ?_
    · intro t dd v u u' _ h hE
      refine ⟨h.1, fun R hR => ?_⟩
      have h2 := h.2 R hR
      unfold A4.OaGP at hR
      split at hR
      · cases hR; exact h2
      · cases hR; exact h2
      · cases hR
        obtain ⟨sv, e, hcl⟩ := h2
        exact ⟨sv, e, A4.ClR.ebt hcl hE⟩
      · cases hR
    · intro _ _ u _
      refine ⟨⟨_, rfl, ?_⟩, trivial⟩
      exact ⟨fun _ h => Option.some.inj h, fun _ h => no_some h⟩
    · refine ⟨?_, ?_, ?_, ?_, ?_, ?_, trivial⟩
      · intro fl hfl a u hS hr K hK
        obtain ⟨⟨vl0, e0, g0⟩, -⟩ := hr
        obtain rfl := g0.1 _ rfl
        clear g0
        rw [if_pos (want_none rfl)]
        have d0 := (HF1.out.below hS.s).r1.at_ (k := 0) rfl
        have d1 := (HF1.out.below hS.s).r1.at_ (k := 1) rfl
        unfold Oper.wp
        go_simp
        exact hK _ _ ⟨fun _ h => Option.some.inj h, fun _ h => no_some h⟩ (hS.put rfl _) (eby rfl (Below.refl _ _))
      · intro fl hfl a u hS hr K hK
        obtain ⟨⟨vl0, e0, g0⟩, -⟩ := hr
        obtain rfl := g0.1 _ rfl
        clear g0
        rw [if_pos (want_none rfl)]
        unfold Oper.wp
        go_simp
        refine (copied_any _ p0 u (hp0.below hS.s)).mono ?_
        rintro e u1 ⟨hb, sv, rfl, hcl⟩
        exact hK _ _ ⟨fun _ h => no_some h, fun _ h => spec_ok h ⟨_, rfl, hcl.less hS.s.size⟩⟩ ((hS.below hb).put rfl _) (eby rfl hb)
      · intro fl hfl a u hS hr K hK
        obtain ⟨⟨vl0, e0, g0⟩, -⟩ := hr
        obtain rfl := g0.1 _ rfl
        clear g0
        rw [if_pos (want_none rfl)]
        have d0 := (HF1.out.below hS.s).r1.at_ (k := 0) rfl
        have d1 := (HF1.out.below hS.s).r1.at_ (k := 1) rfl
        unfold Oper.wp
        go_simp
        exact hK _ _ ⟨fun _ h => Option.some.inj h, fun _ h => no_some h⟩ (hS.put rfl _) (eby rfl (Below.refl _ _))
      · intro fl hfl a u hS hr K hK
        rw [if_pos (want_none rfl)]
        unfold Oper.wp
        go_simp
        exact hK _ _ ⟨fun _ h => no_some h, fun _ h => spec_ok h ⟨_, rfl⟩⟩ (by obtain rfl := hfl (by kernel_rfl); exact hS.new8) (eby rfl ((Below.refl _ _).alloc (Nat.le_refl _) _))
      · intro fl hfl a u hS hr K hK
        rw [if_pos (want_none rfl)]
        unfold Oper.wp
        go_simp
        exact hK _ _ ⟨fun _ h => no_some h, fun _ h => spec_ok h ⟨_, rfl⟩⟩ hS.new9 (eby rfl ((Below.refl _ _).alloc (Nat.le_refl _) _))
      · intro fl hfl a u hS hr K hK
        obtain ⟨⟨vl0, e0, g0⟩, ⟨vl1, e1, g1⟩, -⟩ := hr
        replace g0 := g0.2 _ rfl
        replace g1 := g1.2 _ rfl
        obtain ⟨q, rfl⟩ := g0
        obtain ⟨sv, rfl, hcl⟩ := g1
        obtain rfl := hfl (by kernel_rfl)
        rw [if_pos (want_none rfl)]
        obtain ⟨h1, h2, -⟩ := hS.p8 q e0
        have r := h2 rfl
        have hone : sv.oneCell' = true := by
          obtain ⟨A, n, c, e⟩ := hcl.form
          rw [e]; rfl
        refine wp_store_row 58 (.tmp 8) (.tmp 24) rfl q #[.int .i64 0, sv] (eval_at e0) (eval_at e1) 58 #[.int .i64 0, .slice none 0 0] r (pl_info _ _) rfl (ones2 rfl hone) ?_
        exact hK _ _ trivial ((hS.lay e0 hcl).put rfl _) (.inr ⟨q, _, _, r, rfl⟩)
    intro a u2 hS2 hts hd hkn hf
    obtain ⟨v23, e23, g23⟩ := hf 0 _ 23 (by decide) rfl rfl (fun _ => rfl)
    obtain ⟨v24, e24, g24⟩ := hf 1 _ 24 (by decide) rfl rfl (fun _ => rfl)
    obtain ⟨v25, e25, g25⟩ := hf 2 _ 25 (by decide) rfl rfl (fun _ => rfl)
    obtain ⟨v8, e8, g8⟩ := hf 3 _ 8 (by decide) rfl rfl (fun _ => rfl)
    obtain ⟨v9, e9, g9⟩ := hf 4 _ 9 (by decide) rfl rfl (fun _ => rfl)
    have hA := act_puts [(23, v23), (24, v24), (25, v25), (8, v8), (9, v9)] hts hd hkn (by kernel_rfl) (by simp [e23, e24, e25, e8, e9])
    have hne : ∀ p8 p9 : Nat, v8 = .pointer (some ⟨p8, 0, none⟩) → v9 = .pointer (some ⟨p9, 0, none⟩) → p8 ≠ p9 := fun p8 p9 h8 h9 => hS2.far p8 p9 (h8 ▸ e8) (h9 ▸ e9)
    have k8 := fun (q : Nat) (h : v8 = .pointer (some ⟨q, 0, none⟩)) => hS2.p8 q (h ▸ e8)
    have k9 := fun (q : Nat) (h : v9 = .pointer (some ⟨q, 0, none⟩)) => hS2.p9 q (h ▸ e9)
    have hbel := hS2.s
    clear hS2
    clear hf hts hd hkn e23 e24 e25 e8 e9
    obtain rfl := g23.1 _ rfl
    clear g23
    replace g24 := g24.2 _ rfl
    obtain rfl := g25.1 _ rfl
    clear g25
    replace g8 := g8.2 _ rfl
    replace g9 := g9.2 _ rfl
    subst hA
    simp only [List.foldl, List.setIfInBounds_toArray, List.set_cons_zero, List.set_cons_succ]
    simp only [List.drop_succ_cons, List.drop_zero]
    obtain ⟨q8, rfl⟩ := g8
    obtain ⟨q9, rfl⟩ := g9
    obtain ⟨sv0, rfl, -⟩ := g24
    obtain ⟨hq8, -, h8⟩ := k8 q8 rfl
    obtain ⟨sv, R8, hcl⟩ := h8 rfl
    obtain ⟨hq9, R9⟩ := k9 q9 rfl
    have hne := hne q8 q9 rfl rfl
    obtain ⟨As, ns, cs, rfl⟩ := hcl.form
    have BB := bel_setRow hbel q9 #[.int .i64 0, .slice A n c] hq9
    have O3 : OpS M F u.heap.size u [(q9, 58, #[.int .i64 0, .slice A n c]), (u.heap.size, 43, ndC g (some ⟨b, o, none⟩) 1 kc), (u.heap.size + 1 + 1, 58, #[.int .i64 0, .slice none 0 0])] q8 (.slice As ns cs) p0 (.agg #[.int .i64 0, .slice A n c]) X (u2.setRow q9 #[.int .i64 0, .slice A n c]) := by
      obtain ⟨cs, ms, hm⟩ := HF1.out.mi
      have F3 := HF1.out.below BB
      have hs1 := HF1.out.keep.size
      have hr0 := HF1.out.r0.lt
      have hr2 := HF1.out.r2.lt
      have hown : ∀ k, (Value.slice As ns _).ownBlock = some k → u1.heap.size ≤ k := fun k hk => by
        rcases hcl with ⟨e, _⟩ | ⟨_, o⟩
        · rw [e] at hk; cases hk
        · exact (o.lt k hk).1
      refine ⟨⟨⟨cs, ms, hm.step (P := fun _ => False) ⟨BB.os, BB.tape, BB.output, BB.size, fun k hl _ => BB.block k hl⟩ (fun k hp => hp.elim) (fun k hk => ?_)⟩, F3.keep, fun x hx => ?_, F3.pl, fun b hb hk => ?_, F3.lo⟩, ⟨R8.apart _ hne, hp0.1, ?_⟩, by omega, hB, fun x hx => ?_⟩
      · rcases hk with hk | hk
        · exact .inl hk
        · exact .inr (hown k hk)
      · simp at hx
        rcases hx with e | e | e
        · subst e; exact ⟨R9.row _, (show (58 : TypeId) ≠ 3 by decide), (show (58 : TypeId) ≠ 94 by decide)⟩
        · exact F3.rows x (by simp [e])
        · exact F3.rows x (by simp [e])
      · rcases hk with hk | hk
        · exact F3.off b hb hk
        · have := hown b hk
          have := HF1.out.pl.lt hb
          omega
      · rcases hcl with ⟨e, h⟩ | ⟨h, o⟩
        · exact .inl ⟨e, h⟩
        · exact .inr ⟨h, own_less (Cp.own_setRow o (own_neR o R9 (by decide)) _) hs1⟩
      · simp at hx
        rcases hx with e | e | e
        · subst e; exact hne.symm
        · subst e; show u.heap.size ≠ q8; omega
        · subst e; show u.heap.size + 1 + 1 ≠ q8; omega
    have HO3 := hidd O3
    have HFR : Hid (Fresh (M.R k) X 0 (fun j => p0 j = true) X) := by
      have e : (fun j => p0 j = true) = X := funext fun j => propext (hx0 j)
      show Fresh _ _ _ _ _
      rw [e]
      exact Fresh.start _ _
    clear R8 hcl hbel BB O3 k8 k9 h8 hp0 hx0 d3 d4 d5
    go_wp2_with (refine wpList_store_row rfl 58 (.tmp 9) (.tmp 25) rfl q9 #[.int .i64 0, .slice A n c] rfl rfl 58 #[.int .i64 0, .slice none 0 0] R9 (pl_info _ _) rfl (ones2 rfl rfl) ?_)
    generalize u2.setRow q9 #[.int .i64 0, .slice A n c] = u3 at *
    clear R9
    go_loopw [27] (fun s27 wr => ∃ (t : Nat) (sv : Value) (A9 : Option Addr) (n9 c9 : Nat) (p : Nat → Bool) (Xf : Nat → Prop), s27 = .int .i64 (t : Int) ∧ t ≤ T ∧ OpS M F u.heap.size u [(q9, 58, #[.int .i64 0, .slice A9 n9 c9]), (u.heap.size, 43, ndC g (some ⟨b, o, none⟩) 1 kc), (u.heap.size + 1 + 1, 58, #[.int .i64 0, .slice none 0 0])] q8 sv p (.agg #[.int .i64 0, .slice A9 n9 c9]) Xf wr ∧ Fresh (M.R k) X t (fun j => p j = true) Xf) (fun s27 _ => T - (intOf s27).toNat)
    case atStart => exact ⟨0, _, A, n, c, p0, X, rfl, Nat.zero_le _, HO3.out, HFR.out⟩
    case round =>
      clear HO3 HFR
      obtain ⟨t, sv, A9, n9, c9, p9, Xf, rfl, ht, hO, hfr⟩ := hrel
      have HFR := hidd hfr
      have HO := hidd hO
      have hXf : ∀ j, Xf j → j ≤ M.s.size := fun j hj => by
        obtain ⟨i, h1, s, h2, h3⟩ := (hfr.all_ j).1 (hfr.sub j hj)
        exact powR_le (N := M.s.size) HIN.out s i j h3 (HX0.out i h1)
      clear hO hfr
      by_cases hlt : t < T
      · have hS0 := HO.out.again
        have hfl : ∀ f, Fo F sv f → f < wr.heap.size := fun f hf => by
          rcases hf with hf | hf
          · exact Nat.lt_of_lt_of_le (HFL.out f hf) HO.out.fs.keep.size
          · exact HO.out.own_lt f hf
        have hle := hXf
        have hY2 : ∀ px : Nat → Bool, (∀ j, px j = true ↔ img (M.R k) Xf j) → ∀ j, subB px p9 j = true ↔ img (M.R k) Xf j ∧ ¬ p9 j = true := fun px h j => by
          rw [← h]
          unfold subB
          cases px j <;> cases p9 j <;> simp
        go_upto_region 7 with fail
        refine wp_region_slotsH 9 (by decide) (by kernel_rfl) (by kernel_rfl) (fun _ _ => true) (OpS M F u.heap.size wr [(q9, 58, #[.int .i64 0, .slice A9 n9 c9]), (u.heap.size, 43, ndC g (some ⟨b, o, none⟩) 1 kc), (u.heap.size + 1 + 1, 58, #[.int .i64 0, .slice none 0 0])] q8 sv p9 (.agg #[.int .i64 0, .slice A9 n9 c9]) Xf) (OpG M F sv (img (M.R k) Xf) (fun j => img (M.R k) Xf j ∧ ¬ p9 j = true) u.heap.size q8 q9 b o k kc (.agg #[.int .i64 0, .slice A9 n9 c9])) (EbM M) (by kernel_rfl) (by kernel_rfl) (by kernel_rfl) (by kernel_rfl) ?_ (hS0.below (bel_drew (Below.refl _ _))) [0, 4, 8, 9] (by kernel_rfl) ?_ ?_ ?_
        · intro t dd v u u' _ hS h hE
          refine ⟨h.1, fun R hR => ?_⟩
          have h2 := h.2 R hR
          unfold OpGP at hR
          split at hR
          · cases hR; exact hS.fs.plO h2 hE
          · cases hR; exact hS.fs.plO h2 hE
          · cases hR
        · intro u _
          refine ⟨⟨_, rfl, ?_⟩, ⟨_, rfl, ?_⟩, ⟨_, rfl, ?_⟩, ⟨_, rfl, ?_⟩, trivial⟩ <;> exact ⟨fun _ h => Option.some.inj h, fun _ h => no_some h⟩
        · refine ⟨?_, ?_, ?_, ?_, ?_, ?_, ?_, ?_, ?_, trivial⟩
          · intro a u hS hr K hK
            obtain ⟨⟨vl0, e0, g0⟩, -⟩ := hr
            obtain rfl := g0.1 _ rfl
            clear g0
            rw [if_pos (want_none rfl)]
            unfold Oper.wp
            go_simp
            exact hK _ _ ⟨fun _ h => Option.some.inj h, fun _ h => no_some h⟩ hS (eby rfl (Below.refl _ _))
          · intro a u hS hr K hK
            obtain ⟨⟨vl0, e0, g0⟩, -⟩ := hr
            obtain rfl := g0.1 _ rfl
            clear g0
            rw [if_pos (want_none rfl)]
            unfold Oper.wp
            go_simp
            exact hK _ _ ⟨fun _ h => Option.some.inj h, fun _ h => no_some h⟩ hS (eby rfl (Below.refl _ _))
          · intro a u hS hr K hK
            obtain ⟨⟨vl0, e0, g0⟩, -⟩ := hr
            obtain rfl := g0.1 _ rfl
            clear g0
            rw [if_pos (want_none rfl)]
            have d0 := hS.fs.r1.at_ (k := 5) rfl
            unfold Oper.wp
            go_simp
            exact hK _ _ ⟨fun _ h => Option.some.inj h, fun _ h => no_some h⟩ hS (eby rfl (Below.refl _ _))
          · intro a u hS hr K hK
            obtain ⟨⟨vl0, e0, g0⟩, -⟩ := hr
            obtain rfl := g0.1 _ rfl
            clear g0
            rw [if_pos (want_none rfl)]
            unfold Oper.wp
            go_simp
            exact hK _ _ ⟨fun _ h => Option.some.inj h, fun _ h => no_some h⟩ hS (eby rfl (Below.refl _ _))
          · intro a u hS hr K hK
            obtain ⟨⟨vl0, e0, g0⟩, -⟩ := hr
            obtain rfl := g0.1 _ rfl
            clear g0
            rw [if_pos (want_none rfl)]
            have d0 := hS.fs.kid hkb hkc
            unfold Oper.wp
            go_simp
            exact hK _ _ ⟨fun _ h => Option.some.inj h, fun _ h => no_some h⟩ hS (eby rfl (Below.refl _ _))
          · intro a u hS hr K hK
            obtain ⟨⟨vl0, e0, g0⟩, -⟩ := hr
            obtain rfl := g0.1 _ rfl
            clear g0
            rw [if_pos (want_none rfl)]
            have d0 := hS.fs.r0.at_ (k := 0) rfl
            have d1 := hS.fs.r0.at_ (k := 1) rfl
            unfold Oper.wp
            go_simp
            exact hK _ _ ⟨fun _ h => Option.some.inj h, fun _ h => no_some h⟩ hS (eby rfl (Below.refl _ _))
          · intro a u hS hr K hK
            obtain ⟨⟨vl0, e0, g0⟩, ⟨vl1, e1, g1⟩, ⟨vl2, e2, g2⟩, -⟩ := hr
            obtain rfl := g0.1 _ rfl
            clear g0
            obtain rfl := g1.1 _ rfl
            clear g1
            obtain rfl := g2.1 _ rfl
            clear g2
            rw [if_pos (want_none rfl)]
            unfold Oper.wp
            go_simp
            refine (hE (Fo F sv) u _ _ (hS.fs.inp hfl hle)).mono ?_
            rintro e u1 ⟨v1, rfl, hm1, hk1, hp1, ho1⟩
            exact hK _ _ ⟨fun _ h => no_some h, fun _ h => spec_ok h ⟨hp1, ho1⟩⟩ (hS.step hm1 hk1) hk1
          · intro a u hS hr K hK
            obtain ⟨⟨vl0, e0, g0⟩, -⟩ := hr
            obtain rfl := g0.1 _ rfl
            clear g0
            rw [if_pos (want_none rfl)]
            have d0 := hS.pb.1.at_ (k := 0) rfl
            have d1 := hS.pb.1.at_ (k := 1) rfl
            unfold Oper.wp
            go_simp
            exact hK _ _ ⟨fun _ h => Option.some.inj h, fun _ h => no_some h⟩ hS (eby rfl (Below.refl _ _))
          · intro a u hS hr K hK
            obtain ⟨⟨vl0, e0, g0⟩, ⟨vl1, e1, g1⟩, -⟩ := hr
            replace g0 := g0.2 _ rfl
            obtain rfl := g1.1 _ rfl
            clear g1
            rw [if_pos (want_none rfl)]
            obtain ⟨⟨px, hpx, hxx⟩, hox⟩ := g0
            unfold Oper.wp
            go_simp
            refine (without_any _ _ px p9 u hpx hS.pb.pl).mono ?_
            rintro e u1 ⟨hb, v1, rfl, hp1, hn1⟩
            exact hK _ _ ⟨fun _ h => no_some h, fun _ h => spec_ok h ⟨⟨_, hp1, hY2 px hxx⟩, fun b hb2 hf => by have := hn1 b hb2; have := hfl b hf; have := hS.fs.keep.size; omega⟩⟩ (hS.below hb) (eby rfl hb)
        intro a u4 hS4 hts hd hkn hf
        obtain ⟨v29, e29, g29⟩ := hf 0 _ 29 (by decide) rfl rfl (fun _ => rfl)
        obtain ⟨v30, e30, g30⟩ := hf 1 _ 30 (by decide) rfl rfl (fun _ => rfl)
        obtain ⟨v31, e31, g31⟩ := hf 2 _ 31 (by decide) rfl rfl (fun _ => rfl)
        obtain ⟨v32, e32, g32⟩ := hf 3 _ 32 (by decide) rfl rfl (fun _ => rfl)
        obtain ⟨v33, e33, g33⟩ := hf 4 _ 33 (by decide) rfl rfl (fun _ => rfl)
        obtain ⟨v34, e34, g34⟩ := hf 5 _ 34 (by decide) rfl rfl (fun _ => rfl)
        obtain ⟨v35, e35, g35⟩ := hf 6 _ 35 (by decide) rfl rfl (fun _ => rfl)
        obtain ⟨v36, e36, g36⟩ := hf 7 _ 36 (by decide) rfl rfl (fun _ => rfl)
        obtain ⟨v37, e37, g37⟩ := hf 8 _ 37 (by decide) rfl rfl (fun _ => rfl)
        have hA := act_putsH [(29, v29), (30, v30), (31, v31), (32, v32), (33, v33), (34, v34), (35, v35), (36, v36), (37, v37)] hts hd hkn (by kernel_rfl) (by simp [e29, e30, e31, e32, e33, e34, e35, e36, e37])
        clear hf hts hd hkn e29 e30 e31 e32 e33 e34 e35 e36 e37
        obtain rfl := g29.1 _ rfl
        clear g29
        obtain rfl := g30.1 _ rfl
        clear g30
        obtain rfl := g31.1 _ rfl
        clear g31
        obtain rfl := g32.1 _ rfl
        clear g32
        obtain rfl := g33.1 _ rfl
        clear g33
        obtain rfl := g34.1 _ rfl
        clear g34
        replace g35 := g35.2 _ rfl
        obtain rfl := g36.1 _ rfl
        clear g36
        replace g37 := g37.2 _ rfl
        subst hA
        simp only [List.foldl, List.setIfInBounds_toArray, List.set_cons_zero, List.set_cons_succ]
        simp only [List.drop_succ_cons, List.drop_zero]
        obtain ⟨hp37, ho37⟩ := g37
        obtain ⟨A1, n1, c1, rfl⟩ := hp37.form
        have C4 := (HO.out.chain hS4).turn hp37 ho37
        have R9 := C4.fs.r0
        have hq9u : u.heap.size + 1 + 1 < q9 := by have := HF1.out.r2.lt; omega
        have G1 := C4.setRow (c' := #[.int .i64 0, .slice A1 n1 c1]) (by omega) (fun x hx => by simp at hx; rcases hx with e | e <;> (subst e; simp; omega)) rfl
        clear hS4 hS0 C4 g35
        go_upto_region 8 with (refine wpList_store_row rfl 58 (.tmp 9) (.tmp 37) rfl q9 #[.int .i64 0, .slice A1 n1 c1] rfl rfl 58 #[.int .i64 0, .slice A9 n9 c9] R9 (pl_info _ _) rfl (ones2 rfl rfl) ?_)
        rw [put_none]
        generalize u4.setRow q9 #[.int .i64 0, .slice A1 n1 c1] = u5 at *
        clear R9 hp37 ho37
        obtain ⟨p2, hp2, hx2⟩ := G1.fs.pl
        have hno := none_any _ p2 u5 hp2
        have rr9 := pl_range G1.fs.r0
        have HG1 := hidd G1
        have HX2 := hidd hx2
        have HLE := hidd hle
        have HFL2 := hidd hfl
        clear G1 hp2 hx2 hle hfl hY2 hXf
        go_wp2_with (refine wpList_load_mid rfl 58 (.tmp 9) rfl q9 0 rfl [.int .i64 0, .slice A1 n1 c1] _ rr9 Tryd.underlying58 rfl (pl_info _ _) ?_)
        refine hno.mono ?_
        rintro e u6 ⟨z, rfl, hz, b6⟩
        have G6 := HG1.out.below b6
        clear hno rr9 b6
        cases z with
        | true =>
          have HY : Hid (∀ j, p9 j = true ↔ img (upR (M.R k) T) X j) := fun j => by
            have h1 := HFR.out.none (fun j hj => by
              cases e : p9 j with
              | true => rfl
              | false =>
                have := (HX2.out j).2 ⟨hj, by rw [e]; simp⟩
                rw [(hz.1 rfl) j] at this
                cases this) (T - t) j
            rw [show t + (T - t) = T from by omega] at h1
            exact h1.symm
          have HO6 := hidd G6
          clear G6 hz
          obtain ⟨A8, n8, c8, e8⟩ := pl_form HO6.out.pb.pl
          have e8 := agg2_inj e8
          subst e8
          have R6 := HO6.out.fs.r2
          have rr8 := pl_range HO6.out.pb.1
          have hq9u : u.heap.size + 1 + 1 < q9 := by have := HF1.out.r2.lt; omega
          have HFIN : Hid (RetQ M F u (img (upR (M.R k) T) X) (.returned (.agg #[.int .i64 0, .slice A8 n8 c8])) (u6.setRow (u.heap.size + 1 + 1) #[.int .i64 0, .slice A8 n8 c8])) := HO6.out.done HFL.out (by omega) (by simp; omega) (by simp; omega) rfl HY.out
          have HRF := hidd (R6.row #[.int .i64 0, .slice A8 n8 c8])
          go_wp2_with (first
            | refine wpList_load_mid rfl 58 (.tmp 8) rfl q8 0 rfl [.int .i64 0, .slice A8 n8 c8] _ rr8 Tryd.underlying58 rfl (pl_info _ _) ?_
            | refine wpList_store_row rfl 58 (.tmp 6) (.tmp 43) rfl (u.heap.size + 1 + 1) #[.int .i64 0, .slice A8 n8 c8] rfl rfl 58 #[.int .i64 0, .slice none 0 0] R6 (pl_info _ _) rfl (ones2 rfl rfl) ?_)
          exact ret_places Tryd.results65 rfl HRF.out rfl HFIN.out
        | false =>
          obtain ⟨p3, hp3, hx3⟩ := G6.fs.pl
          have hjo := Jo.join_any u.heap.size u6 q8 sv p9 p3 _ G6.pb (by have := G6.fs.keep.size; omega) hp3 (fun b hb => ⟨hp3.off G6.pb.1 rfl (fun x q => by cases q) hb, fun q => G6.fs.off b hb (.inr q)⟩)
          have rr9 := pl_range G6.fs.r0
          have HG6 := hidd G6
          clear G6 hp3 hz
          go_wp2_with (refine wpList_load_mid rfl 58 (.tmp 9) rfl q9 0 rfl [.int .i64 0, .slice A1 n1 c1] _ rr9 Tryd.underlying58 rfl (pl_info _ _) ?_)
          refine hjo.mono ?_
          intro e u7 h7
          obtain ⟨rfl, sv7, O7⟩ := HG6.out.more (Nat.le_refl _) (fun x hx => by
            simp at hx
            rcases hx with e | e | e
            · subst e; exact (show (58 : TypeId) ≠ 39 by decide)
            · subst e; exact (show (43 : TypeId) ≠ 39 by decide)
            · subst e; exact (show (58 : TypeId) ≠ 39 by decide)) h7
          have HN : Hid (OpS M F u.heap.size u [(q9, 58, #[.int .i64 0, .slice A1 n1 c1]), (u.heap.size, 43, ndC g (some ⟨b, o, none⟩) 1 kc), (u.heap.size + 1 + 1, 58, #[.int .i64 0, .slice none 0 0])] q8 sv7 (orB p9 p3) (.agg #[.int .i64 0, .slice A1 n1 c1]) (fun j => img (M.R k) Xf j ∧ ¬ p9 j = true) u7 ∧ Fresh (M.R k) X (t + 1) (fun j => orB p9 p3 j = true) (fun j => img (M.R k) Xf j ∧ ¬ p9 j = true)) := by
            refine ⟨O7, HFR.out.next (fun j => Iff.rfl) (fun j => ?_)⟩
            rw [← hx3 j]
            unfold orB
            simp
          clear hjo rr9 O7 h7 hx3
          go_wp2
          exact ⟨⟨t + 1, sv7, A1, n1, c1, orB p9 p3, _, rfl, by omega, HN.out.1, HN.out.2⟩, by simp [intOf]; omega⟩
      · have HY : Hid (∀ j, p9 j = true ↔ img (upR (M.R k) T) X j) := fun j => by
          have := HFR.out.all_ j
          rw [show t = T from by omega] at this
          exact this
        clear hXf
        obtain ⟨A8, n8, c8, e8⟩ := pl_form HO.out.pb.pl
        have e8 := agg2_inj e8
        subst e8
        have R6 := HO.out.fs.r2
        have rr8 := pl_range HO.out.pb.1
        have hq9u : u.heap.size + 1 + 1 < q9 := by have := HF1.out.r2.lt; omega
        have HFIN : Hid (RetQ M F u (img (upR (M.R k) T) X) (.returned (.agg #[.int .i64 0, .slice A8 n8 c8])) (wr.setRow (u.heap.size + 1 + 1) #[.int .i64 0, .slice A8 n8 c8])) := HO.out.done HFL.out (by omega) (by simp; omega) (by simp; omega) rfl HY.out
        have HRF := hidd (R6.row #[.int .i64 0, .slice A8 n8 c8])
        go_wp2_with (first
          | refine wpList_load_mid rfl 58 (.tmp 8) rfl q8 0 rfl [.int .i64 0, .slice A8 n8 c8] _ rr8 Tryd.underlying58 rfl (pl_info _ _) ?_
          | refine wpList_store_row rfl 58 (.tmp 6) (.tmp 43) rfl (u.heap.size + 1 + 1) #[.int .i64 0, .slice A8 n8 c8] rfl rfl 58 #[.int .i64 0, .slice none 0 0] R6 (pl_info _ _) rfl (ones2 rfl rfl) ?_)
        exact ret_places Tryd.results65 rfl HRF.out rfl HFIN.out
end Go.Proofs.YtcgondjekpcpgaaDoor.Sy.Lg.Oq

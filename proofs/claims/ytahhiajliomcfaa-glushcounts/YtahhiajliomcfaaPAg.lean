/- The reference's Right. -/
import Derived.Test.YtahhiajliomcfaaPSe
import Derived.Test.YtahhiajliomcfaaPM1
import Derived.ProofKit
import Derived.OpenShut
import Derived.ChangeOld
import Derived.Below
import Derived.Deep.Slices
namespace Go.Proofs.Ytahhiajliomcfaa.Sy
open Go.RowKit
set_option maxRecDepth 100000
set_option linter.unusedVariables false

theorem kidsOf_to {gs : List Gd} : ∀ i m, (gs.map toN)[i]? = some m → m.l = (kidsOf gs i).map Int.toNat := fun i m h => by
  rcases Nat.lt_or_ge i gs.length with hi | hi
  · rw [toN_at hi] at h
    cases h
    rfl
  · rw [List.getElem?_eq_none (by simpa using hi)] at h
    cases h
theorem ref_iff (gs : List Gd) (h1 : 1 ≤ gs.length) (h2 : gs.length ≤ 1024) : ((∀ j, j < gs.length → shapeG (gs.getD j gd0) = true) ∧ walkF (kidsOf gs) gs.length gs.length (gs.length - 1) [] = some (List.range gs.length)) ↔ RightG gs := by
  constructor
  · rintro ⟨hs, hw⟩
    obtain ⟨hk, f⟩ := (walk_iff (ns := gs.map toN) kidsOf_to (by simp) h1).1 hw
    have hgn : GN gs (gs.map toN) := by
      refine ⟨by simp, fun i hi => ?_⟩
      have : (gs.map toN).getD i nd0 = toN (gs.getD i gd0) := by rw [List.getD_eq_getElem?_getD, toN_at hi]; rfl
      rw [this]
      exact gn1_to (shape_op (hs i hi)) (hk i hi)
    refine ⟨gs.map toN, hgn, fun n hn => ?_, by simpa using h1, by simpa using h2, by simpa using f⟩
    obtain ⟨i, hi, rfl⟩ := List.getElem_of_mem hn
    rw [List.length_map] at hi
    have g1 := hgn.2 i hi
    have e : (gs.map toN).getD i nd0 = (gs.map toN)[i] := by rw [List.getD_eq_getElem?_getD, List.getElem?_eq_getElem (by simpa using hi)]; rfl
    rw [e] at g1
    rw [← shape_same g1]
    exact hs i hi
  · rintro ⟨ns, hgn, hsh, h3, h4, f⟩
    have hlen : gs.length = ns.length := hgn.1
    have hat : ∀ i m, ns[i]? = some m → GN1 (gs.getD i gd0) m := fun i m h => by
      have hi : i < ns.length := by
        rcases Nat.lt_or_ge i ns.length with q | q
        · exact q
        · rw [List.getElem?_eq_none q] at h; cases h
      have g1 := hgn.2 i (by omega)
      rw [List.getD_eq_getElem?_getD (l := ns), h] at g1
      exact g1
    refine ⟨fun j hj => ?_, (walk_iff (ns := ns) (fun i m h => ?_) hlen.symm h1).2 ⟨fun i hi k hk => ?_, by rw [hlen]; exact f⟩⟩
    · have hj' : j < ns.length := by omega
      have := hat j _ (List.getElem?_eq_getElem hj')
      rw [shape_same this]
      exact hsh _ (List.getElem_mem hj')
    · unfold kidsOf
      rw [(hat i m h).l, map_id_back]
    · have hi' : i < ns.length := by omega
      unfold kidsOf at hk
      rw [(hat i _ (List.getElem?_eq_getElem hi')).l] at hk
      obtain ⟨x, _, rfl⟩ := List.mem_map.1 hk
      exact Int.natCast_nonneg _
theorem range_iff {out : List Nat} {n : Nat} (hl : out.length = n) (h : ∀ j, j < n → out.getD j 0 = j) : out = List.range n := by
  apply List.ext_getElem (by simp [hl])
  intro i h1 h2
  have := h i (by omega)
  rw [List.getD_eq_getElem?_getD, List.getElem?_eq_getElem h1] at this
  simpa using this
theorem range_no {out : List Nat} {n j : Nat} (hj : j < n) (h : out.getD j 0 ≠ j) : out ≠ List.range n := fun e => h (by
  rw [e, List.getD_eq_getElem?_getD, List.getElem?_eq_getElem (by simpa using hj)]
  simp)

set_option maxHeartbeats 1000000 in
theorem refRight_any (A : Option Addr) (c : Nat) (gs : List Gd) (w : World) (hx : Nds w w.heap.size A gs) (hlg : gs.length ≤ 2000) (hnm : ∀ g ∈ gs, g.nm.size ≤ maxLen ∧ g.l.length ≤ maxLen) :
    Calls Try.prog 37 #[.slice A gs.length c] w fun e w' => RgtR gs w e w' := by
  by_cases hlo : gs.length < 1
  · have HN : Hid (¬ RightG gs) := fun h => by have := (right_len h).1; omega
    have hloi : (gs.length : Int) < 1 := by omega
    generalize gs.length = n at *
    go_enter Try.func37, Try.ntmps37
    go_wp2
    go_ret
    exact RgtR.no rfl HN.out (Below.refl _ _)
  · have hloi : ¬ (gs.length : Int) < 1 := by omega
    by_cases hhi : 1024 < gs.length
    · have HN : Hid (¬ RightG gs) := fun h => by have := (right_len h).2; omega
      have hhii : decide ((1024 : Int) < (gs.length : Int)) = true := decide_eq_true (by omega)
      generalize gs.length = n at *
      go_enter Try.func37, Try.ntmps37
      go_wp2
      go_ret
      exact RgtR.no rfl HN.out (Below.refl _ _)
    · have hhii : decide ((1024 : Int) < (gs.length : Int)) = false := decide_eq_false (by omega)
      have HRI := hidd (ref_iff gs (by omega) (by omega))
      have HWK := hidd (fun (w1 : World) (b : Below w.heap.size w w1) => walk_any (c := c) (n := gs.length) (base := w.heap.size) rfl (by omega) (fun g hg => (hnm g hg).2) gs.length (gs.length - 1) (by omega) (by omega) [] (.slice none 0 0) w1 (hx.below b) (Nat.zero_le _) b.size ⟨rfl, .inl ⟨rfl, rfl⟩⟩)
      obtain ⟨n, hn⟩ : ∃ n, gs.length = n := ⟨_, rfl⟩
      rw [hn] at hloi hhii hlg HRI HWK
      rw [hn]
      have HLN := hidd hn
      have HNM := hidd hnm
      have HX := hidd hx
      have hn1 : 1 ≤ n := by omega
      have hn2 : n ≤ 1024 := by omega
      clear hn hlo hhi hlg hnm hx
      go_enter Try.func37, Try.ntmps37
      go_wp2
      go_loopw [3] (fun s3 wr => ∃ (k : Nat), s3 = .int .i64 (k : Int) ∧ k ≤ n ∧ (∀ j, j < k → shapeG (gs.getD j gd0) = true) ∧ Below w.heap.size w wr) (fun s3 _ => n - (intOf s3).toNat)
      case atStart => exact ⟨0, rfl, Nat.zero_le _, fun _ h => absurd h (Nat.not_lt_zero _), Below.refl _ _⟩
      case round =>
        obtain ⟨k, rfl, hk0, hall, D⟩ := hrel
        have HALL := hidd hall
        clear hall
        by_cases hlt : k < n
        · have hki : (k : Int) < (n : Int) := by omega
          obtain ⟨b1, o1, rfl, hb1, A3, c3, i1, r1⟩ := (HX.out.below D).at_ (k := k) (by rw [HLN.out]; exact hlt)
          obtain ⟨hnm1, hnm2⟩ := HNM.out (gs.getD k gd0) (by rw [List.getD_eq_getElem?_getD, List.getElem?_eq_getElem (by rw [HLN.out]; exact hlt)]; exact List.getElem_mem _)
          obtain ⟨g, hgk⟩ : ∃ g, gs.getD k gd0 = g := ⟨_, rfl⟩
          rw [hgk] at i1 r1 hnm1 hnm2
          have HGK := hidd hgk
          have hsh := shape_any g A3 c3 wr hnm1 hnm2
          clear hgk i1 hnm1 hnm2
          go_wp2_with (refine wpList_load_mid rfl 42 (.tmp 23) rfl b1 (o1 + k * 9) rfl (gdL g A3 c3) _ r1 Try.underlying42 rfl (gdL_info g A3 c3) ?_)
          go_wp2_with fail
          refine hsh.mono ?_
          rintro e w2 ⟨rfl, b2⟩
          have D2 := D.trans (b2.mono D.size)
          clear hsh b2 r1 D
          cases hsg : shapeG g with
          | false =>
            have HN : Hid (¬ RightG gs) := fun h => by
              have := (HRI.out.2 h).1 k hlt
              rw [HGK.out, hsg] at this
              cases this
            clear HRI HWK HX
            go_wp2
            go_ret
            exact RgtR.no rfl HN.out D2
          | true =>
            have HAL2 : Hid (∀ j, j < k + 1 → shapeG (gs.getD j gd0) = true) := fun j hj => by
              rcases Nat.lt_or_ge j k with q | q
              · exact HALL.out j q
              · rw [show j = k from by omega, HGK.out]; exact hsg
            have HD2 := hidd D2
            clear HRI HWK HX D2 hsg
            go_wp2
            exact ⟨⟨k + 1, rfl, hlt, HAL2.out, HD2.out⟩, by simp [intOf]; omega⟩
        · have hke : k = n := by omega
          subst hke
          have hW := HWK.out wr D
          have e1 : ((k - 1 : Nat) : Int) = (k : Int) - 1 := by omega
          rw [e1] at hW
          clear e1 HWK HX
          go_wp2_with fail
          refine hW.mono ?_
          rintro e w2 hw
          clear hW
          rcases hw with ⟨v2, out, rfl, hf2, hl2, ho2, hb2⟩ | ⟨v2, rfl, hf2, hb2⟩
          · have D2 := D.trans hb2
            have HF2 := hidd hf2
            obtain ⟨A9, c9, rfl⟩ := own_form ho2
            obtain ⟨m, hm⟩ : ∃ m, out.length = m := ⟨_, rfl⟩
            rw [hm] at ho2
            rw [hm]
            have HM := hidd hm
            have HD2 := hidd D2
            clear hf2 hl2 hb2 D D2 hm
            by_cases hmn : m = k
            · subst hmn
              obtain ⟨g9, c9', e9, _, _⟩ := own_pos ho2 (by omega)
              cases e9
              have HC := hidd (i64s_kid out g9 (own_base ho2 (Nat.zero_le _)) HM.out.symm)
              clear ho2
              go_wp2
              go_loopw [6] (fun s6 wr => ∃ i : Nat, s6 = .int .i64 (i : Int) ∧ i ≤ m ∧ (∀ j, j < i → out.getD j 0 = j) ∧ ∃ q, wr = w2.drewN q) (fun s6 _ => m - (intOf s6).toNat)
              case atStart => exact ⟨0, rfl, Nat.zero_le _, fun _ h => absurd h (Nat.not_lt_zero _), 0, rfl⟩
              case round =>
                obtain ⟨i, rfl, hi0, hall2, q, rfl⟩ := hrel
                have HALL2 := hidd hall2
                clear hall2
                by_cases hit : i < m
                · have hii : (i : Int) < (m : Int) := by omega
                  have hc : (w2.drewN q).cell? ⟨g9, i, none⟩ = some (.int .i64 ((out.getD i 0 : Nat) : Int)) := by
                    have := HC.out i (by have := HM.out; simp; omega)
                    rw [Nat.zero_add] at this
                    refine this.trans ?_
                    congr 2
                    simp only [List.getD_eq_getElem?_getD, List.getElem?_map]
                    cases out[i]? <;> rfl
                  obtain ⟨x, hx⟩ : ∃ x, out.getD i 0 = x := ⟨_, rfl⟩
                  rw [hx] at hc
                  have HXX := hidd hx
                  clear hx
                  by_cases hxi : x = i
                  · subst hxi
                    have HAL3 : Hid (∀ j, j < x + 1 → out.getD j 0 = j) := fun j hj => by
                      rcases Nat.lt_or_ge j x with q | q
                      · exact HALL2.out j q
                      · rw [show j = x from by omega]; exact HXX.out
                    go_wp2
                    exact ⟨⟨x + 1, rfl, hit, HAL3.out, q, rfl⟩, by simp [intOf]; omega⟩
                  · have hne : ¬ (x : Int) = (i : Int) := by omega
                    have HN : Hid (¬ RightG gs) := fun h => by
                      have := (HRI.out.2 h).2
                      rw [HF2.out] at this
                      exact range_no hit (by rw [HXX.out]; exact hxi) (Option.some.inj this)
                    clear HRI
                    go_wp2
                    go_ret
                    exact RgtR.no rfl HN.out (bel_drewN HD2.out _)
                · have hie : i = m := by omega
                  subst hie
                  have HY : Hid (RightG gs) := HRI.out.1 ⟨HALL.out, by rw [HF2.out, range_iff HM.out HALL2.out]⟩
                  clear HRI
                  go_wp2
                  go_ret
                  exact ⟨true, rfl, ⟨fun _ => HY.out, fun _ => rfl⟩, bel_drewN HD2.out _⟩
            · have hmi : ¬ (m : Int) = (k : Int) := by omega
              have HN : Hid (¬ RightG gs) := fun h => by
                have := (HRI.out.2 h).2
                rw [HF2.out] at this
                have h2 := congrArg List.length (Option.some.inj this)
                rw [HM.out, List.length_range] at h2
                exact hmn h2
              clear HRI ho2
              go_wp2
              go_ret
              exact RgtR.no rfl HN.out HD2.out
          · have HN : Hid (¬ RightG gs) := fun h => by
              have := (HRI.out.2 h).2
              rw [hf2] at this
              cases this
            have D2 := D.trans hb2
            clear HRI hf2 hb2
            go_wp2
            go_ret
            exact RgtR.no rfl HN.out D2
end Go.Proofs.Ytahhiajliomcfaa.Sy

namespace Go.Proofs.Ytahhiajliomcfaa
open Go.ChangeShapes Go.WideShapes Go.ChangeAt Go.RowKit
set_option maxRecDepth 100000

theorem own : ownKnob Try.prog.godebug = none := by kernel_rfl
theorem laidOut : laidOutB Try.prog = true := by kernel_rfl

section
variable {H : Type} {enc : TypeId × Value → H} {W0 : World} {base : Nat} {spare : Nat → Bool} {held : Bool}

theorem plain_add (g off : Nat) (j : Nat) : (⟨g, off, none⟩ : Addr).add j = ⟨g, off + j, none⟩ := by
  unfold Addr.add
  split
  · subst_vars; rfl
  · rfl

end

end Go.Proofs.Ytahhiajliomcfaa

namespace Go.Proofs.Ytahhiajliomcfaa.Sy
open Go.RowKit
set_option maxRecDepth 100000
set_option linter.unusedVariables false

def ints (l : List Int) : List Value := l.map (Value.int .i64)
theorem i64s_ints (l : List Nat) : i64s l = ints (l.map fun k : Nat => (k : Int)) := by
  unfold i64s ints
  rw [List.map_map]
  rfl
section
variable {w w' : World} {base : Nat} {e : TypeId} {sz n : Nat} {v : Value} {xs : List Value}
theorem own_blk (h : w.ownsRow base e sz v n xs) {k : Nat} (hk : v.ownBlock = some k) : ∃ cur, w.heap[k]? = some (.cells cur e (0, 0)) := by
  rcases h.2 with ⟨hv, _⟩ | ⟨g, cap, cur, hv, hg, hh, _⟩
  · rw [hv] at hk; cases hk
  · rw [hv] at hk
    have : g = k := Option.some.inj hk
    subst this
    exact ⟨cur, hh⟩
/-- A block of another type is another block. -/
theorem own_ne {e' : TypeId} {cs : Array Value} {b : Nat} {p : Nat × Nat} (h : w.ownsRow base e sz v n xs) (hb : w.heap[b]? = some (.cells cs e' p)) (hne : e ≠ e') : v.ownBlock ≠ some b := fun q => by
  obtain ⟨cur, hc⟩ := own_blk h q
  rw [hb] at hc
  cases hc
  exact hne rfl
theorem own_nem {es : Array MapEntry} {cl b : Nat} (h : w.ownsRow base e sz v n xs) (hb : w.heap[b]? = some (.map es cl)) : v.ownBlock ≠ some b := fun q => by
  obtain ⟨cur, hc⟩ := own_blk h q
  rw [hb] at hc
  cases hc
theorem own_apart {base' sz' n' : Nat} {e' : TypeId} {v' : Value} {xs' : List Value} (h : w.ownsRow base e sz v n xs) (h' : w.ownsRow base' e' sz' v' n' xs') (hne : e ≠ e') : ∀ k, v.ownBlock = some k → v'.ownBlock ≠ some k := fun k hk q => by
  obtain ⟨cur, hc⟩ := own_blk h hk
  exact own_ne h' hc (fun q => hne q.symm) q
/-- Kept where another block is written. -/
theorem own_kept {row : Option Nat} (h : w.ownsRow base e sz v n xs) (g : w.grownBy w' row) (hr : ∀ k, row = some k → v.ownBlock ≠ some k) : w'.ownsRow base e sz v n xs := by
  refine h.kept g ?_
  cases hv : v.ownBlock with
  | none => exact .inl rfl
  | some k => exact .inr (fun q => hr k q.symm hv)
theorem own_cap {A : Option Addr} {c : Nat} (h : w.ownsRow base e sz (.slice A n c) n xs) : n ≤ c := by
  rcases h.2 with ⟨hv, hn⟩ | ⟨g, cap, cur, hv, hg, hh, h3, _⟩
  · omega
  · cases hv
    exact h3
end
/-! ### The expander -/
/-- What is yet to come of a walk. -/
structure WkE where
  nm : ByteArray
  A : Option Addr
  c : Nat
  rest : List Gd
section
variable {B : Nat} {w w' : World} {b bt bo nt no : Nat} {f g : ByteArray → Option Value} {wv nv rv : Value} {wl : List WkE} {l : List NR} {rt : List Nat}
end
theorem _root_.Go.Proofs.Ytahhiajliomcfaa.RowA.set {w : World} {g : Nat} {t : TypeId} {cs : Array Value} (r : RowA w g t cs) (k : Nat) (v : Value) : RowA (w.setCell ⟨g, k, none⟩ v) g t (cs.setIfInBounds k v) := by
  unfold RowA at r ⊢
  simp [World.setCell, Array.getElem?_modify, r]
theorem _root_.Go.Proofs.Ytahhiajliomcfaa.RowA.far {w : World} {g : Nat} {t : TypeId} {cs : Array Value} (r : RowA w g t cs) {a : Addr} (ha : g ≠ a.block) (v : Value) : RowA (w.setCell a v) g t cs := (Below.heap_setCell w a v g ha).trans r
theorem bel_set {B : Nat} {a w : World} (h : Below B a w) (p : Addr) (v : Value) (hp : B ≤ p.block) : Below B a (w.setCell p v) :=
  ⟨h.os, h.tape, h.output, by simpa [World.setCell] using h.size, fun k hk => (Below.heap_setCell w p v k (by omega)).trans (h.block k hk)⟩
theorem bel_row {B : Nat} {a w u : World} {row : Option Nat} (h : Below B a w) (hB : B ≤ w.heap.size) (hg : w.grownBy u row) (hr : ∀ k, row = some k → B ≤ k) : Below B a u :=
  ⟨hg.os.trans h.os, hg.tape.trans h.tape, hg.output.trans h.output, Nat.le_trans h.size hg.size, fun k hk => (hg.block k (by omega) (fun q => by have := hr k q.symm; omega)).trans (h.block k hk)⟩
theorem own_set {u : World} {base : Nat} {e : TypeId} {sz n : Nat} {z : Value} {xs : List Value} (h : u.ownsRow base e sz z n xs) {a : Addr} (hb : z.ownBlock ≠ some a.block) (y : Value) : (u.setCell a y).ownsRow base e sz z n xs := by
  obtain ⟨h1, h2⟩ := h
  refine ⟨h1, ?_⟩
  rcases h2 with h2 | ⟨g, cap, cur, hv, hg, hh, r⟩
  · exact .inl h2
  · exact .inr ⟨g, cap, cur, hv, hg, (Below.heap_setCell _ _ _ _ (fun q => hb (by rw [hv, ← q]; rfl))).trans hh, r⟩
theorem MapV.set {w : World} {b n : Nat} {f : ByteArray → Option Value} (h : MapV w b n f) {a : Addr} (hb : b ≠ a.block) (y : Value) : MapV (w.setCell a y) b n f := h.keep (Below.heap_setCell _ _ _ _ hb)
theorem MapV.far {w : World} {b n : Nat} {f : ByteArray → Option Value} (h : MapV w b n f) {base : Nat} {e : TypeId} {sz m : Nat} {z : Value} {xs : List Value} (ho : w.ownsRow base e sz z m xs) : z.ownBlock ≠ some b := by
  obtain ⟨es, cl, hb⟩ := h.blk
  exact own_nem ho hb
theorem MapV.ne {w : World} {b n g : Nat} {f : ByteArray → Option Value} {t : TypeId} {cs : Array Value} (h : MapV w b n f) (r : RowA w g t cs) : b ≠ g := fun q => by
  obtain ⟨es, cl, hb⟩ := h.blk
  unfold RowA at r
  rw [← q, hb] at r
  cases r
theorem own_neR {w : World} {base : Nat} {e e' : TypeId} {sz n b : Nat} {v : Value} {xs : List Value} {cs : Array Value} (h : w.ownsRow base e sz v n xs) (hb : RowA w b e' cs) (hne : e ≠ e') : v.ownBlock ≠ some b := own_ne h hb hne
theorem own_sb {u : World} {base : Nat} {e : TypeId} {sz n b k : Nat} {z : Value} {xs : List Value} (h : u.ownsRow base e sz z n xs) (hb : z.ownBlock ≠ some b) (y : Value) : (u.setCell ⟨b, k, none⟩ y).ownsRow base e sz z n xs := own_set h hb y
theorem MapV.sb {w : World} {b n c k : Nat} {f : ByteArray → Option Value} (h : MapV w b n f) (hb : b ≠ c) (y : Value) : MapV (w.setCell ⟨c, k, none⟩ y) b n f := h.set hb y
/-- Where a row may lie now. -/
def Lies (w : World) (v z : Value) : Prop := z.ownBlock = v.ownBlock ∨ ∃ k, z.ownBlock = some k ∧ w.heap.size ≤ k
theorem Lies.ne {w : World} {v z : Value} {base : Nat} {e : TypeId} {sz n : Nat} {y : Value} {xs : List Value} (h : Lies w v z) (ho : w.ownsRow base e sz y n xs) (hn : ∀ k, y.ownBlock = some k → v.ownBlock ≠ some k) : ∀ k, y.ownBlock = some k → z.ownBlock ≠ some k := fun k hk q => by
  rcases h with h | ⟨j, h1, h2⟩
  · exact hn k hk (h ▸ q)
  · rw [h1] at q
    cases q
    have := (ho.lt k hk).2
    omega
section
variable {B : Nat} {w u : World} {b bt bo nt no : Nat} {f g : ByteArray → Option Value} {wv nv rv z : Value} {wl wl' : List WkE} {l : List NR} {rt rt' : List Nat} {n : Nat}
end
end Go.Proofs.Ytahhiajliomcfaa.Sy

namespace Go.Proofs.Ytahhiajliomcfaa.Sy.Ap
open Go.RowKit
set_option maxRecDepth 100000
set_option linter.unusedVariables false

def withG (x : Gd) (ks : List Int) : Gd := ⟨x.op, x.s, ks, x.lo, x.hi, x.nm⟩
/-! ### A region that appends one element to a row of a struct, in whatever order -/
def AppP (w : World) (B : Nat) (e : TypeId) (sz : Nat) (v : Value) (n : Nat) (xs : List Value) (z : Value) (u : World) : Prop := u.ownsRow B e sz z (n + 1) xs ∧ (z.ownBlock = v.ownBlock ∨ ∃ k, z.ownBlock = some k ∧ w.heap.size ≤ k)
structure AppS (w : World) (B b q : Nat) (tr : TypeId) (cr bx : Array Value) (e : TypeId) (sz : Nat) (v : Value) (n : Nat) (xs ys : List Value) (sl : Nat) (a : Act) (u : World) : Prop where
  box : RowA u q 42 bx
  row : RowA u b tr cr
  grow : w.grownBy u v.ownBlock
  own : u.ownsRow B e sz v n xs
  app : ∀ z, a.tmps[sl]? = some z → z = undef ∨ AppP w B e sz v n (xs ++ ys) z u
def nS (sl : Nat) (d : Option Nat) : Bool := !(d == some sl)
def EbS (sl : Nat) (v : Value) (d : Option Nat) (u u' : World) : Prop := if nS sl d = true then Below u.heap.size u u' else u.grownBy u' v.ownBlock
theorem eby {sl : Nat} {v : Value} {d : Option Nat} {u u' : World} (hd : nS sl d = true) (h : Below u.heap.size u u') : EbS sl v d u u' := by
  unfold EbS; rw [if_pos hd]; exact h
theorem ebw {sl : Nat} {v : Value} {d : Option Nat} {u u' : World} (hd : nS sl d = false) (h : u.grownBy u' v.ownBlock) : EbS sl v d u u' := by
  unfold EbS; rw [if_neg (by rw [hd]; exact Bool.false_ne_true)]; exact h
theorem grown_below {w u u' : World} {row : Option Nat} (h : w.grownBy u row) (hb : Below u.heap.size u u') : w.grownBy u' row :=
  ⟨hb.os.trans h.os, hb.tape.trans h.tape, hb.output.trans h.output, Nat.le_trans h.size hb.size, fun k hk hr => (hb.block k (Nat.lt_of_lt_of_le hk h.size)).trans (h.block k hk hr)⟩
theorem grown_trans {w u u' : World} {row : Option Nat} (h : w.grownBy u row) (hb : u.grownBy u' row) : w.grownBy u' row :=
  ⟨hb.os.trans h.os, hb.tape.trans h.tape, hb.output.trans h.output, Nat.le_trans h.size hb.size, fun k hk hr => (hb.block k (Nat.lt_of_lt_of_le hk h.size) hr).trans (h.block k hk hr)⟩
section
variable {w u u' u1 : World} {B b q : Nat} {tr : TypeId} {cr bx : Array Value} {e : TypeId} {sz : Nat} {v v' : Value} {n : Nat} {xs ys : List Value} {sl : Nat} {a : Act}
theorem AppS.below (h : AppS w B b q tr cr bx e sz v n xs ys sl a u) (hb : Below u.heap.size u u') : AppS w B b q tr cr bx e sz v n xs ys sl a u' :=
  ⟨h.box.below hb h.box.lt, h.row.below hb h.row.lt, grown_below h.grow hb, own_below h.own hb (Nat.le_refl _), fun z hz => by
    rcases h.app z hz with h1 | ⟨h1, h2⟩
    · exact .inl h1
    · exact .inr ⟨own_below h1 hb (Nat.le_refl _), h2⟩⟩
theorem AppS.put (h : AppS w B b q tr cr bx e sz v n xs ys sl a u) {d : Option Nat} (he : nS sl d = true) (z : Value) : AppS w B b q tr cr bx e sz v n xs ys sl (a.put d z) u := by
  have e8 : (a.put d z).tmps[sl]? = a.tmps[sl]? := by
    cases d with
    | none => rfl
    | some d => rw [put_tmps, Array.getElem?_setIfInBounds_ne (fun q => by subst q; simp [nS] at he)]
  exact ⟨h.box, h.row, h.grow, h.own, fun y hy => h.app y (e8 ▸ hy)⟩
theorem own_not (h : u.ownsRow B e sz v n xs) : v ≠ undef := fun q => by
  obtain ⟨A1, c1, h2⟩ := own_form h
  rw [h2] at q
  cases q
theorem AppS.app_ (hvb : v.ownBlock ≠ some b) (hvq : v.ownBlock ≠ some q) (hS : AppS w B b q tr cr bx e sz v n xs ys sl a u)
    (h1 : u1.ownsRow B e sz v' (n + 1) (xs ++ ys)) (h2 : u1.ownsRow B e sz v n xs) (h3 : u.grownBy u1 v.ownBlock) (h4 : v'.ownBlock = v.ownBlock ∨ v'.ownBlock = some u.heap.size) : AppS w B b q tr cr bx e sz v n xs ys sl (a.put (some sl) v') u1 := by
  refine ⟨(h3.block _ hS.box.lt (fun e => hvq e.symm)).trans hS.box, (h3.block _ hS.row.lt (fun e => hvb e.symm)).trans hS.row, grown_trans hS.grow h3, h2, fun z hz => .inr ?_⟩
  rw [put_tmps, Array.getElem?_setIfInBounds] at hz
  simp only [if_true] at hz
  split at hz
  · cases hz
    refine ⟨h1, ?_⟩
    rcases h4 with h4 | h4
    · exact .inl h4
    · exact .inr ⟨_, h4, hS.grow.size⟩
  · cases hz
/-- A new row of one element. -/
def NewR (w : World) (v : Value) (e : TypeId) (cs : Array Value) (z : Value) (u : World) : Prop := ∃ g, z = .slice (some ⟨g, 0, none⟩) 1 1 ∧ v.ownBlock ≠ some g ∧ w.heap.size ≤ g ∧ RowA u g e cs
theorem NewR.stab {cs : Array Value} {z : Value} {d : Option Nat} (h : NewR w v e cs z u) (hE : EbS sl v d u u') : NewR w v e cs z u' := by
  obtain ⟨g, e, hgv, hg, r⟩ := h
  refine ⟨g, e, hgv, hg, ?_⟩
  unfold EbS at hE
  split at hE
  · exact r.below hE r.lt
  · exact (hE.block g r.lt (fun q => hgv q.symm)).trans r
end
/- The row of those that have no parent is cut, and gets one more; the row of nodes gets one more. -/
theorem ob_eq (A : Option Addr) (n c n' c' : Nat) : (Value.slice A n c).ownBlock = (Value.slice A n' c').ownBlock := by cases A <;> rfl
end Go.Proofs.Ytahhiajliomcfaa.Sy.Ap

/- The reference's Of: bytes dealt to classes, in the order of their least bytes. -/
import Derived.Test.YtlfbjnmehdifeaaXd
namespace Go.Proofs.Ytlfbjnmehdifeaa
open Go.RowKit

theorem spC_set (f : Nat → Int) (m : Int) (k : Nat) (x : Int) (hk : k < 256) : (spC f m).setIfInBounds k (.int .u8 x) = spC (fun i => if i = k then x else f i) m := by
  apply Array.ext_getElem?
  intro i
  by_cases h : k = i
  · subst h
    rw [Array.getElem?_setIfInBounds_self_of_lt (by rw [spC_size]; omega), spC_at _ _ _ hk]
    simp
  · rw [Array.getElem?_setIfInBounds_ne h]
    by_cases h2 : i < 256
    · rw [spC_at _ _ _ h2, spC_at _ _ _ h2, if_neg (Ne.symm h)]
    · by_cases h3 : i = 256
      · subst h3; rw [spC_many, spC_many]
      · rw [Array.getElem?_eq_none (by rw [spC_size]; omega), Array.getElem?_eq_none (by rw [spC_size]; omega)]
theorem spC_setMany (f : Nat → Int) (m n : Int) : (spC f m).setIfInBounds 256 (.int .i64 n) = spC f n := by
  apply Array.ext_getElem?
  intro i
  by_cases h : 256 = i
  · subst h
    rw [Array.getElem?_setIfInBounds_self_of_lt (by rw [spC_size]; omega), spC_many]
  · rw [Array.getElem?_setIfInBounds_ne h]
    by_cases h2 : i < 256
    · rw [spC_at _ _ _ h2, spC_at _ _ _ h2]
    · rw [Array.getElem?_eq_none (by rw [spC_size]; omega), Array.getElem?_eq_none (by rw [spC_size]; omega)]
theorem spC_one (f : Nat → Int) (m : Int) : (spC f m).all (·.oneCell') = true := by
  rw [Array.all_eq_true_iff_forall_mem]
  intro v hv
  unfold spC at hv
  rw [List.mem_toArray, List.mem_append] at hv
  rcases hv with hv | hv
  · obtain ⟨i, _, rfl⟩ := List.mem_map.1 hv; rfl
  · simp at hv; subst hv; rfl
section
variable {w : World} {g : Nat} {f f' : Nat → Int} {m m' : Int}
theorem RowS.put (h : RowS w g f m) (k : Nat) (x : Int) (hk : k < 256) : RowS (w.setCell ⟨g, k, none⟩ (.int .u8 x)) g (fun i => if i = k then x else f i) m := by
  unfold RowS at h ⊢
  rw [← spC_set f m k x hk]
  simp [World.setCell, Array.getElem?_modify, h]
theorem RowS.putMany (h : RowS w g f m) (n : Int) : RowS (w.setCell ⟨g, 256, none⟩ (.int .i64 n)) g f n := by
  unfold RowS at h ⊢
  rw [← spC_setMany f m n]
  simp [World.setCell, Array.getElem?_modify, h]
theorem RowS.far (h : RowS w g f m) {a : Addr} (ha : g ≠ a.block) (u : Value) : RowS (w.setCell a u) g f m := (Below.heap_setCell w a u g ha).trans h
theorem RowS.thawed (h : RowS w g f m) (o : Nat) : w.frozen? ⟨g, o, none⟩ = false := by
  unfold RowS at h
  simp [World.frozen?, h]
theorem RowS.row (h : RowS w g f m) (f' : Nat → Int) (m' : Int) : RowS (w.setRow g (spC f' m')) g f' m' := setRow_heap w g _ _ _ _ h
theorem RowS.congr (h : RowS w g f m) (e : ∀ i, i < 256 → f i = f' i) : RowS w g f' m := by
  have : spC f m = spC f' m := by
    unfold spC
    congr 2
    apply List.map_congr_left
    intro i hi
    rw [e i (by simpa using hi)]
  unfold RowS at h ⊢
  rw [← this]; exact h
theorem RowS.apart {j : Nat} (h : RowS w g f m) (cs : Array Value) (hj : g ≠ j) : RowS (w.setRow j cs) g f m := (setRow_other w j g cs hj).trans h
end
theorem bel_setRow {B : Nat} {a w : World} (h : Below B a w) (g : Nat) (cs : Array Value) (hg : B ≤ g) : Below B a (w.setRow g cs) :=
  ⟨h.os, h.tape, h.output, by simpa using h.size, fun k hk => (setRow_other w g k cs (by omega)).trans (h.block k hk)⟩

theorem own_far {w : World} {b : Nat} {e : TypeId} {size : Nat} {v : Value} {n : Nat} {xs : List Value} (h : w.ownsRow b e size v n xs) {a : Addr} (ha : ∀ k, v.ownBlock = some k → k ≠ a.block) (u : Value) : (w.setCell a u).ownsRow b e size v n xs := by
  obtain ⟨h1, h2⟩ := h
  refine ⟨h1, ?_⟩
  rcases h2 with h2 | ⟨g, cap, cur, rfl, hg, hh, r⟩
  · exact .inl h2
  · exact .inr ⟨g, cap, cur, rfl, hg, (Below.heap_setCell w a u g (ha g rfl)).trans hh, r⟩

theorem ret_split {fn : Func} {R : Ending → World → Prop} {a : Act} {w : World} {t g : Nat} {f : Nat → Int} {m : Int} (hr : fn.results = #[.cell t 26]) (ht : a.tmps.getD t undef = .pointer (some ⟨g, 0, none⟩))
    (h : RowS w g f m) (hd : a.defers = []) (hR : R (.returned (.agg (spC f m))) w) : bodyPost Try.prog fn R .ret a w :=
  bodyPost_ret (v := .agg (spC f m)) (results_cell_row hr a.tmps w g 26 (spC f m) (0, 0) _ ht h Try.underlying26 rfl (split_info f m)) hd hR

theorem split_zero_info : (Try.prog.info? 26).map (·.zero) = some (some (.agg (spC (fun _ => 0) 0))) := by kernel_rfl
theorem split_zero (w : World) : (zeroValue 26).run Try.prog w = .ok (.agg (spC (fun _ => 0) 0)) w := by
  have h := split_zero_info
  cases hi : Try.prog.info? 26 with
  | none => rw [hi] at h; cases h
  | some i =>
    rw [hi] at h
    have hz : i.zero = some (.agg (spC (fun _ => 0) 0)) := by simpa using h
    simp [zeroValue, typeInfo, hi, hz]

/-- The least bytes of the classes of the bytes below n. -/
def frsts (L : Nat → Nat → Bool) : Nat → List Nat
  | 0 => []
  | n + 1 => if (frsts L n).findIdx (fun c => L c n) < (frsts L n).length then frsts L n else frsts L n ++ [n]
/-- The class of a byte. -/
def clsOf (L : Nat → Nat → Bool) (b : Nat) : Nat := (frsts L b).findIdx fun c => L c b
theorem frsts_len (L : Nat → Nat → Bool) (n : Nat) : (frsts L n).length ≤ n := by
  induction n with
  | zero => simp [frsts]
  | succ n ih =>
    unfold frsts
    split
    · omega
    · rw [List.length_append]; simp; omega
theorem frsts_lt (L : Nat → Nat → Bool) (n : Nat) : ∀ x ∈ frsts L n, x < n := by
  induction n with
  | zero => simp [frsts]
  | succ n ih =>
    unfold frsts
    split
    · intro x hx; have := ih x hx; omega
    · intro x hx
      rw [List.mem_append] at hx
      rcases hx with hx | hx
      · have := ih x hx; omega
      · simp at hx; omega
theorem frsts_old (L : Nat → Nat → Bool) (n : Nat) (h : clsOf L n < (frsts L n).length) : frsts L (n + 1) = frsts L n := by
  show (if clsOf L n < (frsts L n).length then frsts L n else frsts L n ++ [n]) = _
  rw [if_pos h]
theorem frsts_new (L : Nat → Nat → Bool) (n : Nat) (h : clsOf L n = (frsts L n).length) : frsts L (n + 1) = frsts L n ++ [n] := by
  show (if clsOf L n < (frsts L n).length then frsts L n else frsts L n ++ [n]) = _
  rw [if_neg (by omega)]
theorem cls_here (L : Nat → Nat → Bool) (n k : Nat) (hk : k < (frsts L n).length) (hn : ∀ j, j < k → L ((frsts L n).getD j 0) n = false) (hy : L ((frsts L n).getD k 0) n = true) : clsOf L n = k := by
  unfold clsOf
  rw [List.findIdx_eq hk]
  constructor
  · rw [List.getD_eq_getElem?_getD, List.getElem?_eq_getElem hk] at hy; exact hy
  · intro j hj
    have := hn j hj
    rw [List.getD_eq_getElem?_getD, List.getElem?_eq_getElem (by omega)] at this; exact this
theorem cls_none (L : Nat → Nat → Bool) (n : Nat) (hn : ∀ j, j < (frsts L n).length → L ((frsts L n).getD j 0) n = false) : clsOf L n = (frsts L n).length := by
  unfold clsOf
  rw [List.findIdx_eq_length]
  intro x hx
  obtain ⟨j, hj, rfl⟩ := List.getElem_of_mem hx
  have := hn j hj
  rw [List.getD_eq_getElem?_getD, List.getElem?_eq_getElem hj] at this; exact this
def natI (l : List Nat) : List Int := l.map fun x : Nat => (x : Int)
theorem natI_len (l : List Nat) : (natI l).length = l.length := by simp [natI]
theorem natI_at (l : List Nat) (k : Nat) (hk : k < l.length) : (natI l).getD k 0 = ((l.getD k 0 : Nat) : Int) := by
  unfold natI
  rw [List.getD_eq_getElem?_getD, List.getElem?_map, List.getElem?_eq_getElem hk, List.getD_eq_getElem?_getD, List.getElem?_eq_getElem hk]; rfl

set_option maxRecDepth 100000 in
set_option maxHeartbeats 2000000 in
theorem rsplit_any (A : Option Addr) (c : Nat) (ps : List (Nat → Bool)) (w : World) (hS : Sts w w.heap.size A ps) (hl : ps.length ≤ 1000000) :
    Calls Try.prog 13 #[.slice A ps.length c] w fun e w' => e = .returned (.agg (spC (fun b => (clsOf (likeB ps) b : Int)) (frsts (likeB ps) 256).length)) ∧ Below w.heap.size w w' := by
  obtain ⟨i0, hi0, hz0, hz1, hz2⟩ := info_parts byte_info
  go_enter Try.func13, Try.ntmps13
  have hz := split_zero
  have Z0 := (RowS.new w (fun _ => 0) 0).alloc (.cells (spC (fun _ => 0) 0) 26)
  have Z1 := RowS.new (w.alloc (.cells (spC (fun _ => 0) 0) 26)) (fun _ => 0) 0
  rw [World.size_alloc] at Z1
  have D0 := bel_setRow (((Below.refl w.heap.size w).alloc (Nat.le_refl _) (.cells (spC (fun _ => 0) 0) 26)).alloc (by simp) (.cells (spC (fun _ => 0) 0) 26)) (w.heap.size + 1) (spC (fun _ => 0) 0) (by omega)
  go_wp2_with (refine wpList_store_row rfl 26 (.tmp 3) (.tmp 7) rfl (w.heap.size + 1) (spC (fun _ => 0) 0) rfl rfl 26 (spC (fun _ => 0) 0) Z1 (split_info _ _) rfl (spC_one _ _) ?_)
  have Y0 := Z0.apart (j := w.heap.size + 1) (spC (fun _ => 0) 0) (by omega)
  have Y1 := Z1.row (fun _ => 0) 0
  clear Z0 Z1
  generalize ((w.alloc (.cells (spC (fun _ => 0) 0) 26)).alloc (.cells (spC (fun _ => 0) 0) 26)).setRow (w.heap.size + 1) (spC (fun _ => 0) 0) = w0 at *
  have HL : Hid (∀ x y, likeB ps x y = likeB ps x y) := fun _ _ => rfl
  go_loopw [4, 5, 6] (fun l i _ wr => ∃ b : Nat, b ≤ 256 ∧ i = .int .i64 b ∧ wr.ownsRow (w.heap.size + 2) 5 1 l (frsts (likeB ps) b).length (u8s (natI (frsts (likeB ps) b))) ∧ RowS wr w.heap.size (fun _ => 0) 0 ∧ RowS wr (w.heap.size + 1) (fun i => if i < b then (clsOf (likeB ps) i : Int) else 0) 0 ∧ Below w.heap.size w wr) (fun _ i _ _ => 256 - (intOf i).toNat)
  case atStart => exact ⟨0, Nat.zero_le _, rfl, World.ownsRow_nil _ _ _ _, Y0, Y1.congr (fun i _ => by simp), D0⟩
  case round =>
    obtain ⟨b, hb0, rfl, hown, R0, R1, hb⟩ := hrel
    have hF := frsts_len (likeB ps) b
    obtain ⟨A4, c4, hu4, hB4⟩ := Bts.of_own (xs := natI (frsts (likeB ps) b)) (by rw [natI_len]; exact hown) (fun y hy => by
      obtain ⟨n, hn, rfl⟩ := List.mem_map.1 hy
      have := frsts_lt _ _ n hn
      omega)
    rw [natI_len] at hu4
    subst hu4
    have hsz := R1.lt
    by_cases hlt : b < 256
    · have hb3 : (b : Int) < 256 := by omega
      have hb4 : (b : Int) ≤ 255 := by omega
      have HH := hidd (cls_here (likeB ps) b)
      have HN := hidd (cls_none (likeB ps) b)
      have HO := hidd (frsts_old (likeB ps) b)
      have HW := hidd (frsts_new (likeB ps) b)
      have HA := hidd (natI_at (frsts (likeB ps) b))
      have HC : Hid (∀ (k : Int), (clsOf (likeB ps) b : Int) = k → ∀ i, (if i = b then k else if i < b then (clsOf (likeB ps) i : Int) else 0) = (if i < b + 1 then (clsOf (likeB ps) i : Int) else 0)) := by
        intro k hk i
        by_cases h1 : i = b
        · subst h1; rw [if_pos rfl, if_pos (by omega), hk]
        · rw [if_neg h1]
          by_cases h2 : i < b
          · rw [if_pos h2, if_pos (by omega)]
          · rw [if_neg h2, if_neg (by omega)]
      have HNL := hidd (natI_len (frsts (likeB ps) b))
      generalize hFF : frsts (likeB ps) b = F at *
      go_wp2
      go_loopw [6] (fun i wi => ∃ k : Nat, k ≤ F.length ∧ i = .int .i64 k ∧ (∀ j, j < k → likeB ps (F.getD j 0) b = false) ∧ Below wr.heap.size wr wi) (fun i _ => F.length - (intOf i).toNat)
      case atStart => exact ⟨0, Nat.zero_le _, rfl, fun j hj => by omega, Below.refl _ _⟩
      case round =>
        obtain ⟨k, hk0, rfl, hno, hbi⟩ := hrel
        have S0 := R0.below hbi R0.lt
        have S1 := R1.below hbi R1.lt
        have hown1 := own_below hown hbi (Nat.le_refl _)
        have D1 := hb.trans (hbi.mono hb.size)
        have hbs := hbi.size
        replace hno := hidd hno
        by_cases hk : k < F.length
        · obtain ⟨g, off, rfl, hg, hx, x0, x1⟩ := (hB4.below hbi).at_ (k := k) (by rw [HNL.out]; exact hk)
          have HX := hidd (HA.out k hk)
          rw [HX.out] at hx x0 x1
          generalize hy : F.getD k 0 = y at *
          go_wp2_with fail
          refine (ralike_any A c ps (y : Int) (b : Int) _ ((hS.below D1).more D1.size) hl (by omega) x1 (by omega) hb4).mono ?_
          rintro e w1 ⟨rfl, hb1⟩
          rw [Int.toNat_natCast, Int.toNat_natCast]
          have T0 := S0.below hb1 S0.lt
          have T1 := S1.below hb1 S1.lt
          have hown2 := own_below hown1 hb1 (Nat.le_refl _)
          have D2 := D1.trans (hb1.mono D1.size)
          have hbj := hbi.trans (hb1.mono hbs)
          clear S0 S1 hown1 D1 hb1 hbi hx
          cases hp : likeB ps y b with
          | true =>
            have hc := HH.out k hk hno.out (by rw [hy]; exact hp)
            have HCL := hidd hc
            clear hp hc
            have hat := T1.at_ b hlt
            have hth := T1.thawed
            have hkk : ¬ (k : Int) = (F.length : Int) := by omega
            have hk5 : (k : Int) < 256 := by omega
            go_wp2
            refine ⟨⟨b + 1, by omega, rfl, ?_, T0.far (by simp) _, (T1.put b k hlt).congr (fun i _ => HC.out k (by rw [HCL.out]) i), D2.setCell (by simp) _⟩, by simp [intOf]; omega⟩
            rw [HO.out (by rw [HCL.out]; exact hk)]
            exact own_far hown2 (fun j e => by have := (hown2.lt j e).1; simp; omega) _
          | false =>
            have HP := hidd hp
            clear hp
            go_wp2
            refine ⟨⟨k + 1, by omega, rfl, fun j hj => ?_, hbj⟩, by simp [intOf]; omega⟩
            by_cases hjk : j = k
            · subst hjk; rw [hy]; exact HP.out
            · exact hno.out j (by omega)
        · have hk1 : k = F.length := by omega
          have hc := HN.out (fun j hj => hno.out j (by omega))
          have HCL := hidd hc
          clear hc
          subst hk1
          have hk5 : (F.length : Int) < 256 := by omega
          have hlt1 := hown1.lt
          have hne0 : some w.heap.size ≠ (Value.slice A4 F.length c4).ownBlock := fun e => by have := (hlt1 _ e.symm).1; omega
          have hne1 : some (w.heap.size + 1) ≠ (Value.slice A4 F.length c4).ownBlock := fun e => by have := (hlt1 _ e.symm).1; omega
          have hz5 := S1.lt
          go_wp2_with (at_builtin; refine wpList_append_own _ rfl (.tmp 33) (.tmp 36) 35 rfl (w.heap.size + 2) 5 i0 (.int .u8 0) 1 1 Try.underlying35 hi0 hz0 hz1 hz2 rfl (by omega) _ _ _ rfl (hown1.alloc _) ⟨wr.heap.size, 0, none⟩ 1 1 [.int .u8 (b : Int)] rfl rfl (cell_one_new _ _ _) (by simp [Value.oneCell']) (by simp only [maxLen]; omega) (by omega) (by simp; omega) ?_; intro v2 w2 hown2 hg2 _; (have T0 := (S0.alloc _).grown hg2 hne0); (have T1 := (S1.alloc _).grown hg2 hne1); (have hat := T1.at_ b hlt); have hth := T1.thawed)
          refine ⟨⟨b + 1, by omega, rfl, ?_, T0.far (by simp) _, (T1.put b (F.length : Int) hlt).congr (fun i _ => HC.out F.length (by rw [HCL.out]) i), ((D1.alloc D1.size _).grown hg2 (by simp; omega) (fun j e => ?_)).setCell (by simp) _⟩, by simp [intOf]; omega⟩
          · rw [HW.out HCL.out, List.length_append, show natI (F ++ [b]) = natI F ++ [(b : Int)] from by simp [natI], ← u8s_snoc]
            exact own_far hown2 (fun j e => by have := (hown2.lt j e).1; simp; omega) _
          · have := (hlt1 j e).1; omega
    · have hb5 : b = 256 := by omega
      subst hb5
      have Q1 := R1.congr (f' := fun i => (clsOf (likeB ps) i : Int)) (fun i hi => by simp [hi])
      have hat := Q1.many
      have hth := Q1.thawed
      have P1 := Q1.putMany (frsts (likeB ps) 256).length
      have P0 := R0.far (a := ⟨w.heap.size + 1, 256, none⟩) (by simp) (.int .i64 (frsts (likeB ps) 256).length)
      go_wp2_with (first
        | refine wpList_load_row rfl 26 (.tmp 3) rfl (w.heap.size + 1) rfl 26 (spC (fun i => (clsOf (likeB ps) i : Int)) (frsts (likeB ps) 256).length) (0, 0) _ P1 Try.underlying26 rfl (split_info _ _) ?_
        | refine wpList_store_row rfl 26 (.tmp 2) (.tmp 46) rfl w.heap.size (spC (fun i => (clsOf (likeB ps) i : Int)) (frsts (likeB ps) 256).length) rfl rfl 26 (spC (fun _ => 0) 0) P0 (split_info _ _) (by rw [spC_size, spC_size]) (spC_one _ _) ?_)
      exact ret_split Try.results13 rfl (P0.row _ _) rfl ⟨rfl, bel_setRow (hb.setCell (by simp) _) _ _ (Nat.le_refl _)⟩

end Go.Proofs.Ytlfbjnmehdifeaa

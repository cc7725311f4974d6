/- A strings.Builder: alone, and as a field of the printer. -/
import Derived.Test.YtghjkbjpdjlddaaDoorM4
import Derived.Test.YtghjkbjpdjlddaaDoorM2
import Derived.Lib.Builder
import Derived.Lib.AppendStr
import Derived.Lib.UnsafeStr
import Derived.Shelf.RegionOpenPlain
namespace Go.Proofs.YtghjkbjpdjlddaaDoor.Sy
open Go.RowKit
set_option maxRecDepth 100000
set_option linter.unusedVariables false

/-- Bytes as cells. -/
def n8 (l : List Nat) : List Value := l.map fun x : Nat => Value.int .u8 (x : Int)
theorem n8_len (l : List Nat) : (n8 l).length = l.length := by simp [n8]
theorem n8_app (l m : List Nat) : n8 (l ++ m) = n8 l ++ n8 m := by simp [n8]
theorem n8_str (s : ByteArray) : Lib.strCells s = n8 (bs s) := by
  simp [Lib.strCells, n8, bs]
theorem n8_bytes {l : List Nat} (h : ∀ x ∈ l, x < 256) : Lib.byteCells (l.map UInt8.ofNat) = n8 l := by
  simp only [Lib.byteCells, n8, List.map_map]
  refine List.map_congr_left fun x hx => ?_
  have := h x hx
  simp only [Function.comp]
  rw [UInt8.toNat_ofNat']
  congr 2
  omega
/-- The text of some bytes. -/
def txt (l : List Nat) : ByteArray := ⟨(l.map UInt8.ofNat).toArray⟩
theorem bs_txt {l : List Nat} (h : ∀ x ∈ l, x < 256) : bs (txt l) = l := by
  simp only [bs, txt, List.map_map]
  conv => rhs; rw [← List.map_id l]
  refine List.map_congr_left fun x hx => ?_
  have := h x hx
  simp only [Function.comp, id]
  rw [UInt8.toNat_ofNat']
  omega
theorem txt_of {b : ByteArray} {l : List Nat} (h : bs b = l) : b = txt l := by
  refine bs_inj ?_
  rw [bs_txt (fun x hx => by rw [← h] at hx; exact bs_lt b x hx), h]
theorem txt_size (l : List Nat) : (txt l).size = l.length := by simp [txt, ByteArray.size]

/-- Where what is appended lies. -/
theorem append_str_where {P : Program} (w : World) (base : Nat) (t u ty e : TypeId) (i : TypeInfo) (ht : P.underlying t = some (.slice e)) (hu : P.underlying u = some .string) (hi : P.info? e = some i) (hz : i.zero = some (.int .u8 0))
    (hsize : i.size = 1) (hby : i.bytes = 1) (v : Value) (n : Nat) (xs : List Value) (hown : w.ownsRow base e 1 v n xs) (s : ByteArray) (hbytes : n + s.size ≤ 140737488355328) {v' : Value} {w' : World}
    (hr : (Builtin.append_ #[t, u] ty #[v, .string s]).run P w = .ok v' w') : v'.ownBlock = v.ownBlock ∨ v'.ownBlock = some w.heap.size := by
  have hxl : xs.length = n := by simpa using hown.1
  rcases hown.2 with ⟨rfl, rfl⟩ | ⟨g, cap, cur, rfl, hbg, hg, hnc, hcm, hcs, htake⟩
  · by_cases hm : s.size = 0
    · have hf := Lib.run_firstCells_string (P := P) w 1 s
      rw [hm] at hf
      simp [Builtin.append_, run_underlying ht, run_underlying hu, sizeOf, typeInfo, hi, hsize, Builtin.lenOf, hm, hf] at hr
      rw [← hr.1]
      exact .inl rfl
    · rw [run_append_nil_string (P := P) w t u ty e i (.int .u8 0) ht hu hi hz s (by omega) (by omega) (by rw [hby]; omega)] at hr
      cases hr
      exact .inr rfl
  · by_cases hroom : n + s.size ≤ cap
    · have hcs' : cur.size = cap := by simpa using hcs
      rw [Lib.run_append_room_string (P := P) w t u ty e i ht hu hi hsize g n cap cur hg s hroom (by omega)] at hr
      cases hr
      exact .inl rfl
    · rw [Lib.run_append_grow_string (P := P) w t u ty e i (.int .u8 0) ht hu hi hz ⟨g, 0, none⟩ n cap xs (by rw [hsize]; simpa using hxl) (hown.cells (g := g) rfl) s (by omega) (by omega) (by rw [hby]; exact growslice_fits (by omega) (by omega))] at hr
      cases hr
      exact .inr rfl
theorem wpList_append_str {P : Program} {w : World} {ops : Array Oper} {rest : List Oper} {o : Oper} {a : Act} {Q : Exit → Act → World → Prop} (hgd : o.guard = none) (sl x : Operand) (t u : TypeId)
    (ho : o.op = .call { callee := .builtin .append, args := #[sl, x], argTypes := #[t, u] })
    (base : Nat) (e : TypeId) (i : TypeInfo) (ht : P.underlying t = some (.slice e)) (hu : P.underlying u = some .string) (hi : P.info? e = some i) (hz : i.zero = some (.int .u8 0))
    (hsize : i.size = 1) (hby : i.bytes = 1)
    (v : Value) (n : Nat) (xs : List Value) (hs : a.eval sl = v) (hown : w.ownsRow base e 1 v n xs) (s : ByteArray) (hx : a.eval x = .string s)
    (h63 : n + s.size ≤ maxLen) (hbytes : n + s.size ≤ 140737488355328) (hbase : base ≤ w.heap.size)
    (h : ∀ v' w', w'.ownsRow base e 1 v' (n + s.size) (xs ++ Lib.strCells s) → w.grownBy w' v.ownBlock → (v' = .slice none 0 0 ↔ v = .slice none 0 0 ∧ s.size = 0) → (v'.ownBlock = v.ownBlock ∨ v'.ownBlock = some w.heap.size) → wpList P ops Q rest (a.put o.dst v') w') : wpList P ops Q (o :: rest) a w := by
  refine wpList_plain hgd fun K hK => ?_
  obtain ⟨v', w', hr, h2, h3, h4⟩ := Lib.run_append_own_string (P := P) w base t u o.type e i ht hu hi hz hsize hby v n xs hown s h63 hbytes hbase
  have h5 := append_str_where (P := P) w base t u o.type e i ht hu hi hz hsize hby v n xs hown s hbytes hr
  unfold Oper.wp execOp
  simp only [ho, resolve, invoke, builtin, Sem.run_bind, Sem.run_pure, Result.andThen_ok, List.map_toArray, List.map_cons, List.map_nil, hs, hx, hr]
  exact hK _ _ (h v' w' h2 h3 h4 h5)

/-- The bytes of a Builder: a row of its own, in no block of its struct. -/
structure Buf (w : World) (B b : Nat) (v : Value) (t : List Nat) : Prop where
  own : w.ownsRow B 5 1 v t.length (n8 t)
  far : v.ownBlock ≠ some b
  nil : t = [] → v = .slice none 0 0
/-- A Builder alone. -/
structure BdA (w : World) (B b : Nat) (p v : Value) (t : List Nat) : Prop extends Buf w B b v t where
  blk : w.heap[b]? = some (.cells #[p, v] 51 (0, 0))
/-- A printer: its nodes, its Builder. -/
structure BdP (nv : Value) (w : World) (B b : Nat) (p v : Value) (t : List Nat) : Prop extends Buf w B b v t where
  blk : w.heap[b]? = some (.cells #[nv, p, v] 53 (0, 0))
theorem Buf.keep {w w' : World} {B b : Nat} {v : Value} {t : List Nat} (h : Buf w B b v t) {row : Option Nat} (hg : w.grownBy w' row) (hr : v.ownBlock ≠ row) : Buf w' B b v t :=
  ⟨h.own.kept hg (.inr hr), h.far, h.nil⟩
theorem lt_of_blk {w : World} {b : Nat} {o : Obj} (h : w.heap[b]? = some o) : b < w.heap.size := by
  rcases Nat.lt_or_ge b w.heap.size with q | q
  · exact q
  · rw [Array.getElem?_eq_none q] at h; cases h
theorem set_grown (w : World) (a : Addr) (y : Value) : w.grownBy (w.setCell a y) (some a.block) := ⟨rfl, rfl, rfl, by simp [World.setCell], fun k _ hk => Below.heap_setCell _ _ _ _ (fun e => hk (by simp [e]))⟩
theorem fr_set {w : World} {b : Nat} (v : Value) (k : Nat) (y : Value) : Fr b v v w (w.setCell ⟨b, k, none⟩ y) :=
  ⟨rfl, rfl, rfl, by simp [World.setCell], fun j _ h1 _ => Below.heap_setCell _ _ _ _ (fun e => h1 e), fun _ h => .inl h⟩
theorem fr_grown {w u : World} {b : Nat} {v z : Value} (hg : w.grownBy u v.ownBlock) (hat : z.ownBlock = v.ownBlock ∨ z.ownBlock = some w.heap.size) (k : Nat) (y : Value) : Fr b v z w (u.setCell ⟨b, k, none⟩ y) := by
  refine ⟨hg.os, hg.tape, hg.output, Nat.le_trans hg.size (by simp [World.setCell]), fun j hj h1 h2 => ?_, fun j hj => ?_⟩
  · rw [Below.heap_setCell _ _ _ _ (fun e => h1 e)]
    exact hg.block j hj (fun e => h2 e.symm)
  · rcases hat with h | h
    · exact .inl (h.symm.trans hj)
    · rw [h] at hj; cases hj; exact .inr (Nat.le_refl _)
theorem fr_alloc {w w2 : World} {b : Nat} {v v' : Value} {o : Obj} (h : Fr b v v' (w.alloc o) w2) : Fr b v v' w w2 := by
  refine ⟨h.os, h.tape, h.output, Nat.le_trans (by simp) h.size, fun k hk h1 h2 => ?_, fun k hk => ?_⟩
  · rw [h.block k (by simp; omega) h1 h2]
    exact Below.heap_alloc w o k hk
  · rcases h.own k hk with q | q
    · exact .inl q
    · exact .inr (Nat.le_trans (by simp) q)

theorem mixed_ : Tryd.prog.follows Departure.mixedOrders = true := by kernel_rfl
theorem bd_info : ((Tryd.prog.info? 51).map (·.size)) = some 2 := by kernel_rfl
set_option maxHeartbeats 2000000 in
theorem checkA (P0 : Unit)  {w : World} {B b : Nat} {p v : Value} {t : List Nat} (h : BdA  w B b p v t) (hp : p = .pointer none ∨ p = .pointer (some ⟨b, 0, none⟩)) :
    Calls Tryd.prog 53 #[.pointer (some ⟨b, 0, none⟩)] w fun e w' => e = .returned (.tuple #[]) ∧ BdA  w' B b (.pointer (some ⟨b, 0, none⟩)) v t ∧ Fr b v v w w' := by
  obtain ⟨j, hj, hjs⟩ := Option.map_eq_some_iff.1 bd_info
  rcases hp with rfl | rfl
  · have c0 : w.cell? ⟨b, 0, none⟩ = some (.pointer none) := by rw [Lib.cell_of_heap h.blk]; rfl
    have hsh : w.shape? b = some (51, 2) := by simp [World.shape?, h.blk]
    have hfz : w.frozen? ⟨b, 0, none⟩ = false := Lib.frozen_of_heap h.blk 0
    have hlies : liesAt Tryd.prog Tryd.prog.depth 51 (2 / Tryd.prog.cellsOf 51) 0 51 1 = true := by kernel_rfl
    go_enter Tryd.func53, Tryd.ntmps53
    go_wp2
    rw [Lib.run_to_unsafe w ⟨b, 0, none⟩ Tryd.underlying49 Tryd.underlying98 hj (by rw [hjs]; decide) hsh (by show 0 < 2; omega)]
    simp only [Result.andThen]
    rw [Oper.upon_value]
    go_wp2
    rw [run_callFunc_extern Tryd.func68 (by kernel_rfl) (by kernel_rfl) (by kernel_rfl) (e := Extern.AbiNoEscape.same) (by kernel_rfl)]
    rw [Lib.run_noEscape]
    simp only [Result.andThen]
    rw [Oper.upon_value]
    go_wp2
    rw [Lib.run_from_unsafe w ⟨b, 0, none⟩ Tryd.underlying98 Tryd.underlying49 hj hsh hlies]
    simp only [Result.andThen]
    rw [Oper.upon_value]
    go_wp2
    go_end0
    refine ⟨rfl, ⟨h.toBuf.keep (set_grown w _ _) h.far, ?_⟩, fr_set v 0 _⟩
    simp [World.setCell, Array.getElem?_modify, h.blk]
  · have c0 : w.cell? ⟨b, 0, none⟩ = some (.pointer (some ⟨b, 0, none⟩)) := by rw [Lib.cell_of_heap h.blk]; rfl
    go_enter Tryd.func53, Tryd.ntmps53
    go_wp2
    rw [Lib.run_neq_ptr_same w _ Tryd.underlying49 hj]
    go_wp2
    go_end0
    exact ⟨rfl, h, Fr.refl _ _ _⟩
/-- One that is never moved. -/
def WrA  (w : World) (B b : Nat) (v : Value) (t : List Nat) : Prop := ∃ p, (p = .pointer none ∨ p = .pointer (some ⟨b, 0, none⟩)) ∧ BdA  w B b p v t
set_option maxHeartbeats 2000000 in
theorem byteWA  {w : World} {B b : Nat} {v : Value} {t : List Nat} (h : WrA  w B b v t) (c : Nat) (hl : t.length + 1 ≤ 100000000000) (hB : B ≤ w.heap.size) :
    Calls Tryd.prog 30 #[.pointer (some ⟨b, 0, none⟩), .int .u8 (c : Int)] w fun e w' => e = .returned .nilIface ∧ ∃ v', WrA  w' B b v' (t ++ [c]) ∧ Fr b v v' w w' := by
  obtain ⟨p, hp, h⟩ := h
  obtain ⟨i0, hi, hz0, hz1, hz2⟩ := info_parts byte_info
  go_enter Tryd.func30, Tryd.ntmps30
  go_wp2_with fail
  refine (checkA ()  h hp).mono ?_
  rintro e w1 ⟨rfl, h1, f1⟩
  clear h hp
  have c1 : w1.cell? ⟨b, 1, none⟩ = some v := by rw [Lib.cell_of_heap h1.blk]; rfl
  have hB1 : B ≤ w1.heap.size := Nat.le_trans hB f1.size
  have hnews : ∀ j u, ([.int .u8 (c : Int)] : List Value)[j]? = some u → (w1.alloc (.cells #[.int .u8 (c : Int)] 5)).cell? ((⟨w1.heap.size, 0, none⟩ : Addr).add j) = some u := World.news_of_block (heap_alloc_new w1 _)
  have hz5 : (w1.alloc (.cells #[.int .u8 (c : Int)] 5)).heap.size = w1.heap.size + 1 := World.size_alloc ..
  have hown := h1.own.alloc (.cells #[.int .u8 (c : Int)] 5)
  go_wp2_with (at_builtin; refine wpList_append_lies _ rfl _ _ _ rfl B 5 i0 (.int .u8 0) 1 1 Tryd.underlying22 hi hz0 hz1 hz2 rfl (by omega) v t.length (n8 t) rfl hown ⟨w1.heap.size, 0, none⟩ 1 1 [.int .u8 (c : Int)] rfl rfl hnews (by simp [Value.oneCell']) (by omega) (by simp only [maxLen]; omega) (by omega) (by omega) (w1.heap.size + 1) hz5 ?_; intro g6 cap6 w6 hown6 hgrow hat hlt6; refine Hid.out ?_)
  have hlt := lt_of_blk h1.blk
  have hb6 : w6.heap[b]? = w1.heap[b]? := by
    rw [hgrow.block b (by rw [World.size_alloc]; omega) (fun e => h1.far e.symm)]
    exact Below.heap_alloc w1 _ b hlt
  have d1 : w6.cell? ⟨b, 1, none⟩ = some v := by rw [Lib.cell_of_heap (hb6.trans h1.blk)]; rfl
  have z1 : w6.frozen? ⟨b, 1, none⟩ = false := Lib.frozen_of_heap (hb6.trans h1.blk) _
  refine Lib.hid ?_
  go_wp2
  go_ret
  have hgb : g6 ≠ b := fun e => by
    rcases hat with q | q
    · exact h1.far (by rw [q, e])
    · omega
  refine ⟨rfl, .slice (some ⟨g6, 0, none⟩) (t.length + 1) cap6, ⟨_, .inr rfl, ⟨?_, fun e => hgb (by simpa [Value.ownBlock] using e), fun e => by simp at e⟩, ?_⟩, f1.trans (fr_alloc (o := .cells #[.int .u8 (c : Int)] 5) ?_)⟩
  · refine World.ownsRow.kept ?_ (set_grown _ _ _) (.inr fun e => hgb (by simpa [Value.ownBlock] using e))
    rw [List.length_append, n8_app]
    exact hown6
  · simp [World.setCell, Array.getElem?_modify, hb6, h1.blk]
  · refine fr_grown hgrow ?_ _ _
    rcases hat with q | q
    · exact .inl (by rw [q]; rfl)
    · exact .inr (by rw [hz5, q]; rfl)
set_option maxHeartbeats 2000000 in
theorem strWA  {w : World} {B b : Nat} {v : Value} {t : List Nat} (h : WrA  w B b v t) (s : ByteArray) (hl : t.length + s.size ≤ 100000000000) (hB : B ≤ w.heap.size) :
    Calls Tryd.prog 31 #[.pointer (some ⟨b, 0, none⟩), .string s] w fun e w' => e = .returned (.tuple #[.int .i64 s.size, .nilIface]) ∧ ∃ v', WrA  w' B b v' (t ++ bs s) ∧ Fr b v v' w w' := by
  obtain ⟨p, hp, h⟩ := h
  obtain ⟨i0, hi, hz0, hz1, hz2⟩ := info_parts byte_info
  go_enter Tryd.func31, Tryd.ntmps31
  go_wp2_with fail
  refine (checkA ()  h hp).mono ?_
  rintro e w1 ⟨rfl, h1, f1⟩
  clear h hp
  have c1 : w1.cell? ⟨b, 1, none⟩ = some v := by rw [Lib.cell_of_heap h1.blk]; rfl
  have hB1 : B ≤ w1.heap.size := Nat.le_trans hB f1.size
  go_wp2_with (at_builtin; refine wpList_append_str rfl _ _ 22 9 rfl B 5 i0 Tryd.underlying22 Tryd.underlying9 hi hz0 hz1 hz2 v _ _ rfl h1.own s rfl (by simp only [maxLen]; omega) (by omega) hB1 ?_; intro v6 w6 hown6 hgrow hnil hat; refine Hid.out ?_)
  have hlt := lt_of_blk h1.blk
  have hb6 : w6.heap[b]? = w1.heap[b]? := hgrow.block b hlt (fun e => h1.far e.symm)
  have d1 : w6.cell? ⟨b, 1, none⟩ = some v := by rw [Lib.cell_of_heap (hb6.trans h1.blk)]; rfl
  have z1 : w6.frozen? ⟨b, 1, none⟩ = false := Lib.frozen_of_heap (hb6.trans h1.blk) _
  obtain ⟨A6, c6, rfl⟩ := own_form hown6
  have HN := hidd hnil
  clear hnil
  refine Lib.hid ?_
  go_wp2
  go_ret2
  have hgb : (Value.slice A6 (t.length + s.size) c6).ownBlock ≠ some b := fun e => by
    rcases hat with q | q
    · exact h1.far (q.symm.trans e)
    · rw [q] at e; cases e; omega
  have hls : (bs s).length = s.size := bs_len s
  refine ⟨rfl, .slice A6 (t.length + s.size) c6, ⟨_, .inr rfl, ⟨?_, hgb, fun e => ?_⟩, ?_⟩, f1.trans (fr_grown hgrow hat _ _)⟩
  · refine World.ownsRow.kept ?_ (set_grown _ _ _) (.inr hgb)
    rw [List.length_append, n8_app, hls, ← n8_str]
    exact hown6
  · obtain ⟨e1, e2⟩ := List.append_eq_nil_iff.1 e
    exact HN.out.2 ⟨h1.nil e1, by rw [← hls, e2]; rfl⟩
  · simp [World.setCell, Array.getElem?_modify, hb6, h1.blk]
set_option maxHeartbeats 2000000 in
theorem getWA  {w : World} {B b : Nat} {v : Value} {t : List Nat} (h : WrA  w B b v t) (ht : ∀ x ∈ t, x < 256) :
    Calls Tryd.prog 21 #[.pointer (some ⟨b, 0, none⟩)] w fun e w' => e = .returned (.string (txt t)) ∧ Below B w w' := by
  obtain ⟨p, hp, h⟩ := h
  cases t with
  | nil =>
    have hv := h.nil rfl
    subst hv
    have hUS := fun (W : World) (q : Option Addr) => Lib.run_unsafeString_none (P := Tryd.prog) W 79 3 9 q
    have c1 : w.drew.cell? ⟨b, 1, none⟩ = some (.slice none 0 0) := by
      have : w.drew.heap[b]? = _ := h.blk
      rw [Lib.cell_of_heap this]; rfl
    have hSD : (Builtin.unsafeSliceData_ #[22] 79 #[.slice none 0 0]).run Tryd.prog w.drew = .ok (.pointer none) w.drew := rfl
    have mixed := mixed_
    go_enter Tryd.func21, Tryd.ntmps21
    go_wp2
    go_region_o
    all_goals (go_wp2; go_ret; exact ⟨rfl, Below.drew (Below.refl B w)⟩)
  | cons x0 t0 =>
    generalize htt : x0 :: t0 = t at *
    have h0 : t ≠ [] := by rw [← htt]; simp
    clear htt
    have hl0 : t.length ≠ 0 := by simpa using h0
    obtain ⟨g, cap, cur, rfl, hbg, hg, hnc, hcm, hcs, htake⟩ : ∃ g cap cur, v = .slice (some ⟨g, 0, none⟩) t.length cap ∧ B ≤ g ∧ w.heap[g]? = some (.cells cur 5 (0, 0)) ∧ t.length ≤ cap ∧ cap ≤ maxLen ∧ cur.size = cap * 1 ∧ cur.toList.take (t.length * 1) = n8 t := by
      rcases h.own.2 with ⟨_, hz⟩ | ⟨g, cap, cur, hv, r⟩
      · exact absurd hz hl0
      · exact ⟨g, cap, cur, hv, r⟩
    have c1 : w.drew.cell? ⟨b, 1, none⟩ = some (.slice (some ⟨g, 0, none⟩) t.length cap) := by
      have : w.drew.heap[b]? = _ := h.blk
      rw [Lib.cell_of_heap this]; rfl
    have hSD : (Builtin.unsafeSliceData_ #[22] 79 #[.slice (some ⟨g, 0, none⟩) t.length cap]).run Tryd.prog w.drew = .ok (.pointer (some ⟨g, 0, none⟩)) w.drew :=
      Lib.run_unsafeSliceData_row _ _ _ _ _ _ (by omega)
    have hln : (t.map UInt8.ofNat).length = t.length := by simp
    have hUS : (Builtin.unsafeString_ #[79, 3] 9 #[.pointer (some ⟨g, 0, none⟩), .int .i64 t.length]).run Tryd.prog w.drew = .ok (.string (txt t)) (w.drew.freeze ⟨g, 0, none⟩ t.length) := by
      rw [← hln]
      refine Lib.run_unsafeString_row w.drew 79 3 9 5 Tryd.underlying79 (by kernel_rfl) g cur.size (by have hg' : w.drew.heap[g]? = some (.cells cur 5 (0, 0)) := hg; simp [World.shape?, hg']) (t.map UInt8.ofNat) (by simpa using h0) (by rw [hln]; omega) (by rw [hln]; unfold maxLen at hcm; omega) ?_
      intro j x hx
      have := h.own.cells (g := g) rfl j (.int .u8 x.toNat) (by rw [← n8_bytes ht]; simp only [Lib.byteCells, List.getElem?_map]; rw [← List.getElem?_map, hx]; rfl)
      exact this
    clear hln
    generalize txt t = r at *
    have mixed := mixed_
    go_enter Tryd.func21, Tryd.ntmps21
    go_wp2
    go_region_o
    all_goals (go_wp2; go_ret; exact ⟨rfl, Lib.below_freeze (Below.drew (Below.refl B w)) (p := ⟨g, 0, none⟩) hbg _⟩)
set_option maxHeartbeats 2000000 in
theorem checkP (P0 : Unit) (nv : Value) {w : World} {B b : Nat} {p v : Value} {t : List Nat} (h : BdP nv w B b p v t) (hp : p = .pointer none ∨ p = .pointer (some ⟨b, 1, none⟩)) :
    Calls Tryd.prog 53 #[.pointer (some ⟨b, 1, none⟩)] w fun e w' => e = .returned (.tuple #[]) ∧ BdP nv w' B b (.pointer (some ⟨b, 1, none⟩)) v t ∧ Fr b v v w w' := by
  obtain ⟨j, hj, hjs⟩ := Option.map_eq_some_iff.1 bd_info
  rcases hp with rfl | rfl
  · have c0 : w.cell? ⟨b, 1, none⟩ = some (.pointer none) := by rw [Lib.cell_of_heap h.blk]; rfl
    have hsh : w.shape? b = some (53, 3) := by simp [World.shape?, h.blk]
    have hfz : w.frozen? ⟨b, 1, none⟩ = false := Lib.frozen_of_heap h.blk 1
    have hlies : liesAt Tryd.prog Tryd.prog.depth 53 (3 / Tryd.prog.cellsOf 53) 1 51 1 = true := by kernel_rfl
    go_enter Tryd.func53, Tryd.ntmps53
    go_wp2
    rw [Lib.run_to_unsafe w ⟨b, 1, none⟩ Tryd.underlying49 Tryd.underlying98 hj (by rw [hjs]; decide) hsh (by show 1 < 3; omega)]
    simp only [Result.andThen]
    rw [Oper.upon_value]
    go_wp2
    rw [run_callFunc_extern Tryd.func68 (by kernel_rfl) (by kernel_rfl) (by kernel_rfl) (e := Extern.AbiNoEscape.same) (by kernel_rfl)]
    rw [Lib.run_noEscape]
    simp only [Result.andThen]
    rw [Oper.upon_value]
    go_wp2
    rw [Lib.run_from_unsafe w ⟨b, 1, none⟩ Tryd.underlying98 Tryd.underlying49 hj hsh hlies]
    simp only [Result.andThen]
    rw [Oper.upon_value]
    go_wp2
    go_end0
    refine ⟨rfl, ⟨h.toBuf.keep (set_grown w _ _) h.far, ?_⟩, fr_set v 1 _⟩
    simp [World.setCell, Array.getElem?_modify, h.blk]
  · have c0 : w.cell? ⟨b, 1, none⟩ = some (.pointer (some ⟨b, 1, none⟩)) := by rw [Lib.cell_of_heap h.blk]; rfl
    go_enter Tryd.func53, Tryd.ntmps53
    go_wp2
    rw [Lib.run_neq_ptr_same w _ Tryd.underlying49 hj]
    go_wp2
    go_end0
    exact ⟨rfl, h, Fr.refl _ _ _⟩
/-- One that is never moved. -/
def WrP (nv : Value) (w : World) (B b : Nat) (v : Value) (t : List Nat) : Prop := ∃ p, (p = .pointer none ∨ p = .pointer (some ⟨b, 1, none⟩)) ∧ BdP nv w B b p v t
set_option maxHeartbeats 2000000 in
theorem byteWP (nv : Value) {w : World} {B b : Nat} {v : Value} {t : List Nat} (h : WrP nv w B b v t) (c : Nat) (hl : t.length + 1 ≤ 100000000000) (hB : B ≤ w.heap.size) :
    Calls Tryd.prog 30 #[.pointer (some ⟨b, 1, none⟩), .int .u8 (c : Int)] w fun e w' => e = .returned .nilIface ∧ ∃ v', WrP nv w' B b v' (t ++ [c]) ∧ Fr b v v' w w' := by
  obtain ⟨p, hp, h⟩ := h
  obtain ⟨i0, hi, hz0, hz1, hz2⟩ := info_parts byte_info
  go_enter Tryd.func30, Tryd.ntmps30
  go_wp2_with fail
  refine (checkP () nv h hp).mono ?_
  rintro e w1 ⟨rfl, h1, f1⟩
  clear h hp
  have c1 : w1.cell? ⟨b, 2, none⟩ = some v := by rw [Lib.cell_of_heap h1.blk]; rfl
  have hB1 : B ≤ w1.heap.size := Nat.le_trans hB f1.size
  have hnews : ∀ j u, ([.int .u8 (c : Int)] : List Value)[j]? = some u → (w1.alloc (.cells #[.int .u8 (c : Int)] 5)).cell? ((⟨w1.heap.size, 0, none⟩ : Addr).add j) = some u := World.news_of_block (heap_alloc_new w1 _)
  have hz5 : (w1.alloc (.cells #[.int .u8 (c : Int)] 5)).heap.size = w1.heap.size + 1 := World.size_alloc ..
  have hown := h1.own.alloc (.cells #[.int .u8 (c : Int)] 5)
  go_wp2_with (at_builtin; refine wpList_append_lies _ rfl _ _ _ rfl B 5 i0 (.int .u8 0) 1 1 Tryd.underlying22 hi hz0 hz1 hz2 rfl (by omega) v t.length (n8 t) rfl hown ⟨w1.heap.size, 0, none⟩ 1 1 [.int .u8 (c : Int)] rfl rfl hnews (by simp [Value.oneCell']) (by omega) (by simp only [maxLen]; omega) (by omega) (by omega) (w1.heap.size + 1) hz5 ?_; intro g6 cap6 w6 hown6 hgrow hat hlt6; refine Hid.out ?_)
  have hlt := lt_of_blk h1.blk
  have hb6 : w6.heap[b]? = w1.heap[b]? := by
    rw [hgrow.block b (by rw [World.size_alloc]; omega) (fun e => h1.far e.symm)]
    exact Below.heap_alloc w1 _ b hlt
  have d1 : w6.cell? ⟨b, 2, none⟩ = some v := by rw [Lib.cell_of_heap (hb6.trans h1.blk)]; rfl
  have z1 : w6.frozen? ⟨b, 2, none⟩ = false := Lib.frozen_of_heap (hb6.trans h1.blk) _
  refine Lib.hid ?_
  go_wp2
  go_ret
  have hgb : g6 ≠ b := fun e => by
    rcases hat with q | q
    · exact h1.far (by rw [q, e])
    · omega
  refine ⟨rfl, .slice (some ⟨g6, 0, none⟩) (t.length + 1) cap6, ⟨_, .inr rfl, ⟨?_, fun e => hgb (by simpa [Value.ownBlock] using e), fun e => by simp at e⟩, ?_⟩, f1.trans (fr_alloc (o := .cells #[.int .u8 (c : Int)] 5) ?_)⟩
  · refine World.ownsRow.kept ?_ (set_grown _ _ _) (.inr fun e => hgb (by simpa [Value.ownBlock] using e))
    rw [List.length_append, n8_app]
    exact hown6
  · simp [World.setCell, Array.getElem?_modify, hb6, h1.blk]
  · refine fr_grown hgrow ?_ _ _
    rcases hat with q | q
    · exact .inl (by rw [q]; rfl)
    · exact .inr (by rw [hz5, q]; rfl)
set_option maxHeartbeats 2000000 in
theorem strWP (nv : Value) {w : World} {B b : Nat} {v : Value} {t : List Nat} (h : WrP nv w B b v t) (s : ByteArray) (hl : t.length + s.size ≤ 100000000000) (hB : B ≤ w.heap.size) :
    Calls Tryd.prog 31 #[.pointer (some ⟨b, 1, none⟩), .string s] w fun e w' => e = .returned (.tuple #[.int .i64 s.size, .nilIface]) ∧ ∃ v', WrP nv w' B b v' (t ++ bs s) ∧ Fr b v v' w w' := by
  obtain ⟨p, hp, h⟩ := h
  obtain ⟨i0, hi, hz0, hz1, hz2⟩ := info_parts byte_info
  go_enter Tryd.func31, Tryd.ntmps31
  go_wp2_with fail
  refine (checkP () nv h hp).mono ?_
  rintro e w1 ⟨rfl, h1, f1⟩
  clear h hp
  have c1 : w1.cell? ⟨b, 2, none⟩ = some v := by rw [Lib.cell_of_heap h1.blk]; rfl
  have hB1 : B ≤ w1.heap.size := Nat.le_trans hB f1.size
  go_wp2_with (at_builtin; refine wpList_append_str rfl _ _ 22 9 rfl B 5 i0 Tryd.underlying22 Tryd.underlying9 hi hz0 hz1 hz2 v _ _ rfl h1.own s rfl (by simp only [maxLen]; omega) (by omega) hB1 ?_; intro v6 w6 hown6 hgrow hnil hat; refine Hid.out ?_)
  have hlt := lt_of_blk h1.blk
  have hb6 : w6.heap[b]? = w1.heap[b]? := hgrow.block b hlt (fun e => h1.far e.symm)
  have d1 : w6.cell? ⟨b, 2, none⟩ = some v := by rw [Lib.cell_of_heap (hb6.trans h1.blk)]; rfl
  have z1 : w6.frozen? ⟨b, 2, none⟩ = false := Lib.frozen_of_heap (hb6.trans h1.blk) _
  obtain ⟨A6, c6, rfl⟩ := own_form hown6
  have HN := hidd hnil
  clear hnil
  refine Lib.hid ?_
  go_wp2
  go_ret2
  have hgb : (Value.slice A6 (t.length + s.size) c6).ownBlock ≠ some b := fun e => by
    rcases hat with q | q
    · exact h1.far (q.symm.trans e)
    · rw [q] at e; cases e; omega
  have hls : (bs s).length = s.size := bs_len s
  refine ⟨rfl, .slice A6 (t.length + s.size) c6, ⟨_, .inr rfl, ⟨?_, hgb, fun e => ?_⟩, ?_⟩, f1.trans (fr_grown hgrow hat _ _)⟩
  · refine World.ownsRow.kept ?_ (set_grown _ _ _) (.inr hgb)
    rw [List.length_append, n8_app, hls, ← n8_str]
    exact hown6
  · obtain ⟨e1, e2⟩ := List.append_eq_nil_iff.1 e
    exact HN.out.2 ⟨h1.nil e1, by rw [← hls, e2]; rfl⟩
  · simp [World.setCell, Array.getElem?_modify, hb6, h1.blk]
set_option maxHeartbeats 2000000 in
theorem getWP (nv : Value) {w : World} {B b : Nat} {v : Value} {t : List Nat} (h : WrP nv w B b v t) (ht : ∀ x ∈ t, x < 256) :
    Calls Tryd.prog 21 #[.pointer (some ⟨b, 1, none⟩)] w fun e w' => e = .returned (.string (txt t)) ∧ Below B w w' := by
  obtain ⟨p, hp, h⟩ := h
  cases t with
  | nil =>
    have hv := h.nil rfl
    subst hv
    have hUS := fun (W : World) (q : Option Addr) => Lib.run_unsafeString_none (P := Tryd.prog) W 79 3 9 q
    have c1 : w.drew.cell? ⟨b, 2, none⟩ = some (.slice none 0 0) := by
      have : w.drew.heap[b]? = _ := h.blk
      rw [Lib.cell_of_heap this]; rfl
    have hSD : (Builtin.unsafeSliceData_ #[22] 79 #[.slice none 0 0]).run Tryd.prog w.drew = .ok (.pointer none) w.drew := rfl
    have mixed := mixed_
    go_enter Tryd.func21, Tryd.ntmps21
    go_wp2
    go_region_o
    all_goals (go_wp2; go_ret; exact ⟨rfl, Below.drew (Below.refl B w)⟩)
  | cons x0 t0 =>
    generalize htt : x0 :: t0 = t at *
    have h0 : t ≠ [] := by rw [← htt]; simp
    clear htt
    have hl0 : t.length ≠ 0 := by simpa using h0
    obtain ⟨g, cap, cur, rfl, hbg, hg, hnc, hcm, hcs, htake⟩ : ∃ g cap cur, v = .slice (some ⟨g, 0, none⟩) t.length cap ∧ B ≤ g ∧ w.heap[g]? = some (.cells cur 5 (0, 0)) ∧ t.length ≤ cap ∧ cap ≤ maxLen ∧ cur.size = cap * 1 ∧ cur.toList.take (t.length * 1) = n8 t := by
      rcases h.own.2 with ⟨_, hz⟩ | ⟨g, cap, cur, hv, r⟩
      · exact absurd hz hl0
      · exact ⟨g, cap, cur, hv, r⟩
    have c1 : w.drew.cell? ⟨b, 2, none⟩ = some (.slice (some ⟨g, 0, none⟩) t.length cap) := by
      have : w.drew.heap[b]? = _ := h.blk
      rw [Lib.cell_of_heap this]; rfl
    have hSD : (Builtin.unsafeSliceData_ #[22] 79 #[.slice (some ⟨g, 0, none⟩) t.length cap]).run Tryd.prog w.drew = .ok (.pointer (some ⟨g, 0, none⟩)) w.drew :=
      Lib.run_unsafeSliceData_row _ _ _ _ _ _ (by omega)
    have hln : (t.map UInt8.ofNat).length = t.length := by simp
    have hUS : (Builtin.unsafeString_ #[79, 3] 9 #[.pointer (some ⟨g, 0, none⟩), .int .i64 t.length]).run Tryd.prog w.drew = .ok (.string (txt t)) (w.drew.freeze ⟨g, 0, none⟩ t.length) := by
      rw [← hln]
      refine Lib.run_unsafeString_row w.drew 79 3 9 5 Tryd.underlying79 (by kernel_rfl) g cur.size (by have hg' : w.drew.heap[g]? = some (.cells cur 5 (0, 0)) := hg; simp [World.shape?, hg']) (t.map UInt8.ofNat) (by simpa using h0) (by rw [hln]; omega) (by rw [hln]; unfold maxLen at hcm; omega) ?_
      intro j x hx
      have := h.own.cells (g := g) rfl j (.int .u8 x.toNat) (by rw [← n8_bytes ht]; simp only [Lib.byteCells, List.getElem?_map]; rw [← List.getElem?_map, hx]; rfl)
      exact this
    clear hln
    generalize txt t = r at *
    have mixed := mixed_
    go_enter Tryd.func21, Tryd.ntmps21
    go_wp2
    go_region_o
    all_goals (go_wp2; go_ret; exact ⟨rfl, Lib.below_freeze (Below.drew (Below.refl B w)) (p := ⟨g, 0, none⟩) hbg _⟩)
end Go.Proofs.YtghjkbjpdjlddaaDoor.Sy

/- NormOrder: its walk. -/
import Derived.Test.YtgppanbikfobbaaBa
import Derived.Test.YtgppanbikfobbaaRs
namespace Go.Proofs.Ytgppanbikfobbaa.Sy.Ap.Od
open Go.RowKit
set_option maxRecDepth 100000
set_option linter.unusedVariables false

def Eb (d : Option Nat) (u u' : World) : Prop := Below u.heap.size u u'
theorem eby {d : Option Nat} {u u' : World} (_ : true = true) (h : Below u.heap.size u u') : Eb d u u' := h
set_option linter.unusedVariables false in
def OrGV (bx ox i m cx : Nat) (d : DG) (Ad : Option Addr) (cd : Nat) (zv : Value) (t : Nat) : Option Value :=
  match t with
  | 6 => some (.slice (some ⟨bx, ox, none⟩) m cx)
  | 8 => some (zv)
  | 9 => some (.int .i64 (i : Int))
  | 35 => some (zv)
  | 36 => some (.slice (some ⟨bx, ox, none⟩) m cx)
  | 37 => some (.int .i64 (i : Int))
  | 38 => some (.pointer (some ⟨bx, ox + i * 2, none⟩))
  | 39 => some (.pointer (some ⟨bx, ox + i * 2, none⟩))
  | 40 => some (.string d.1)
  | 41 => some (.slice (some ⟨bx, ox, none⟩) m cx)
  | 42 => some (.int .i64 (i : Int))
  | 43 => some (.pointer (some ⟨bx, ox + i * 2, none⟩))
  | 44 => some (.pointer (some ⟨bx, ox + i * 2 + 1, none⟩))
  | 45 => some (.slice Ad d.2.length cd)
  | _ => none
set_option linter.unusedVariables false in
def OrGP (bx ox i m cx : Nat) (d : DG) (Ad : Option Addr) (cd : Nat) (zv : Value) (t : Nat) : Option (Value → World → Prop) :=
  match t with
  | 46 => some (FdV d.2)
  | 47 => some (FdA d)
  | 48 => some (FdW d)
  | _ => none
def OrG (bx ox i m cx : Nat) (d : DG) (Ad : Option Addr) (cd : Nat) (zv : Value) (t : Nat) (v : Value) (u : World) : Prop := (∀ z9, OrGV bx ox i m cx d Ad cd zv t = some z9 → v = z9) ∧ ∀ R, OrGP bx ox i m cx d Ad cd zv t = some R → R v u
theorem gd_rev {ds : List DG} {D : List Df} (h : GD ds D) : GD ds.reverse D.reverse := by
  refine ⟨by rw [List.length_reverse, List.length_reverse]; exact h.len, fun i hi => ?_, fun x hx => h.trs x (List.mem_reverse.1 hx)⟩
  rw [List.length_reverse] at hi
  have hi2 : i < D.length := by rw [← h.len]; exact hi
  have e : D.reverse.getD i df0 = D.getD (D.length - 1 - i) df0 := by
    rw [List.getD_eq_getElem?_getD, List.getElem?_reverse hi2, List.getD_eq_getElem?_getD]
  rw [rev_at ds hi, e, ← h.len]
  exact h.at_ _ (by omega)
theorem or_yend {w : World} {ds : List DG} {iz : Nat} {yv zv : Value} {ly lz : List DR} {u : World} (h : OrR w ds ds.length iz yv zv ly lz u) : ∃ A c, yv = .slice A ds.length c ∧ Dfs u u.heap.size A ds.reverse := by
  have h1 := h.ydfs
  rw [List.take_of_length_le (by rw [List.length_reverse]; exact Nat.le_refl _), List.length_reverse] at h1
  exact h1
theorem or_zend {w : World} {ds : List DG} {iy : Nat} {yv zv : Value} {ly lz : List DR} {u : World} (h : OrR w ds iy ds.length yv zv ly lz u) : ∃ A c, zv = .slice A ds.length c ∧ Dfs u u.heap.size A (ds.map (fun d => (d.1, gF d.2))) := by
  have h1 := h.zdfs
  rw [List.take_of_length_le (Nat.le_refl _), List.length_map] at h1
  exact h1
theorem dok_rev {ds : List DG} (h : DOk ds) : DOk ds.reverse :=
  ⟨by rw [List.length_reverse]; exact h.len, fun d hd => h.nm d (List.mem_reverse.1 hd), fun d hd => h.few d (List.mem_reverse.1 hd), fun d hd => h.nds d (List.mem_reverse.1 hd)⟩
theorem dok_fold {ds : List DG} (h : DOk ds) : DOk (ds.map (fun d => (d.1, gF d.2))) := by
  refine ⟨by rw [List.length_map]; exact h.len, fun d hd => ?_, fun d hd => ?_, fun d hd => ?_⟩
  · obtain ⟨x, hx, rfl⟩ := List.mem_map.1 hd
    exact h.nm x hx
  · obtain ⟨x, hx, rfl⟩ := List.mem_map.1 hd
    show (gF x.2).length ≤ 2000
    have := h.few x hx
    unfold gF
    split
    · rw [List.length_map]; exact this
    · exact Nat.zero_le _
  · obtain ⟨x, hx, rfl⟩ := List.mem_map.1 hd
    intro g hg
    change g ∈ gF x.2 at hg
    unfold gF at hg
    split at hg
    · obtain ⟨y, hy, rfl⟩ := List.mem_map.1 hg
      have q := h.nds x hx y hy
      unfold foldG
      split
      · exact q
      · exact q
    · cases hg
/-- What Expand tells, of the Defs as they are and turned round; and folded. -/
theorem ord_R (g4 : List Gd) (d6 : List DG) (hl : g4.length ≤ 2000) (hsm : Small g4) (hok : DOk d6) : ∃ R : Except Nat (List Nd),
    (∀ (A : Option Addr) (c : Nat) (A2 : Option Addr) (c2 : Nat) (u : World), Nds u u.heap.size A g4 → g4.length ≤ c → Dfs u u.heap.size A2 d6 →
      Calls Try.prog 6 #[.slice A g4.length c, .slice A2 d6.length c2] u fun e w' => XpR u R e w') ∧
    (∀ (A : Option Addr) (c : Nat) (A2 : Option Addr) (c2 : Nat) (u : World), Nds u u.heap.size A g4 → g4.length ≤ c → Dfs u u.heap.size A2 d6.reverse →
      Calls Try.prog 6 #[.slice A g4.length c, .slice A2 d6.length c2] u fun e w' => XpR u R e w') ∧
    (∀ er, R = .error er → 1 ≤ er) ∧
    ∀ o, R = .ok o → TreeN o ∧ ∃ ns, GN g4 ns ∧ TreeN ns ∧
      ∀ (A : Option Addr) (A2 : Option Addr) (c2 : Nat) (u : World), Nds u u.heap.size A (g4.map foldG) → Dfs u u.heap.size A2 (d6.map (fun d => (d.1, gF d.2))) →
        Calls Try.prog 6 #[.slice A g4.length g4.length, .slice A2 d6.length c2] u fun e w' => XpR u (.ok (foldL o)) e w' := by
  by_cases hr : RightG g4 ∧ RightDs d6
  · obtain ⟨ns, hg, ht⟩ := gn_tree hr.1
    obtain ⟨D, hD⟩ := gd_of hr.2
    refine ⟨expN ns D, fun A c A2 c2 u hN hc hx => xpand_ok A c g4 ns A2 c2 d6 D u hN hc hsm hx hok hg ht hr.2 hD, fun A c A2 c2 u hN hc hx => ?_, fun er he => ?_, fun o he => ?_⟩
    · have h1 := xpand_ok A c g4 ns A2 c2 d6.reverse D.reverse u hN hc hsm hx (dok_rev hok) hg ht (rightDs_rev.2 hr.2) (gd_rev hD)
      rw [List.length_reverse, expN_congr (findD_rev (hD.apart hr.2))] at h1
      exact h1
    · unfold expN at he
      cases h2 : exF (allD D) D ns x0 with
      | error q => rw [h2] at he; cases he; exact exF_err h2
      | ok q => rw [h2] at he; cases he
    · refine ⟨(expN_tree hD.trs ht he).1, ns, hg, ht, fun A A2 c2 u hN hx => ?_⟩
      have h1 := xpand_ok A g4.length (g4.map foldG) (foldL ns) A2 c2 (d6.map (fun d => (d.1, gF d.2))) (foldD D) u hN (by rw [List.length_map]; exact Nat.le_refl _) (gn_sm (gn_fold hg ht.shp) ht.fold) hx (dok_fold hok) (gn_fold hg ht.shp) ht.fold (rightDs_fold hr.2) (gd_fold hD hr.2)
      rw [List.length_map, List.length_map, expN_fold he] at h1
      exact h1
  · refine ⟨.error 1, fun A c A2 c2 u hN hc hx => xpand_bad A c g4 A2 c2 d6 u hN hl hsm hx hok hr, fun A c A2 c2 u hN hc hx => ?_, fun er he => by cases he; exact Nat.le_refl _, fun o he => by cases he⟩
    have h1 := xpand_bad A c g4 A2 c2 d6.reverse u hN hl hsm hx (dok_rev hok) (fun q => hr ⟨q.1, rightDs_rev.1 q.2⟩)
    rw [List.length_reverse] at h1
    exact h1
theorem nds_none (w : World) (B : Nat) (A : Option Addr) : Nds w B A [] := fun h => absurd rfl h
set_option maxHeartbeats 1000000 in
theorem lawOrder_any (A : Option Addr) (c : Nat) (gs : List Gd) (A2 : Option Addr) (c2 : Nat) (ds : List DG) (w : World) (hN : Nds w w.heap.size A gs) (hc : gs.length ≤ c) (hm : gs.length ≤ maxLen) (hsm : Small gs) (hx : Dfs w w.heap.size A2 ds) (hdm : ds.length ≤ maxLen) (hds : ∀ d ∈ ds, d.1.size ≤ maxLen ∧ d.2.length ≤ maxLen ∧ Small d.2) :
    Calls Try.prog 4 #[.slice A gs.length c, .slice A2 ds.length c2] w fun e w' => e = .returned (.bool true) ∧ Below w.heap.size w w' := by
  obtain ⟨i0, hi0, hz0, hz1, hz2⟩ := info_parts def_info
  have hok : DOk (someL ds) := some_dok (fun d hd => (hds d hd).1) (fun d hd => (hds d hd).2.2)
  have hs6 : (someL ds).length ≤ 6 := by have := some_len ds ds.length; rw [List.take_length] at this; exact this
  have hsh := shown_any w
  have HF : Hid (∀ u, Calls Try.prog 7 #[.slice A gs.length c] u fun e w' => e = .returned (.slice A (gs.take 400).length c) ∧ w' = u) := fun u => few_nds A c gs u hc hm
  have HS : Hid (∀ u, Below w.heap.size w u → Calls Try.prog 8 #[.slice A2 ds.length c2] u fun e w' => Below u.heap.size u w' ∧ ∃ A3 c3, e = .returned (.slice A3 (someL ds).length c3) ∧ Dfs w' w'.heap.size A3 (someL ds)) := fun u hu => some_any A2 c2 ds u ((hx.below hu).more hu.size) hdm (fun d hd => (hds d hd).2.1)
  have hN4 := nds_take hN 400
  have hs4 := small_take hsm 400
  have hc4 : (gs.take 400).length ≤ c := by rw [List.length_take]; omega
  have hl4 : (gs.take 400).length ≤ 2000 := by rw [List.length_take]; omega
  clear hN hc hm hsm hx hdm hds
  generalize gs.length = n at *
  generalize gs.take 400 = g4 at *
  generalize ds.length = nds at *
  generalize someL ds = d6 at *
  clear gs ds
  have HN4 := hidd hN4
  have HS4 := hidd hs4
  have HC4 := hidd hc4
  have HL4 := hidd hl4
  have HOK := hidd hok
  obtain ⟨R, HX, HY, HE, HO⟩ := ord_R g4 d6 hl4 hs4 hok
  clear hN4 hs4 hc4 hl4 hok
  generalize hm6 : d6.length = m at *
  have HM := hidd hm6
  replace HX := hidd HX
  replace HY := hidd HY
  replace HE := hidd HE
  replace HO := hidd HO
  clear hm6
  go_enter Try.func4, Try.ntmps4
  go_wp2_with fail
  refine hsh.mono ?_
  rintro e w1 ⟨rfl, b1⟩
  have hs := HS.out w1 b1
  clear hsh
  go_wp2_with fail
  refine hs.mono ?_
  rintro e w2 ⟨b2, Ax, cx, rfl, D2⟩
  have B2 := b1.trans (b2.mono b1.size)
  have HB2 := hidd B2
  have HD2 := hidd D2
  have HS0 : Hid (OrR w2 d6 0 0 (.slice none 0 0) (.slice none 0 0) [] [] w2) := ⟨World.ownsRow_nil _ _ _ _, World.ownsRow_nil _ _ _ _, fun k hk => (by cases hk), rfl, rfl, fun x hx => absurd hx List.not_mem_nil, fun x hx => absurd hx List.not_mem_nil, Below.refl _ _⟩
  clear hs b1 b2 B2 D2
  go_wp2
  go_loopw [7, 8, 21] (fun s7 s8 s21 wr => ∃ (i : Nat) (ly lz : List DR), i ≤ m ∧ s21 = .int .i64 (i : Int) ∧ OrR w2 d6 i i s7 s8 ly lz wr) (fun _ _ s21 _ => m - (intOf s21).toNat)
  case atStart => exact ⟨0, [], [], Nat.zero_le _, rfl, HS0.out⟩
  case round =>
    clear HS0
    obtain ⟨i, ly, lz, hi0', rfl, L⟩ := hrel
    have D := L.bel
    by_cases hlt : i < m
    · obtain ⟨Ay, cy, rfl⟩ := own_form L.yo
      obtain ⟨Az, cz, rfl⟩ := own_form L.zo
      have hly : ly.length = i := by have := congrArg List.length L.ym; rw [List.length_map, List.length_take, List.length_reverse, HM.out] at this; omega
      have hlz : lz.length = i := by have := congrArg List.length L.zm; rw [List.length_map, List.length_map, List.length_take, HM.out] at this; omega
      have hlt2 : i < d6.length := by rw [HM.out]; exact hlt
      have hlr : m - 1 - i < d6.length := by rw [HM.out]; omega
      obtain ⟨bx, ox, rfl, hbx, A3, c3, N3, r3, hc3⟩ := (HD2.out.below D).at_ hlr
      have hkk : ((m : Int) - 1 - (i : Int)) = ((m - 1 - i : Nat) : Int) := by omega
      have hki : ((m - 1 - i : Nat) : Int) < (m : Int) := by omega
      generalize hgd : d6.getD (m - 1 - i) dg0 = d at *
      generalize hj : m - 1 - i = j at *
      have hii : (i : Int) < (m : Int) := by omega
      have HL := hidd L
      have hbs := D.size
      have hy0 := L.yo
      rw [hly] at hy0
      have hown := hy0.alloc (.cells #[.string d.1, .slice A3 d.2.length c3] 35)
      have hnews : ∀ j u, ([.string d.1, .slice A3 d.2.length c3] : List Value)[j]? = some u → (wr.alloc (.cells #[.string d.1, .slice A3 d.2.length c3] 35)).cell? ((⟨wr.heap.size, 0, none⟩ : Addr).add j) = some u := World.news_of_block (RowA.new wr 35 #[.string d.1, .slice A3 d.2.length c3])
      have hH : (wr.alloc (.cells #[.string d.1, .slice A3 d.2.length c3] 35)).heap.size = wr.heap.size + 1 := World.size_alloc ..
      have hbase : w2.heap.size ≤ (wr.alloc (.cells #[.string d.1, .slice A3 d.2.length c3] 35)).heap.size := by rw [hH]; omega
      have r3' : wr.rangeAt bx (ox + j * 2) [.string d.1, .slice A3 d.2.length c3] := r3
      go_upto_region 8 with (first
        | refine wpList_load_mid rfl 35 (.tmp 31) rfl bx (ox + j * 2) rfl [.string d.1, .slice A3 d.2.length c3] _ r3' Try.underlying35 rfl (by kernel_rfl) ?_
        | (at_builtin; refine wpList_append_lies _ rfl _ _ _ rfl w2.heap.size 35 i0 (.agg zeroDC) 2 40 Try.underlying23 hi0 hz0 hz1 hz2 rfl (by omega) _ i (dfsC ly) rfl hown ⟨wr.heap.size, 0, none⟩ 1 1 [.string d.1, .slice A3 d.2.length c3] rfl rfl hnews (by simp [Value.oneCell']) (by omega) (by simp only [maxLen]; omega) (by omega) hbase (wr.heap.size + 1) hH ?_; intro g6 cap6 w6 hown6 hgrow hat hlt6; refine Hid.out ?_))
      have hgr2 : (wr.alloc (.cells #[.string d.1, .slice A3 d.2.length c3] 35)).grownBy w6 (Value.slice Ay ly.length cy).ownBlock := by rw [hly]; exact hgrow
      have LA := HL.out.below ((Below.refl _ _).alloc (Nat.le_refl _) (.cells #[.string d.1, .slice A3 d.2.length c3] 35))
      have hNA : Nds (wr.alloc (.cells #[.string d.1, .slice A3 d.2.length c3] 35)) w2.heap.size A3 d.2 := N3.below ((Below.refl _ _).alloc hbs _)
      have LY := LA.ynext (v' := .slice (some ⟨g6, 0, none⟩) (i + 1) cap6) hlt2 (by rw [HM.out, hj]; exact hgd) hNA hc3 hgr2 (by rw [hly]; exact hown6) (by
        rw [hly, hH]
        rcases hat with q | q
        · exact .inl q.symm
        · exact .inr (by rw [q]; rfl))
      have HLY := hidd LY
      clear hgr2 LA hNA LY hown hnews hH hbase hown6 hgrow hat hlt6 r3 r3' N3 hc3 hgd hj hkk hki hlr HL L D hbs hy0
      refine Lib.hid ?_
      go_upto_region 8 with fail
      obtain ⟨b', o', he, hb4, Ad, cd, N4, r4, hc4⟩ := (HD2.out.below HLY.out.bel).at_ hlt2
      cases he
      have hdm := getD_mem hlt2
      have hl1 := HOK.out.few _ hdm
      have hsm1 : Small (d6.getD i dg0).2 := HOK.out.nds _ hdm
      have HGI : Hid (d6.getD i dg0 = d6.getD i dg0) := rfl
      have hbs := HLY.out.bel.size
      have HN6 : Hid (w2.heap.size ≤ w6.heap.size) := hbs
      have S6 : OrS w6 bx (ox + i * 2) (d6.getD i dg0) Ad cd w6 := ⟨r4, N4.more hbs, Below.refl _ _, by omega⟩
      clear hdm r4 N4
      have HZ : Hid (∀ {u w9 : World} {A8 : Option Addr} {v' : Value}, Below w6.heap.size w6 u → NdT u A8 (gF (d6.getD i dg0).2) → u.grownBy w9 (Value.slice Az lz.length cz).ownBlock → w9.ownsRow w2.heap.size 35 2 v' (lz.length + 1) (dfsC lz ++ dfL ((d6.getD i dg0).1, gF (d6.getD i dg0).2) A8 (gF (d6.getD i dg0).2).length) → (v'.ownBlock = (Value.slice Az lz.length cz).ownBlock ∨ v'.ownBlock = some u.heap.size) → ∃ ly' lz', OrR w2 d6 (i + 1) (i + 1) (.slice (some ⟨g6, 0, none⟩) (i + 1) cap6) v' ly' lz' w9) := fun hb hn hg h7 hat => ⟨_, _, (HLY.out.below hb).znext hlt2 rfl hn hg h7 hat⟩
      have HZO : Hid (∀ {u : World}, Below w6.heap.size w6 u → u.ownsRow w2.heap.size 35 2 (.slice Az i cz) i (dfsC lz)) := fun hb => by
        have := (HLY.out.below hb).zo
        rw [hlz] at this
        exact this
      clear HLY HGI
      generalize d6.getD i dg0 = d at *
      refine wp_region_slotsH 14 (by decide) (by kernel_rfl) (by kernel_rfl) (fun _ _ => true) (OrS w6 bx (ox + i * 2) d Ad cd) (OrG bx ox i m cx d Ad cd (.slice Az i cz)) Eb (by kernel_rfl) (by kernel_rfl) (by kernel_rfl) (by kernel_rfl) ?_ (S6.below (bel_drew (Below.refl _ _))) [6, 8, 9] (by kernel_rfl) ?_ ?_ ?_
      · intro t dd v u u' _ _ h hE
        refine ⟨h.1, fun R hR => ?_⟩
        have hh := h.2 R hR
        unfold OrGP at hR
        split at hR
        · cases hR; exact hh.below hE
        · cases hR; exact hh.below hE
        · cases hR; exact hh.below hE
        · cases hR
      · intro u _
        refine ⟨⟨_, rfl, ?_⟩, ⟨_, rfl, ?_⟩, ⟨_, rfl, ?_⟩, trivial⟩ <;> exact ⟨fun _ h => Option.some.inj h, fun _ h => no_some h⟩
      · refine ⟨?_, ?_, ?_, ?_, ?_, ?_, ?_, ?_, ?_, ?_, ?_, ?_, ?_, ?_, trivial⟩
        · intro a u hS hr K hK
          obtain ⟨⟨vl0, e0, g0⟩, -⟩ := hr
          obtain rfl := g0.1 _ rfl
          clear g0
          rw [if_pos (want_none rfl)]
          unfold Oper.wp
          go_simp
          exact hK _ _ ⟨fun _ h => Option.some.inj h, fun _ h => no_some h⟩ hS (eby rfl (Below.refl _ _))
        · intro a u hS hr K hK
          obtain ⟨⟨vl0, e0, g0⟩, -⟩ := hr
          obtain rfl := g0.1 _ rfl
          clear g0
          rw [if_pos (want_none rfl)]
          unfold Oper.wp
          go_simp
          exact hK _ _ ⟨fun _ h => Option.some.inj h, fun _ h => no_some h⟩ hS (eby rfl (Below.refl _ _))
        · intro a u hS hr K hK
          obtain ⟨⟨vl0, e0, g0⟩, -⟩ := hr
          obtain rfl := g0.1 _ rfl
          clear g0
          rw [if_pos (want_none rfl)]
          unfold Oper.wp
          go_simp
          exact hK _ _ ⟨fun _ h => Option.some.inj h, fun _ h => no_some h⟩ hS (eby rfl (Below.refl _ _))
        · intro a u hS hr K hK
          obtain ⟨⟨vl0, e0, g0⟩, ⟨vl1, e1, g1⟩, -⟩ := hr
          obtain rfl := g0.1 _ rfl
          clear g0
          obtain rfl := g1.1 _ rfl
          clear g1
          rw [if_pos (want_none rfl)]
          unfold Oper.wp
          go_simp
          exact hK _ _ ⟨fun _ h => Option.some.inj h, fun _ h => no_some h⟩ hS (eby rfl (Below.refl _ _))
        · intro a u hS hr K hK
          obtain ⟨⟨vl0, e0, g0⟩, -⟩ := hr
          obtain rfl := g0.1 _ rfl
          clear g0
          rw [if_pos (want_none rfl)]
          unfold Oper.wp
          go_simp
          exact hK _ _ ⟨fun _ h => Option.some.inj h, fun _ h => no_some h⟩ hS (eby rfl (Below.refl _ _))
        · intro a u hS hr K hK
          obtain ⟨⟨vl0, e0, g0⟩, -⟩ := hr
          obtain rfl := g0.1 _ rfl
          clear g0
          rw [if_pos (want_none rfl)]
          have d0 : u.cell? ⟨bx, ox + i * 2, none⟩ = some (.string d.1) := hS.nd 0 _ rfl
          unfold Oper.wp
          go_simp
          exact hK _ _ ⟨fun _ h => Option.some.inj h, fun _ h => no_some h⟩ hS (eby rfl (Below.refl _ _))
        · intro a u hS hr K hK
          obtain ⟨⟨vl0, e0, g0⟩, -⟩ := hr
          obtain rfl := g0.1 _ rfl
          clear g0
          rw [if_pos (want_none rfl)]
          unfold Oper.wp
          go_simp
          exact hK _ _ ⟨fun _ h => Option.some.inj h, fun _ h => no_some h⟩ hS (eby rfl (Below.refl _ _))
        · intro a u hS hr K hK
          obtain ⟨⟨vl0, e0, g0⟩, -⟩ := hr
          obtain rfl := g0.1 _ rfl
          clear g0
          rw [if_pos (want_none rfl)]
          unfold Oper.wp
          go_simp
          exact hK _ _ ⟨fun _ h => Option.some.inj h, fun _ h => no_some h⟩ hS (eby rfl (Below.refl _ _))
        · intro a u hS hr K hK
          obtain ⟨⟨vl0, e0, g0⟩, ⟨vl1, e1, g1⟩, -⟩ := hr
          obtain rfl := g0.1 _ rfl
          clear g0
          obtain rfl := g1.1 _ rfl
          clear g1
          rw [if_pos (want_none rfl)]
          unfold Oper.wp
          go_simp
          exact hK _ _ ⟨fun _ h => Option.some.inj h, fun _ h => no_some h⟩ hS (eby rfl (Below.refl _ _))
        · intro a u hS hr K hK
          obtain ⟨⟨vl0, e0, g0⟩, -⟩ := hr
          obtain rfl := g0.1 _ rfl
          clear g0
          rw [if_pos (want_none rfl)]
          unfold Oper.wp
          go_simp
          exact hK _ _ ⟨fun _ h => Option.some.inj h, fun _ h => no_some h⟩ hS (eby rfl (Below.refl _ _))
        · intro a u hS hr K hK
          obtain ⟨⟨vl0, e0, g0⟩, -⟩ := hr
          obtain rfl := g0.1 _ rfl
          clear g0
          rw [if_pos (want_none rfl)]
          have d1 : u.cell? ⟨bx, ox + i * 2 + 1, none⟩ = some (.slice Ad d.2.length cd) := hS.nd 1 _ rfl
          unfold Oper.wp
          go_simp
          exact hK _ _ ⟨fun _ h => Option.some.inj h, fun _ h => no_some h⟩ hS (eby rfl (Below.refl _ _))
        · intro a u hS hr K hK
          obtain ⟨⟨vl0, e0, g0⟩, -⟩ := hr
          obtain rfl := g0.1 _ rfl
          clear g0
          rw [if_pos (want_none rfl)]
          unfold Oper.wp
          go_simp
          refine (fold_sl hS hl1 hsm1).mono ?_
          rintro e u1 ⟨⟨v1, rfl, hv1⟩, hb⟩
          exact hK _ _ ⟨fun _ h => no_some h, fun _ h => spec_ok h hv1⟩ (hS.below hb) (eby rfl hb)
        · intro a u hS hr K hK
          obtain ⟨⟨vl0, e0, g0⟩, ⟨vl1, e1, g1⟩, -⟩ := hr
          obtain rfl := g0.1 _ rfl
          clear g0
          replace g1 := g1.2 _ rfl
          rw [if_pos (want_none rfl)]
          obtain ⟨Af, rfl, hNf⟩ := g1
          unfold Oper.wp
          go_simp
          exact hK _ _ ⟨fun _ h => no_some h, fun _ h => spec_ok h ⟨Af, rfl, hNf⟩⟩ hS (eby rfl (Below.refl _ _))
        · intro a u hS hr K hK
          obtain ⟨⟨vl0, e0, g0⟩, -⟩ := hr
          replace g0 := g0.2 _ rfl
          rw [if_pos (want_none rfl)]
          obtain ⟨Af, rfl, hNf⟩ := g0
          unfold Oper.wp
          go_simp
          exact hK _ _ ⟨fun _ h => no_some h, fun _ h => spec_ok h (FdW.make hNf)⟩ (hS.below ((Below.refl _ _).alloc (Nat.le_refl _) _)) (eby rfl ((Below.refl _ _).alloc (Nat.le_refl _) _))
      intro a u hS hts hd hkn hf
      obtain ⟨v35, e35, g35⟩ := hf 0 _ 35 (by decide) rfl rfl (fun _ => rfl)
      obtain ⟨v36, e36, g36⟩ := hf 1 _ 36 (by decide) rfl rfl (fun _ => rfl)
      obtain ⟨v37, e37, g37⟩ := hf 2 _ 37 (by decide) rfl rfl (fun _ => rfl)
      obtain ⟨v38, e38, g38⟩ := hf 3 _ 38 (by decide) rfl rfl (fun _ => rfl)
      obtain ⟨v39, e39, g39⟩ := hf 4 _ 39 (by decide) rfl rfl (fun _ => rfl)
      obtain ⟨v40, e40, g40⟩ := hf 5 _ 40 (by decide) rfl rfl (fun _ => rfl)
      obtain ⟨v41, e41, g41⟩ := hf 6 _ 41 (by decide) rfl rfl (fun _ => rfl)
      obtain ⟨v42, e42, g42⟩ := hf 7 _ 42 (by decide) rfl rfl (fun _ => rfl)
      obtain ⟨v43, e43, g43⟩ := hf 8 _ 43 (by decide) rfl rfl (fun _ => rfl)
      obtain ⟨v44, e44, g44⟩ := hf 9 _ 44 (by decide) rfl rfl (fun _ => rfl)
      obtain ⟨v45, e45, g45⟩ := hf 10 _ 45 (by decide) rfl rfl (fun _ => rfl)
      obtain ⟨v46, e46, g46⟩ := hf 11 _ 46 (by decide) rfl rfl (fun _ => rfl)
      obtain ⟨v47, e47, g47⟩ := hf 12 _ 47 (by decide) rfl rfl (fun _ => rfl)
      obtain ⟨v48, e48, g48⟩ := hf 13 _ 48 (by decide) rfl rfl (fun _ => rfl)
      have hA := act_putsH [(35, v35), (36, v36), (37, v37), (38, v38), (39, v39), (40, v40), (41, v41), (42, v42), (43, v43), (44, v44), (45, v45), (46, v46), (47, v47), (48, v48)] hts hd hkn (by kernel_rfl) (by simp [e35, e36, e37, e38, e39, e40, e41, e42, e43, e44, e45, e46, e47, e48])
      clear hf hts hd hkn e35 e36 e37 e38 e39 e40 e41 e42 e43 e44 e45 e46 e47 e48
      obtain rfl := g35.1 _ rfl
      clear g35
      obtain rfl := g36.1 _ rfl
      clear g36
      obtain rfl := g37.1 _ rfl
      clear g37
      obtain rfl := g38.1 _ rfl
      clear g38
      obtain rfl := g39.1 _ rfl
      clear g39
      obtain rfl := g40.1 _ rfl
      clear g40
      obtain rfl := g41.1 _ rfl
      clear g41
      obtain rfl := g42.1 _ rfl
      clear g42
      obtain rfl := g43.1 _ rfl
      clear g43
      obtain rfl := g44.1 _ rfl
      clear g44
      obtain rfl := g45.1 _ rfl
      clear g45
      replace g46 := g46.2 _ rfl
      replace g47 := g47.2 _ rfl
      replace g48 := g48.2 _ rfl
      subst hA
      simp only [List.foldl, List.setIfInBounds_toArray, List.set_cons_zero, List.set_cons_succ]
      simp only [List.drop_succ_cons, List.drop_zero]
      obtain ⟨q8, A8, rfl, R8, N8⟩ := g48
      have hownz := HZO.out hS.bel
      have hnews := World.news_of_block R8
      have hbase : w2.heap.size ≤ u.heap.size := Nat.le_trans HN6.out hS.bel.size
      have HSB := hidd hS.bel
      have HN8 := hidd N8
      clear g46 g47 hS S6 N8
      go_wp2_with (at_builtin; refine wpList_append_lies _ rfl _ _ _ rfl w2.heap.size 35 i0 (.agg zeroDC) 2 40 Try.underlying23 hi0 hz0 hz1 hz2 rfl (by omega) _ i (dfsC lz) rfl hownz ⟨q8, 0, none⟩ 1 1 [.string d.1, .slice A8 (gF d.2).length (gF d.2).length] rfl rfl hnews (by simp [Value.oneCell']) (by omega) (by simp only [maxLen]; omega) (by omega) hbase u.heap.size rfl ?_; intro g9 cap9 w9 hown9 hgrow9 hat9 hlt9; refine Hid.out ?_)
      have HFIN := hidd (HZ.out (v' := .slice (some ⟨g9, 0, none⟩) (i + 1) cap9) HSB.out HN8.out (by rw [hlz]; exact hgrow9) (by rw [hlz]; exact hown9) (by
        rw [hlz]
        rcases hat9 with q | q
        · exact .inl q.symm
        · exact .inr (by rw [q]; rfl)))
      clear hownz hnews hbase hown9 hgrow9 hat9 hlt9 R8 HZ HZO HSB HN8
      refine Lib.hid ?_
      go_wp2
      obtain ⟨ly', lz', hfin⟩ := HFIN.out
      exact ⟨⟨i + 1, ly', lz', by omega, rfl, hfin⟩, by simp [intOf]; omega⟩
    · have hie : i = m := by omega
      subst hie
      have L2 := L
      rw [← HM.out] at L2
      obtain ⟨Ay, cy, h7, hyd⟩ := or_yend L2
      obtain ⟨Az, cz, h8, hzd⟩ := or_zend L2
      rw [HM.out] at h7 h8
      subst h7 h8
      have HD := hidd D
      have BD := HB2.out.trans (D.mono HB2.out.size)
      have HBD := hidd BD
      have HYD := hidd hyd
      have HZD := hidd hzd
      have hxd := (HD2.out.below D).more D.size
      have hf := HF.out wr
      have hx := HX.out A c Ax cx wr ((HN4.out.below BD).more BD.size) HC4.out hxd
      clear L L2 D BD hyd hzd hxd HD HD2
      go_wp2_with fail
      refine hf.mono ?_
      rintro e w3 ⟨rfl, rfl⟩
      clear hf
      go_wp2_with fail
      refine hx.mono ?_
      rintro e w4 ⟨b4, h4⟩
      have B4 := HBD.out.trans (b4.mono HBD.out.size)
      have hf := HF.out w4
      have hy := HY.out A c Ay cy w4 ((HN4.out.below B4).more B4.size) HC4.out ((HYD.out.below b4).more b4.size)
      have HB4 := hidd b4
      have HBB4 := hidd B4
      clear hx b4 B4 HYD HX HY
      rcases R with er | o
      · have hne : (((er : Nat) : Int) != 0) = true := by have := HE.out er rfl; simp; omega
        have hee : (((er : Nat) : Int) != (er : Int)) = false := by simp
        have h4 : e = .returned (.tuple #[.slice none 0 0, .int .i64 (er : Int)]) := h4
        subst h4
        clear HO HE
        go_wp2_with fail
        refine hf.mono ?_
        rintro e w5 ⟨rfl, rfl⟩
        clear hf
        go_wp2_with fail
        refine hy.mono ?_
        rintro e w6 ⟨b6, h6⟩
        have h6 : e = .returned (.tuple #[.slice none 0 0, .int .i64 (er : Int)]) := h6
        subst h6
        have hsa : Calls Try.prog 11 #[.slice none 0 0, .slice none 0 0] w6 fun e w' => e = .returned (.bool true) ∧ Below w6.heap.size w6 w' := same_any none none 0 0 [] [] w6 (nds_none _ _ _) (nds_none _ _ _) (leq_refl _) (by simp) (fun g hg => absurd hg List.not_mem_nil)
        have HB6 := hidd (HBB4.out.trans (b6.mono HBB4.out.size))
        clear hy b6
        go_wp2_with fail
        refine hsa.mono ?_
        rintro e w7 ⟨rfl, b7⟩
        have HB7 := hidd (HB6.out.trans (b7.mono HB6.out.size))
        clear hsa b7
        go_wp2
        go_ret
        exact ⟨rfl, HB7.out⟩
      · obtain ⟨A5, c5, go, rfl, N5, G5, k5⟩ : ∃ A5 c5 go, e = .returned (.tuple #[.slice A5 go.length c5, .int .i64 0]) ∧ Nds w4 w4.heap.size A5 go ∧ GN go o ∧ go.length ≤ c5 := h4
        obtain ⟨T5, ns, gg, tt, hz⟩ := HO.out o rfl
        have HH : Hid (GN go o ∧ TreeN o ∧ GN g4 ns ∧ TreeN ns) := ⟨G5, T5, gg, tt⟩
        have HZ := hidd hz
        have HN5 := hidd N5
        clear HO HE N5 G5 k5 T5 gg tt hz
        go_wp2_with fail
        refine hf.mono ?_
        rintro e w5 ⟨rfl, rfl⟩
        clear hf
        go_wp2_with fail
        refine hy.mono ?_
        rintro e w6 ⟨b6, h6⟩
        obtain ⟨A6, c6, gy, rfl, N6, G6, k6⟩ : ∃ A6 c6 gy, e = .returned (.tuple #[.slice A6 gy.length c6, .int .i64 0]) ∧ Nds w6 w6.heap.size A6 gy ∧ GN gy o ∧ gy.length ≤ c6 := h6
        have N56 := (HN5.out.below b6).more b6.size
        have hsa := same_tree (c := c5) (c' := c6) N56 N6 HH.out.1 G6 HH.out.2.1
        have HN56 := hidd N56
        have HBB6 := hidd (HBB4.out.trans (b6.mono HBB4.out.size))
        have HB6 := hidd (HB4.out.trans (b6.mono HB4.out.size))
        clear hy b6 N6 G6 k6 N56 HB4 HBB4 HN5
        go_wp2_with fail
        refine hsa.mono ?_
        rintro e w7 ⟨rfl, b7⟩
        have HBB7 := hidd (HBB6.out.trans (b7.mono HBB6.out.size))
        have HB7 := hidd (HB6.out.trans (b7.mono HB6.out.size))
        have HN7 := hidd ((HN56.out.below b7).more b7.size)
        have hf := HF.out w7
        have hfo := fold_ok A c g4 ns w7 ((HN4.out.below HBB7.out).more HBB7.out.size) HH.out.2.2.1 HH.out.2.2.2
        clear hsa b7 HBB6 HB6 HN56
        go_wp2_with fail
        refine hf.mono ?_
        rintro e w8 ⟨rfl, rfl⟩
        clear hf
        go_wp2_with fail
        refine hfo.mono ?_
        rintro e w9 ⟨b9, A9, rfl, N9⟩
        have bz := HB7.out.trans (b9.mono HB7.out.size)
        have hz := HZ.out A9 Az cz w9 N9 ((HZD.out.below bz).more bz.size)
        have HBB9 := hidd (HBB7.out.trans (b9.mono HBB7.out.size))
        have HN9 := hidd ((HN7.out.below b9).more b9.size)
        clear hfo b9 N9 bz HBB7 HB7 HN7 HZ HZD
        go_wp2_with fail
        refine hz.mono ?_
        rintro e w10 ⟨b10, A10, c10, gz, rfl, N10, G10, k10⟩
        have HBB10 := hidd (HBB9.out.trans (b10.mono HBB9.out.size))
        have hfa := fold_ok A5 c5 go o w10 ((HN9.out.below b10).more b10.size) HH.out.1 HH.out.2.1
        have HN10 := hidd N10
        have HG10 := hidd G10
        clear hz b10 N10 G10 k10 HBB9 HN9
        go_wp2_with fail
        refine hfa.mono ?_
        rintro e w11 ⟨b11, A11, rfl, N11⟩
        have hsb := same_tree (c := go.length) (c' := c10) N11 ((HN10.out.below b11).more b11.size) (gn_fold HH.out.1 HH.out.2.1.shp) HG10.out HH.out.2.1.fold
        rw [List.length_map] at hsb
        have HBB11 := hidd (HBB10.out.trans (b11.mono HBB10.out.size))
        clear hfa b11 N11 HBB10 HN10 HG10
        go_wp2_with fail
        refine hsb.mono ?_
        rintro e w12 ⟨rfl, b12⟩
        have HBE := hidd (HBB11.out.trans (b12.mono HBB11.out.size))
        clear hsb b12
        go_wp2
        go_ret
        exact ⟨rfl, HBE.out⟩
end Go.Proofs.Ytgppanbikfobbaa.Sy.Ap.Od

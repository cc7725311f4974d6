/- NormPlain: what Expand tells is plain, and stays. -/
import Derived.Test.YtgppanbikfobbaaAt
namespace Go.Proofs.Ytgppanbikfobbaa.Sy.Ap
open Go.RowKit
set_option maxRecDepth 100000
set_option linter.unusedVariables false

theorem dfs_nil (w : World) (B : Nat) (A : Option Addr) : Dfs w B A [] := fun h => absurd rfl h
theorem dok_nil : DOk [] := ⟨Nat.zero_le _, fun d hd => absurd hd List.not_mem_nil, fun d hd => absurd hd List.not_mem_nil, fun d hd => absurd hd List.not_mem_nil⟩
theorem rds_nil : RightDs [] := ⟨fun d hd => absurd hd List.not_mem_nil, List.Pairwise.nil⟩
/-- What Expand tells of anything. -/
def XpA (w : World) (gs : List Gd) (ds : List DG) (e : Ending) (w' : World) : Prop :=
  Below w.heap.size w w' ∧ ((∃ er : Nat, 1 ≤ er ∧ e = .returned (.tuple #[.slice none 0 0, .int .i64 (er : Int)])) ∨
    ∃ A c go o, e = .returned (.tuple #[.slice A go.length c, .int .i64 0]) ∧ Nds w' w'.heap.size A go ∧ GN go o ∧ go.length ≤ c ∧ TreeN o ∧ PlainN o ∧ RightDs ds ∧ (PlainG gs → GN gs o))
theorem xpand_any (A : Option Addr) (c : Nat) (gs : List Gd) (A2 : Option Addr) (c2 : Nat) (ds : List DG) (w : World) (hN : Nds w w.heap.size A gs) (hl : gs.length ≤ 2000) (hc : gs.length ≤ c) (hsm : Small gs) (hx : Dfs w w.heap.size A2 ds) (hok : DOk ds) :
    Calls Try.prog 6 #[.slice A gs.length c, .slice A2 ds.length c2] w fun e w' => XpA w gs ds e w' := by
  by_cases hr : RightG gs ∧ RightDs ds
  · obtain ⟨ns, hg, ht⟩ := gn_tree hr.1
    obtain ⟨D, hD⟩ := gd_of hr.2
    refine (xpand_ok A c gs ns A2 c2 ds D w hN hc hsm hx hok hg ht hr.2 hD).mono ?_
    rintro e w' ⟨hb, h⟩
    refine ⟨hb, ?_⟩
    cases he : expN ns D with
    | error er =>
      rw [he] at h
      refine .inl ⟨er, ?_, h⟩
      unfold expN at he
      cases h2 : exF (allD D) D ns x0 with
      | error q => rw [h2] at he; cases he; exact exF_err h2
      | ok q => rw [h2] at he; cases he
    | ok o =>
      rw [he] at h
      obtain ⟨A', c', go, h1, h2, h3, h4⟩ := h
      have h5 := expN_tree hD.trs ht he
      refine .inr ⟨A', c', go, o, h1, h2, h3, h4, h5.1, h5.2, hr.2, fun hp => ?_⟩
      have := expN_stays (D := D) ht ((plain_tree hg ht).1 hp)
      rw [he] at this
      cases this
      exact hg
  · refine (xpand_bad A c gs A2 c2 ds w hN hl hsm hx hok hr).mono ?_
    rintro e w' ⟨hb, h⟩
    exact ⟨hb, .inl ⟨1, Nat.le_refl _, h⟩⟩
theorem xpand_stay (A : Option Addr) (c : Nat) (gs : List Gd) (ns : List Nd) (A2 : Option Addr) (c2 : Nat) (ds : List DG) (w : World) (hN : Nds w w.heap.size A gs) (hc : gs.length ≤ c) (hg : GN gs ns) (ht : TreeN ns) (hp : PlainN ns) (hx : Dfs w w.heap.size A2 ds) (hok : DOk ds) (hr : RightDs ds) :
    Calls Try.prog 6 #[.slice A gs.length c, .slice A2 ds.length c2] w fun e w' => Below w.heap.size w w' ∧ ∃ A' c' go, e = .returned (.tuple #[.slice A' go.length c', .int .i64 0]) ∧ Nds w' w'.heap.size A' go ∧ GN go ns := by
  obtain ⟨D, hD⟩ := gd_of hr
  refine (xpand_ok A c gs ns A2 c2 ds D w hN hc (gn_sm hg ht) hx hok hg ht hr hD).mono ?_
  rintro e w' ⟨hb, h⟩
  rw [expN_stays ht hp] at h
  obtain ⟨A', c', go, h1, h2, h3, h4⟩ := h
  exact ⟨hb, A', c', go, h1, h2, h3⟩
theorem same_tree {A A' : Option Addr} {c c' : Nat} {gs gs' : List Gd} {ns : List Nd} {w : World} (hN : Nds w w.heap.size A gs) (hN' : Nds w w.heap.size A' gs') (hg : GN gs ns) (hg' : GN gs' ns) (ht : TreeN ns) :
    Calls Try.prog 11 #[.slice A gs.length c, .slice A' gs'.length c'] w fun e w' => e = .returned (.bool true) ∧ Below w.heap.size w w' :=
  same_any A A' c c' gs gs' w hN hN' (hg.leq hg') (by have := gn_few hg ht; omega) (fun g h => by have := gn_kids hg ht g h; omega)
end Go.Proofs.Ytgppanbikfobbaa.Sy.Ap

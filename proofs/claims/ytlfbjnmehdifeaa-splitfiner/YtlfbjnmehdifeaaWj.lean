/- The law's own small functions: spans, few. -/
import Derived.Test.YtlfbjnmehdifeaaWi
import Derived.Test.YtlfbjnmehdifeaaEq
namespace Go.Proofs.Ytlfbjnmehdifeaa
open Go.RowKit

/-- The slice at A reads as the pairs l, and lies in blocks below B. -/
def Prs (w : World) (B : Nat) (A : Option Addr) (l : List (Int × Int)) : Prop :=
  l ≠ [] → ∃ g off, A = some ⟨g, off, none⟩ ∧ g < B ∧ ∀ i, i < l.length → w.cell? ⟨g, off + i * 2, none⟩ = some (.int .u8 (l.getD i (0, 0)).1) ∧ w.cell? ⟨g, off + i * 2 + 1, none⟩ = some (.int .u8 (l.getD i (0, 0)).2)
theorem Prs.below {w w' : World} {B : Nat} {A : Option Addr} {l : List (Int × Int)} (h : Prs w B A l) (hb : Below B w w') : Prs w' B A l := fun hx => by
  obtain ⟨g, off, e, hg, ha⟩ := h hx
  exact ⟨g, off, e, hg, fun i hi => ⟨(hb.cell (p := ⟨g, _, none⟩) hg).trans (ha i hi).1, (hb.cell (p := ⟨g, _, none⟩) hg).trans (ha i hi).2⟩⟩
theorem Prs.more {w : World} {B B' : Nat} {A : Option Addr} {l : List (Int × Int)} (h : Prs w B A l) (hb : B ≤ B') : Prs w B' A l := fun hx => by
  obtain ⟨g, off, e, hg, ha⟩ := h hx
  exact ⟨g, off, e, by omega, ha⟩
theorem Prs.at_ {w : World} {B : Nat} {A : Option Addr} {l : List (Int × Int)} (h : Prs w B A l) {k : Nat} (hk : k < l.length) :
    ∃ g off, A = some ⟨g, off, none⟩ ∧ g < B ∧ w.cell? ⟨g, off + k * 2, none⟩ = some (.int .u8 (l.getD k (0, 0)).1) ∧ w.cell? ⟨g, off + k * 2 + 1, none⟩ = some (.int .u8 (l.getD k (0, 0)).2) := by
  obtain ⟨g, off, e, hg, ha⟩ := h (fun e => by subst e; simp at hk)
  exact ⟨g, off, e, hg, (ha k hk).1, (ha k hk).2⟩



end Go.Proofs.Ytlfbjnmehdifeaa

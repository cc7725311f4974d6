/-
  No cell of these rows narrows 'for every input' (looked for: loops, veiled, ifaces, maps, wideKeys, modest, calm, conditions, laid).
  DERIVED. THE GIVEN ROWS OF THIS SEAT. 7 by the template 'for every input the law returns true; each argument reads behind the call as it read before'; 0 by the template 'total and deterministic' (their statements: YtbheccbbkolieaaTotals.lean).
  GIVEN WITH THE SEED: the statements are not yours to turn. If you find one false, say at which input.
  Laid BY PROGRAM, IN A SANDBOX (cutbox-rows.mjs): the forced cells as the released guide's own fill.sh prints them over the translation e330ad36615edb04… (all of the seat's roots in one cut). By AI agents, Wed Nov 11 2026. No macro, syntax, notation, axiom, sorry.
-/
import Derived.Test.YtbheccbbkolieaaChecked
import GoSem.Claim
import GoSem.ClaimJoined
import GoSem.ClaimMapViews
import Derived.JoinedTies
import Derived.KernelRfl
namespace Go.Proofs.Ytbheccbbkolieaa
/- THE CELL 'sum', in the pinned program and in every row, IS THE sha256 OF THE DUMP (.gsa) THAT YtbheccbbkolieaaProg.lean LOADS. Nothing in Lean hashes anything: it is a label: what it is worth is what the hold of that sum in a sandbox is worth. -/
noncomputable def Try.pinned : Pinned := { name := "ytbheccbbkolieaa", sum := "e330ad36615edb0493fc4dbd4e0c803da282ac144b98300b29301427e017dfc3", checked := Try.checked }
namespace Rows
def none {H : Type} : Left H := { results := [], args := [] }

/-- 'raddlelaw01.BsetTells': WHATEVER THE INPUT: true; the input reads as it did. -/
def bsetTellsSpec : ChangeSpec := { name := "bsetTells", fn := fun _ => fun
  | [d1, d2, d3, d4] => { results := [.lit (.bool true)], args := [d1, d2, d3, d4] }
  | _ => none }
def bsetTellsRow : OpenClaim := { program := "ytbheccbbkolieaa", sum := "e330ad36615edb0493fc4dbd4e0c803da282ac144b98300b29301427e017dfc3", func := "raddle/raddlelaw01.BsetTells", spec := "bsetTells", apart := false }
def BsetTellsSaid : Prop := bsetTellsRow.holds Try.pinned (OpenSpec.ofChange bsetTellsSpec)

/-- ITS FALSE NEIGHBOUR: 'it returns false'. Refute it at one input. -/
def bsetTellsWrong : ChangeSpec := { name := "bsetTells", fn := fun _ => fun
  | [d1, d2, d3, d4] => { results := [.lit (.bool false)], args := [d1, d2, d3, d4] }
  | _ => none }
def BsetTellsWrongFalsely : Prop := bsetTellsRow.holds Try.pinned (OpenSpec.ofChange bsetTellsWrong)

/-- 'raddlelaw01.BsetLists': WHATEVER THE INPUT: true; the input reads as it did. -/
def bsetListsSpec : ChangeSpec := { name := "bsetLists", fn := fun _ => fun
  | [d] => { results := [.lit (.bool true)], args := [d] }
  | _ => none }
def bsetListsRow : OpenClaim := { program := "ytbheccbbkolieaa", sum := "e330ad36615edb0493fc4dbd4e0c803da282ac144b98300b29301427e017dfc3", func := "raddle/raddlelaw01.BsetLists", spec := "bsetLists", apart := false }
def BsetListsSaid : Prop := bsetListsRow.holds Try.pinned (OpenSpec.ofChange bsetListsSpec)

/-- ITS FALSE NEIGHBOUR: 'it returns false'. Refute it at one input. -/
def bsetListsWrong : ChangeSpec := { name := "bsetLists", fn := fun _ => fun
  | [d] => { results := [.lit (.bool false)], args := [d] }
  | _ => none }
def BsetListsWrongFalsely : Prop := bsetListsRow.holds Try.pinned (OpenSpec.ofChange bsetListsWrong)

/-- 'raddlelaw01.BsetBack': WHATEVER THE INPUT: true; the input reads as it did. -/
def bsetBackSpec : ChangeSpec := { name := "bsetBack", fn := fun _ => fun
  | [d] => { results := [.lit (.bool true)], args := [d] }
  | _ => none }
def bsetBackRow : OpenClaim := { program := "ytbheccbbkolieaa", sum := "e330ad36615edb0493fc4dbd4e0c803da282ac144b98300b29301427e017dfc3", func := "raddle/raddlelaw01.BsetBack", spec := "bsetBack", apart := false }
def BsetBackSaid : Prop := bsetBackRow.holds Try.pinned (OpenSpec.ofChange bsetBackSpec)

/-- ITS FALSE NEIGHBOUR: 'it returns false'. Refute it at one input. -/
def bsetBackWrong : ChangeSpec := { name := "bsetBack", fn := fun _ => fun
  | [d] => { results := [.lit (.bool false)], args := [d] }
  | _ => none }
def BsetBackWrongFalsely : Prop := bsetBackRow.holds Try.pinned (OpenSpec.ofChange bsetBackWrong)

/-- 'raddlelaw01.BsetLaws': WHATEVER THE INPUT: true; the input reads as it did. -/
def bsetLawsSpec : ChangeSpec := { name := "bsetLaws", fn := fun _ => fun
  | [d1, d2, d3, d4] => { results := [.lit (.bool true)], args := [d1, d2, d3, d4] }
  | _ => none }
def bsetLawsRow : OpenClaim := { program := "ytbheccbbkolieaa", sum := "e330ad36615edb0493fc4dbd4e0c803da282ac144b98300b29301427e017dfc3", func := "raddle/raddlelaw01.BsetLaws", spec := "bsetLaws", apart := false }
def BsetLawsSaid : Prop := bsetLawsRow.holds Try.pinned (OpenSpec.ofChange bsetLawsSpec)

/-- ITS FALSE NEIGHBOUR: 'it returns false'. Refute it at one input. -/
def bsetLawsWrong : ChangeSpec := { name := "bsetLaws", fn := fun _ => fun
  | [d1, d2, d3, d4] => { results := [.lit (.bool false)], args := [d1, d2, d3, d4] }
  | _ => none }
def BsetLawsWrongFalsely : Prop := bsetLawsRow.holds Try.pinned (OpenSpec.ofChange bsetLawsWrong)

/-- 'raddlelaw01.BsetFolds': WHATEVER THE INPUT: true; the input reads as it did. -/
def bsetFoldsSpec : ChangeSpec := { name := "bsetFolds", fn := fun _ => fun
  | [d1, d2] => { results := [.lit (.bool true)], args := [d1, d2] }
  | _ => none }
def bsetFoldsRow : OpenClaim := { program := "ytbheccbbkolieaa", sum := "e330ad36615edb0493fc4dbd4e0c803da282ac144b98300b29301427e017dfc3", func := "raddle/raddlelaw01.BsetFolds", spec := "bsetFolds", apart := false }
def BsetFoldsSaid : Prop := bsetFoldsRow.holds Try.pinned (OpenSpec.ofChange bsetFoldsSpec)

/-- ITS FALSE NEIGHBOUR: 'it returns false'. Refute it at one input. -/
def bsetFoldsWrong : ChangeSpec := { name := "bsetFolds", fn := fun _ => fun
  | [d1, d2] => { results := [.lit (.bool false)], args := [d1, d2] }
  | _ => none }
def BsetFoldsWrongFalsely : Prop := bsetFoldsRow.holds Try.pinned (OpenSpec.ofChange bsetFoldsWrong)

/-- 'raddlelaw01.BsetSizes': WHATEVER THE INPUT: true; the input reads as it did. -/
def bsetSizesSpec : ChangeSpec := { name := "bsetSizes", fn := fun _ => fun
  | [d1, d2, d3, d4] => { results := [.lit (.bool true)], args := [d1, d2, d3, d4] }
  | _ => none }
def bsetSizesRow : OpenClaim := { program := "ytbheccbbkolieaa", sum := "e330ad36615edb0493fc4dbd4e0c803da282ac144b98300b29301427e017dfc3", func := "raddle/raddlelaw01.BsetSizes", spec := "bsetSizes", unfollowed := true, recurses := true, apart := false }
def BsetSizesSaid : Prop := bsetSizesRow.holds Try.pinned (OpenSpec.ofChange bsetSizesSpec)

/-- ITS FALSE NEIGHBOUR: 'it returns false'. Refute it at one input. -/
def bsetSizesWrong : ChangeSpec := { name := "bsetSizes", fn := fun _ => fun
  | [d1, d2, d3, d4] => { results := [.lit (.bool false)], args := [d1, d2, d3, d4] }
  | _ => none }
def BsetSizesWrongFalsely : Prop := bsetSizesRow.holds Try.pinned (OpenSpec.ofChange bsetSizesWrong)

/-- 'raddlelaw01.BsetBytes': WHATEVER THE INPUT: true; the input reads as it did. -/
def bsetBytesSpec : ChangeSpec := { name := "bsetBytes", fn := fun _ => fun
  | [d1, d2] => { results := [.lit (.bool true)], args := [d1, d2] }
  | _ => none }
def bsetBytesRow : OpenClaim := { program := "ytbheccbbkolieaa", sum := "e330ad36615edb0493fc4dbd4e0c803da282ac144b98300b29301427e017dfc3", func := "raddle/raddlelaw01.BsetBytes", spec := "bsetBytes", apart := false }
def BsetBytesSaid : Prop := bsetBytesRow.holds Try.pinned (OpenSpec.ofChange bsetBytesSpec)

/-- ITS FALSE NEIGHBOUR: 'it returns false'. Refute it at one input. -/
def bsetBytesWrong : ChangeSpec := { name := "bsetBytes", fn := fun _ => fun
  | [d1, d2] => { results := [.lit (.bool false)], args := [d1, d2] }
  | _ => none }
def BsetBytesWrongFalsely : Prop := bsetBytesRow.holds Try.pinned (OpenSpec.ofChange bsetBytesWrong)

/- THE SECOND FORM. 'bulk': how many values and letters a reading holds, each counted each time it is reached (what is shared counts as often as it is met; a slice's spare places count too). A statement '..UptoSaid' is the law's where the arguments, and the package variables that the reading takes, are together of bulk at most 1048576: NARROWER than '..Said'. Prove '..Said' where nothing that the law and all that it calls make is longer than what came in: it says more and counts as full. Else prove '..UptoSaid'. A law counts once. -/
mutual
def uptoBulk {H : Type} : DataW H → Nat
  | .lit (.string bytes) => bytes.length + 1
  | .lit _ => 1
  | .nil => 1
  | .ptr d => uptoBulk d + 1
  | .slice elems spare => uptoBulkAll elems + uptoBulkAll spare + 1
  | .agg parts => uptoBulkAll parts + 1
  | .iface _ d => uptoBulk d + 1
  | .map entries => uptoBulkEntries entries + 1
  | .held _ => 1
def uptoBulkAll {H : Type} : List (DataW H) → Nat
  | [] => 0
  | d :: r => uptoBulk d + uptoBulkAll r
def uptoBulkEntries {H : Type} : List (Lit × DataW H) → Nat
  | [] => 0
  | x :: r => uptoBulkEntry x + uptoBulkEntries r
def uptoBulkEntry {H : Type} : Lit × DataW H → Nat
  | (.string bytes, d) => bytes.length + uptoBulk d + 1
  | (_, d) => uptoBulk d + 1
 end
def uptoSmall : (H : Type) → List (DataW H) → Bool := fun _ ds => decide (uptoBulkAll ds ≤ 1048576)
def OpenSpec.upto (s : _root_.Go.ChangeSpec) : _root_.Go.OpenSpec := { _root_.Go.OpenSpec.ofChange s with cond := some uptoSmall }

/-- 'raddlelaw01.BsetTells', WHERE WHAT IT READS IS OF BULK AT MOST 1048576: true; the input reads as it did. -/
def bsetTellsUptoRow : OpenClaim := { program := "ytbheccbbkolieaa", sum := "e330ad36615edb0493fc4dbd4e0c803da282ac144b98300b29301427e017dfc3", func := "raddle/raddlelaw01.BsetTells", spec := "bsetTells", apart := false, narrowed := true }
def BsetTellsUptoSaid : Prop := bsetTellsUptoRow.holds Try.pinned (OpenSpec.upto bsetTellsSpec)

/-- 'raddlelaw01.BsetLists', WHERE WHAT IT READS IS OF BULK AT MOST 1048576: true; the input reads as it did. -/
def bsetListsUptoRow : OpenClaim := { program := "ytbheccbbkolieaa", sum := "e330ad36615edb0493fc4dbd4e0c803da282ac144b98300b29301427e017dfc3", func := "raddle/raddlelaw01.BsetLists", spec := "bsetLists", apart := false, narrowed := true }
def BsetListsUptoSaid : Prop := bsetListsUptoRow.holds Try.pinned (OpenSpec.upto bsetListsSpec)

/-- 'raddlelaw01.BsetBack', WHERE WHAT IT READS IS OF BULK AT MOST 1048576: true; the input reads as it did. -/
def bsetBackUptoRow : OpenClaim := { program := "ytbheccbbkolieaa", sum := "e330ad36615edb0493fc4dbd4e0c803da282ac144b98300b29301427e017dfc3", func := "raddle/raddlelaw01.BsetBack", spec := "bsetBack", apart := false, narrowed := true }
def BsetBackUptoSaid : Prop := bsetBackUptoRow.holds Try.pinned (OpenSpec.upto bsetBackSpec)

/-- 'raddlelaw01.BsetLaws', WHERE WHAT IT READS IS OF BULK AT MOST 1048576: true; the input reads as it did. -/
def bsetLawsUptoRow : OpenClaim := { program := "ytbheccbbkolieaa", sum := "e330ad36615edb0493fc4dbd4e0c803da282ac144b98300b29301427e017dfc3", func := "raddle/raddlelaw01.BsetLaws", spec := "bsetLaws", apart := false, narrowed := true }
def BsetLawsUptoSaid : Prop := bsetLawsUptoRow.holds Try.pinned (OpenSpec.upto bsetLawsSpec)

/-- 'raddlelaw01.BsetFolds', WHERE WHAT IT READS IS OF BULK AT MOST 1048576: true; the input reads as it did. -/
def bsetFoldsUptoRow : OpenClaim := { program := "ytbheccbbkolieaa", sum := "e330ad36615edb0493fc4dbd4e0c803da282ac144b98300b29301427e017dfc3", func := "raddle/raddlelaw01.BsetFolds", spec := "bsetFolds", apart := false, narrowed := true }
def BsetFoldsUptoSaid : Prop := bsetFoldsUptoRow.holds Try.pinned (OpenSpec.upto bsetFoldsSpec)

/-- 'raddlelaw01.BsetSizes', WHERE WHAT IT READS IS OF BULK AT MOST 1048576: true; the input reads as it did. -/
def bsetSizesUptoRow : OpenClaim := { program := "ytbheccbbkolieaa", sum := "e330ad36615edb0493fc4dbd4e0c803da282ac144b98300b29301427e017dfc3", func := "raddle/raddlelaw01.BsetSizes", spec := "bsetSizes", unfollowed := true, recurses := true, apart := false, narrowed := true }
def BsetSizesUptoSaid : Prop := bsetSizesUptoRow.holds Try.pinned (OpenSpec.upto bsetSizesSpec)

/-- 'raddlelaw01.BsetBytes', WHERE WHAT IT READS IS OF BULK AT MOST 1048576: true; the input reads as it did. -/
def bsetBytesUptoRow : OpenClaim := { program := "ytbheccbbkolieaa", sum := "e330ad36615edb0493fc4dbd4e0c803da282ac144b98300b29301427e017dfc3", func := "raddle/raddlelaw01.BsetBytes", spec := "bsetBytes", apart := false, narrowed := true }
def BsetBytesUptoSaid : Prop := bsetBytesUptoRow.holds Try.pinned (OpenSpec.upto bsetBytesSpec)

end Rows
end Go.Proofs.Ytbheccbbkolieaa

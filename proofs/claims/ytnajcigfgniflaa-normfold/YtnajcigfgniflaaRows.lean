/-
  No cell of these rows narrows 'for every input' (looked for: loops, veiled, ifaces, maps, wideKeys, modest, calm, conditions, laid).
  DERIVED. THE GIVEN ROWS OF THIS SEAT. 7 by the template 'for every input the law returns true; each argument reads behind the call as it read before'; 0 by the template 'total and deterministic' (their statements: YtnajcigfgniflaaTotals.lean).
  GIVEN WITH THE SEED: the statements are not yours to turn. If you find one false, say at which input.
  Laid BY PROGRAM, IN A SANDBOX (cutbox-rows.mjs): the forced cells as the released guide's own fill.sh prints them over the translation 93081d498fb86451… (all of the seat's roots in one cut). By AI agents, Wed Nov 11 2026. No macro, syntax, notation, axiom, sorry.
-/
import Derived.Test.YtnajcigfgniflaaChecked
import GoSem.Claim
import GoSem.ClaimJoined
import GoSem.ClaimMapViews
import Derived.JoinedTies
import Derived.KernelRfl
namespace Go.Proofs.Ytnajcigfgniflaa
/- THE CELL 'sum', in the pinned program and in every row, IS THE sha256 OF THE DUMP (.gsa) THAT YtnajcigfgniflaaProg.lean LOADS. Nothing in Lean hashes anything: it is a label: what it is worth is what the hold of that sum in a sandbox is worth. -/
noncomputable def Try.pinned : Pinned := { name := "ytnajcigfgniflaa", sum := "93081d498fb86451c827bca6623dc57c88b118b55cdc152e325af23475b49bcf", checked := Try.checked }
namespace Rows
def none {H : Type} : Left H := { results := [], args := [] }

/-- 'raddlelaw06.NormTells': WHATEVER THE INPUT: true; the input reads as it did. -/
def normTellsSpec : ChangeSpec := { name := "normTells", fn := fun _ => fun
  | [d1, d2] => { results := [.lit (.bool true)], args := [d1, d2] }
  | _ => none }
def normTellsRow : OpenClaim := { program := "ytnajcigfgniflaa", sum := "93081d498fb86451c827bca6623dc57c88b118b55cdc152e325af23475b49bcf", func := "raddle/raddlelaw06.NormTells", spec := "normTells", unfollowed := true, recurses := true, apart := false }
def NormTellsSaid : Prop := normTellsRow.holds Try.pinned (OpenSpec.ofChange normTellsSpec)

/-- ITS FALSE NEIGHBOUR: 'it returns false'. Refute it at one input. -/
def normTellsWrong : ChangeSpec := { name := "normTells", fn := fun _ => fun
  | [d1, d2] => { results := [.lit (.bool false)], args := [d1, d2] }
  | _ => none }
def NormTellsWrongFalsely : Prop := normTellsRow.holds Try.pinned (OpenSpec.ofChange normTellsWrong)

/-- 'raddlelaw06.NormPlain': WHATEVER THE INPUT: true; the input reads as it did. -/
def normPlainSpec : ChangeSpec := { name := "normPlain", fn := fun _ => fun
  | [d1, d2] => { results := [.lit (.bool true)], args := [d1, d2] }
  | _ => none }
def normPlainRow : OpenClaim := { program := "ytnajcigfgniflaa", sum := "93081d498fb86451c827bca6623dc57c88b118b55cdc152e325af23475b49bcf", func := "raddle/raddlelaw06.NormPlain", spec := "normPlain", recurses := true, apart := false }
def NormPlainSaid : Prop := normPlainRow.holds Try.pinned (OpenSpec.ofChange normPlainSpec)

/-- ITS FALSE NEIGHBOUR: 'it returns false'. Refute it at one input. -/
def normPlainWrong : ChangeSpec := { name := "normPlain", fn := fun _ => fun
  | [d1, d2] => { results := [.lit (.bool false)], args := [d1, d2] }
  | _ => none }
def NormPlainWrongFalsely : Prop := normPlainRow.holds Try.pinned (OpenSpec.ofChange normPlainWrong)

/-- 'raddlelaw06.NormOrder': WHATEVER THE INPUT: true; the input reads as it did. -/
def normOrderSpec : ChangeSpec := { name := "normOrder", fn := fun _ => fun
  | [d1, d2] => { results := [.lit (.bool true)], args := [d1, d2] }
  | _ => none }
def normOrderRow : OpenClaim := { program := "ytnajcigfgniflaa", sum := "93081d498fb86451c827bca6623dc57c88b118b55cdc152e325af23475b49bcf", func := "raddle/raddlelaw06.NormOrder", spec := "normOrder", recurses := true, apart := false }
def NormOrderSaid : Prop := normOrderRow.holds Try.pinned (OpenSpec.ofChange normOrderSpec)

/-- ITS FALSE NEIGHBOUR: 'it returns false'. Refute it at one input. -/
def normOrderWrong : ChangeSpec := { name := "normOrder", fn := fun _ => fun
  | [d1, d2] => { results := [.lit (.bool false)], args := [d1, d2] }
  | _ => none }
def NormOrderWrongFalsely : Prop := normOrderRow.holds Try.pinned (OpenSpec.ofChange normOrderWrong)

/-- 'raddlelaw06.NormEmpty': WHATEVER THE INPUT: true; the input reads as it did. -/
def normEmptySpec : ChangeSpec := { name := "normEmpty", fn := fun _ => fun
  | [d1, d2] => { results := [.lit (.bool true)], args := [d1, d2] }
  | _ => none }
def normEmptyRow : OpenClaim := { program := "ytnajcigfgniflaa", sum := "93081d498fb86451c827bca6623dc57c88b118b55cdc152e325af23475b49bcf", func := "raddle/raddlelaw06.NormEmpty", spec := "normEmpty", unfollowed := true, recurses := true, apart := false }
def NormEmptySaid : Prop := normEmptyRow.holds Try.pinned (OpenSpec.ofChange normEmptySpec)

/-- ITS FALSE NEIGHBOUR: 'it returns false'. Refute it at one input. -/
def normEmptyWrong : ChangeSpec := { name := "normEmpty", fn := fun _ => fun
  | [d1, d2] => { results := [.lit (.bool false)], args := [d1, d2] }
  | _ => none }
def NormEmptyWrongFalsely : Prop := normEmptyRow.holds Try.pinned (OpenSpec.ofChange normEmptyWrong)

/-- 'raddlelaw06.NormName': WHATEVER THE INPUT: true; the input reads as it did. -/
def normNameSpec : ChangeSpec := { name := "normName", fn := fun _ => fun
  | [d] => { results := [.lit (.bool true)], args := [d] }
  | _ => none }
def normNameRow : OpenClaim := { program := "ytnajcigfgniflaa", sum := "93081d498fb86451c827bca6623dc57c88b118b55cdc152e325af23475b49bcf", func := "raddle/raddlelaw06.NormName", spec := "normName", unfollowed := true, recurses := true, apart := false }
def NormNameSaid : Prop := normNameRow.holds Try.pinned (OpenSpec.ofChange normNameSpec)

/-- ITS FALSE NEIGHBOUR: 'it returns false'. Refute it at one input. -/
def normNameWrong : ChangeSpec := { name := "normName", fn := fun _ => fun
  | [d] => { results := [.lit (.bool false)], args := [d] }
  | _ => none }
def NormNameWrongFalsely : Prop := normNameRow.holds Try.pinned (OpenSpec.ofChange normNameWrong)

/-- 'raddlelaw06.NormLong': WHATEVER THE INPUT: true; the input reads as it did. -/
def normLongSpec : ChangeSpec := { name := "normLong", fn := fun _ => fun
  | [d1, d2] => { results := [.lit (.bool true)], args := [d1, d2] }
  | _ => none }
def normLongRow : OpenClaim := { program := "ytnajcigfgniflaa", sum := "93081d498fb86451c827bca6623dc57c88b118b55cdc152e325af23475b49bcf", func := "raddle/raddlelaw06.NormLong", spec := "normLong", recurses := true, apart := false }
def NormLongSaid : Prop := normLongRow.holds Try.pinned (OpenSpec.ofChange normLongSpec)

/-- ITS FALSE NEIGHBOUR: 'it returns false'. Refute it at one input. -/
def normLongWrong : ChangeSpec := { name := "normLong", fn := fun _ => fun
  | [d1, d2] => { results := [.lit (.bool false)], args := [d1, d2] }
  | _ => none }
def NormLongWrongFalsely : Prop := normLongRow.holds Try.pinned (OpenSpec.ofChange normLongWrong)

/-- 'raddlelaw06.NormFold': WHATEVER THE INPUT: true; the input reads as it did. -/
def normFoldSpec : ChangeSpec := { name := "normFold", fn := fun _ => fun
  | [d] => { results := [.lit (.bool true)], args := [d] }
  | _ => none }
def normFoldRow : OpenClaim := { program := "ytnajcigfgniflaa", sum := "93081d498fb86451c827bca6623dc57c88b118b55cdc152e325af23475b49bcf", func := "raddle/raddlelaw06.NormFold", spec := "normFold", unfollowed := true, recurses := true, apart := false }
def NormFoldSaid : Prop := normFoldRow.holds Try.pinned (OpenSpec.ofChange normFoldSpec)

/-- ITS FALSE NEIGHBOUR: 'it returns false'. Refute it at one input. -/
def normFoldWrong : ChangeSpec := { name := "normFold", fn := fun _ => fun
  | [d] => { results := [.lit (.bool false)], args := [d] }
  | _ => none }
def NormFoldWrongFalsely : Prop := normFoldRow.holds Try.pinned (OpenSpec.ofChange normFoldWrong)

/- THE SECOND FORM. 'bulk': how many values and letters a reading holds, each counted each time it is reached (what is shared counts as often as it is met; a slice's spare places count too). A statement '..UptoSaid' is the law's where the arguments, and the package variables that the reading takes, are together of bulk at most 1048576: NARROWER than '..Said'. Prove '..Said' where nothing that the law and all that it calls make is longer than what came in: it says more and counts as full. Else prove '..UptoSaid'. A law counts once. -/
mutual
def uptoBulk {H : Type} : DataW H → Nat
  | .lit (.string bytes) => bytes.length + 1
  | .lit _ => 1
  | .nil => 1
  | .ptr d => uptoBulk d + 1
  | .slice elems spare => uptoBulkAll elems + uptoBulkAll spare + 1
  | .agg parts => uptoBulkAll parts + 1
  | .iface _ d => uptoBulk d + 1
  | .map entries => uptoBulkEntries entries + 1
  | .held _ => 1
def uptoBulkAll {H : Type} : List (DataW H) → Nat
  | [] => 0
  | d :: r => uptoBulk d + uptoBulkAll r
def uptoBulkEntries {H : Type} : List (Lit × DataW H) → Nat
  | [] => 0
  | x :: r => uptoBulkEntry x + uptoBulkEntries r
def uptoBulkEntry {H : Type} : Lit × DataW H → Nat
  | (.string bytes, d) => bytes.length + uptoBulk d + 1
  | (_, d) => uptoBulk d + 1
 end
def uptoSmall : (H : Type) → List (DataW H) → Bool := fun _ ds => decide (uptoBulkAll ds ≤ 1048576)
def OpenSpec.upto (s : _root_.Go.ChangeSpec) : _root_.Go.OpenSpec := { _root_.Go.OpenSpec.ofChange s with cond := some uptoSmall }

/-- 'raddlelaw06.NormTells', WHERE WHAT IT READS IS OF BULK AT MOST 1048576: true; the input reads as it did. -/
def normTellsUptoRow : OpenClaim := { program := "ytnajcigfgniflaa", sum := "93081d498fb86451c827bca6623dc57c88b118b55cdc152e325af23475b49bcf", func := "raddle/raddlelaw06.NormTells", spec := "normTells", unfollowed := true, recurses := true, apart := false, narrowed := true }
def NormTellsUptoSaid : Prop := normTellsUptoRow.holds Try.pinned (OpenSpec.upto normTellsSpec)

/-- 'raddlelaw06.NormPlain', WHERE WHAT IT READS IS OF BULK AT MOST 1048576: true; the input reads as it did. -/
def normPlainUptoRow : OpenClaim := { program := "ytnajcigfgniflaa", sum := "93081d498fb86451c827bca6623dc57c88b118b55cdc152e325af23475b49bcf", func := "raddle/raddlelaw06.NormPlain", spec := "normPlain", recurses := true, apart := false, narrowed := true }
def NormPlainUptoSaid : Prop := normPlainUptoRow.holds Try.pinned (OpenSpec.upto normPlainSpec)

/-- 'raddlelaw06.NormOrder', WHERE WHAT IT READS IS OF BULK AT MOST 1048576: true; the input reads as it did. -/
def normOrderUptoRow : OpenClaim := { program := "ytnajcigfgniflaa", sum := "93081d498fb86451c827bca6623dc57c88b118b55cdc152e325af23475b49bcf", func := "raddle/raddlelaw06.NormOrder", spec := "normOrder", recurses := true, apart := false, narrowed := true }
def NormOrderUptoSaid : Prop := normOrderUptoRow.holds Try.pinned (OpenSpec.upto normOrderSpec)

/-- 'raddlelaw06.NormEmpty', WHERE WHAT IT READS IS OF BULK AT MOST 1048576: true; the input reads as it did. -/
def normEmptyUptoRow : OpenClaim := { program := "ytnajcigfgniflaa", sum := "93081d498fb86451c827bca6623dc57c88b118b55cdc152e325af23475b49bcf", func := "raddle/raddlelaw06.NormEmpty", spec := "normEmpty", unfollowed := true, recurses := true, apart := false, narrowed := true }
def NormEmptyUptoSaid : Prop := normEmptyUptoRow.holds Try.pinned (OpenSpec.upto normEmptySpec)

/-- 'raddlelaw06.NormName', WHERE WHAT IT READS IS OF BULK AT MOST 1048576: true; the input reads as it did. -/
def normNameUptoRow : OpenClaim := { program := "ytnajcigfgniflaa", sum := "93081d498fb86451c827bca6623dc57c88b118b55cdc152e325af23475b49bcf", func := "raddle/raddlelaw06.NormName", spec := "normName", unfollowed := true, recurses := true, apart := false, narrowed := true }
def NormNameUptoSaid : Prop := normNameUptoRow.holds Try.pinned (OpenSpec.upto normNameSpec)

/-- 'raddlelaw06.NormLong', WHERE WHAT IT READS IS OF BULK AT MOST 1048576: true; the input reads as it did. -/
def normLongUptoRow : OpenClaim := { program := "ytnajcigfgniflaa", sum := "93081d498fb86451c827bca6623dc57c88b118b55cdc152e325af23475b49bcf", func := "raddle/raddlelaw06.NormLong", spec := "normLong", recurses := true, apart := false, narrowed := true }
def NormLongUptoSaid : Prop := normLongUptoRow.holds Try.pinned (OpenSpec.upto normLongSpec)

/-- 'raddlelaw06.NormFold', WHERE WHAT IT READS IS OF BULK AT MOST 1048576: true; the input reads as it did. -/
def normFoldUptoRow : OpenClaim := { program := "ytnajcigfgniflaa", sum := "93081d498fb86451c827bca6623dc57c88b118b55cdc152e325af23475b49bcf", func := "raddle/raddlelaw06.NormFold", spec := "normFold", unfollowed := true, recurses := true, apart := false, narrowed := true }
def NormFoldUptoSaid : Prop := normFoldUptoRow.holds Try.pinned (OpenSpec.upto normFoldSpec)

end Rows
end Go.Proofs.Ytnajcigfgniflaa

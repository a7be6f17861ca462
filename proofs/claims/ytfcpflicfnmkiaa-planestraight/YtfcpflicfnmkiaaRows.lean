/-
  No cell of these rows narrows 'for every input' (looked for: loops, veiled, ifaces, maps, wideKeys, modest, calm, conditions, laid).
  DERIVED. THE GIVEN ROWS OF THIS SEAT. 5 by the template 'for every input the law returns true; each argument reads behind the call as it read before'; 0 by the template 'total and deterministic' (their statements: YtfcpflicfnmkiaaTotals.lean).
  GIVEN WITH THE SEED: the statements are not yours to turn. If you find one false, say at which input.
  Laid BY PROGRAM, IN A SANDBOX (cutbox-rows.mjs): the forced cells as the released guide's own fill.sh prints them over the translation d3da1b2efb439a37… (all of the seat's roots in one cut). By AI agents, Wed Nov 11 2026. No macro, syntax, notation, axiom, sorry.
-/
import Derived.Test.YtfcpflicfnmkiaaChecked
import GoSem.Claim
import GoSem.ClaimJoined
import GoSem.ClaimMapViews
import Derived.JoinedTies
import Derived.KernelRfl
namespace Go.Proofs.Ytfcpflicfnmkiaa
/- THE CELL 'sum', in the pinned program and in every row, IS THE sha256 OF THE DUMP (.gsa) THAT YtfcpflicfnmkiaaProg.lean LOADS. Nothing in Lean hashes anything: it is a label: what it is worth is what the hold of that sum in a sandbox is worth. -/
noncomputable def Try.pinned : Pinned := { name := "ytfcpflicfnmkiaa", sum := "d3da1b2efb439a37e589740a7f1aab626a7f4246029c8d19b09887e2274d7698", checked := Try.checked }
namespace Rows
def none {H : Type} : Left H := { results := [], args := [] }

/-- 'glyphiclaw4.PlaneSays': WHATEVER THE INPUT: true; the input reads as it did. -/
def planeSaysSpec : ChangeSpec := { name := "planeSays", fn := fun _ => fun
  | [d1, d2, d3, d4] => { results := [.lit (.bool true)], args := [d1, d2, d3, d4] }
  | _ => none }
def planeSaysRow : OpenClaim := { program := "ytfcpflicfnmkiaa", sum := "d3da1b2efb439a37e589740a7f1aab626a7f4246029c8d19b09887e2274d7698", func := "glyphic/glyphiclaw4.PlaneSays", spec := "planeSays", apart := false }
def PlaneSaysSaid : Prop := planeSaysRow.holds Try.pinned (OpenSpec.ofChange planeSaysSpec)

/-- ITS FALSE NEIGHBOUR: 'it returns false'. Refute it at one input. -/
def planeSaysWrong : ChangeSpec := { name := "planeSays", fn := fun _ => fun
  | [d1, d2, d3, d4] => { results := [.lit (.bool false)], args := [d1, d2, d3, d4] }
  | _ => none }
def PlaneSaysWrongFalsely : Prop := planeSaysRow.holds Try.pinned (OpenSpec.ofChange planeSaysWrong)

/-- 'glyphiclaw4.PlaneTurns': WHATEVER THE INPUT: true; the input reads as it did. -/
def planeTurnsSpec : ChangeSpec := { name := "planeTurns", fn := fun _ => fun
  | [d1, d2, d3, d4, d5, d6] => { results := [.lit (.bool true)], args := [d1, d2, d3, d4, d5, d6] }
  | _ => none }
def planeTurnsRow : OpenClaim := { program := "ytfcpflicfnmkiaa", sum := "d3da1b2efb439a37e589740a7f1aab626a7f4246029c8d19b09887e2274d7698", func := "glyphic/glyphiclaw4.PlaneTurns", spec := "planeTurns", apart := false }
def PlaneTurnsSaid : Prop := planeTurnsRow.holds Try.pinned (OpenSpec.ofChange planeTurnsSpec)

/-- ITS FALSE NEIGHBOUR: 'it returns false'. Refute it at one input. -/
def planeTurnsWrong : ChangeSpec := { name := "planeTurns", fn := fun _ => fun
  | [d1, d2, d3, d4, d5, d6] => { results := [.lit (.bool false)], args := [d1, d2, d3, d4, d5, d6] }
  | _ => none }
def PlaneTurnsWrongFalsely : Prop := planeTurnsRow.holds Try.pinned (OpenSpec.ofChange planeTurnsWrong)

/-- 'glyphiclaw4.PlaneStraight': WHATEVER THE INPUT: true; the input reads as it did. -/
def planeStraightSpec : ChangeSpec := { name := "planeStraight", fn := fun _ => fun
  | [d1, d2, d3, d4, d5, d6] => { results := [.lit (.bool true)], args := [d1, d2, d3, d4, d5, d6] }
  | _ => none }
def planeStraightRow : OpenClaim := { program := "ytfcpflicfnmkiaa", sum := "d3da1b2efb439a37e589740a7f1aab626a7f4246029c8d19b09887e2274d7698", func := "glyphic/glyphiclaw4.PlaneStraight", spec := "planeStraight", apart := false }
def PlaneStraightSaid : Prop := planeStraightRow.holds Try.pinned (OpenSpec.ofChange planeStraightSpec)

/-- ITS FALSE NEIGHBOUR: 'it returns false'. Refute it at one input. -/
def planeStraightWrong : ChangeSpec := { name := "planeStraight", fn := fun _ => fun
  | [d1, d2, d3, d4, d5, d6] => { results := [.lit (.bool false)], args := [d1, d2, d3, d4, d5, d6] }
  | _ => none }
def PlaneStraightWrongFalsely : Prop := planeStraightRow.holds Try.pinned (OpenSpec.ofChange planeStraightWrong)

/-- 'glyphiclaw4.PlaneSides': WHATEVER THE INPUT: true; the input reads as it did. -/
def planeSidesSpec : ChangeSpec := { name := "planeSides", fn := fun _ => fun
  | [d1, d2, d3, d4] => { results := [.lit (.bool true)], args := [d1, d2, d3, d4] }
  | _ => none }
def planeSidesRow : OpenClaim := { program := "ytfcpflicfnmkiaa", sum := "d3da1b2efb439a37e589740a7f1aab626a7f4246029c8d19b09887e2274d7698", func := "glyphic/glyphiclaw4.PlaneSides", spec := "planeSides", apart := false }
def PlaneSidesSaid : Prop := planeSidesRow.holds Try.pinned (OpenSpec.ofChange planeSidesSpec)

/-- ITS FALSE NEIGHBOUR: 'it returns false'. Refute it at one input. -/
def planeSidesWrong : ChangeSpec := { name := "planeSides", fn := fun _ => fun
  | [d1, d2, d3, d4] => { results := [.lit (.bool false)], args := [d1, d2, d3, d4] }
  | _ => none }
def PlaneSidesWrongFalsely : Prop := planeSidesRow.holds Try.pinned (OpenSpec.ofChange planeSidesWrong)

/-- 'glyphiclaw4.PlaneSlants': WHATEVER THE INPUT: true; the input reads as it did. -/
def planeSlantsSpec : ChangeSpec := { name := "planeSlants", fn := fun _ => fun
  | [d1, d2, d3, d4] => { results := [.lit (.bool true)], args := [d1, d2, d3, d4] }
  | _ => none }
def planeSlantsRow : OpenClaim := { program := "ytfcpflicfnmkiaa", sum := "d3da1b2efb439a37e589740a7f1aab626a7f4246029c8d19b09887e2274d7698", func := "glyphic/glyphiclaw4.PlaneSlants", spec := "planeSlants", apart := false }
def PlaneSlantsSaid : Prop := planeSlantsRow.holds Try.pinned (OpenSpec.ofChange planeSlantsSpec)

/-- ITS FALSE NEIGHBOUR: 'it returns false'. Refute it at one input. -/
def planeSlantsWrong : ChangeSpec := { name := "planeSlants", fn := fun _ => fun
  | [d1, d2, d3, d4] => { results := [.lit (.bool false)], args := [d1, d2, d3, d4] }
  | _ => none }
def PlaneSlantsWrongFalsely : Prop := planeSlantsRow.holds Try.pinned (OpenSpec.ofChange planeSlantsWrong)

/- THE SECOND FORM. 'bulk': how many values and letters a reading holds, each counted each time it is reached (what is shared counts as often as it is met; a slice's spare places count too). A statement '..UptoSaid' is the law's where the arguments, and the package variables that the reading takes, are together of bulk at most 1048576: NARROWER than '..Said'. Prove '..Said' where nothing that the law and all that it calls make is longer than what came in: it says more and counts as full. Else prove '..UptoSaid'. A law counts once. -/
mutual
def uptoBulk {H : Type} : DataW H → Nat
  | .lit (.string bytes) => bytes.length + 1
  | .lit _ => 1
  | .nil => 1
  | .ptr d => uptoBulk d + 1
  | .slice elems spare => uptoBulkAll elems + uptoBulkAll spare + 1
  | .agg parts => uptoBulkAll parts + 1
  | .iface _ d => uptoBulk d + 1
  | .map entries => uptoBulkEntries entries + 1
  | .held _ => 1
def uptoBulkAll {H : Type} : List (DataW H) → Nat
  | [] => 0
  | d :: r => uptoBulk d + uptoBulkAll r
def uptoBulkEntries {H : Type} : List (Lit × DataW H) → Nat
  | [] => 0
  | x :: r => uptoBulkEntry x + uptoBulkEntries r
def uptoBulkEntry {H : Type} : Lit × DataW H → Nat
  | (.string bytes, d) => bytes.length + uptoBulk d + 1
  | (_, d) => uptoBulk d + 1
 end
def uptoSmall : (H : Type) → List (DataW H) → Bool := fun _ ds => decide (uptoBulkAll ds ≤ 1048576)
def OpenSpec.upto (s : _root_.Go.ChangeSpec) : _root_.Go.OpenSpec := { _root_.Go.OpenSpec.ofChange s with cond := some uptoSmall }

/-- 'glyphiclaw4.PlaneSays', WHERE WHAT IT READS IS OF BULK AT MOST 1048576: true; the input reads as it did. -/
def planeSaysUptoRow : OpenClaim := { program := "ytfcpflicfnmkiaa", sum := "d3da1b2efb439a37e589740a7f1aab626a7f4246029c8d19b09887e2274d7698", func := "glyphic/glyphiclaw4.PlaneSays", spec := "planeSays", apart := false, narrowed := true }
def PlaneSaysUptoSaid : Prop := planeSaysUptoRow.holds Try.pinned (OpenSpec.upto planeSaysSpec)

/-- 'glyphiclaw4.PlaneTurns', WHERE WHAT IT READS IS OF BULK AT MOST 1048576: true; the input reads as it did. -/
def planeTurnsUptoRow : OpenClaim := { program := "ytfcpflicfnmkiaa", sum := "d3da1b2efb439a37e589740a7f1aab626a7f4246029c8d19b09887e2274d7698", func := "glyphic/glyphiclaw4.PlaneTurns", spec := "planeTurns", apart := false, narrowed := true }
def PlaneTurnsUptoSaid : Prop := planeTurnsUptoRow.holds Try.pinned (OpenSpec.upto planeTurnsSpec)

/-- 'glyphiclaw4.PlaneStraight', WHERE WHAT IT READS IS OF BULK AT MOST 1048576: true; the input reads as it did. -/
def planeStraightUptoRow : OpenClaim := { program := "ytfcpflicfnmkiaa", sum := "d3da1b2efb439a37e589740a7f1aab626a7f4246029c8d19b09887e2274d7698", func := "glyphic/glyphiclaw4.PlaneStraight", spec := "planeStraight", apart := false, narrowed := true }
def PlaneStraightUptoSaid : Prop := planeStraightUptoRow.holds Try.pinned (OpenSpec.upto planeStraightSpec)

/-- 'glyphiclaw4.PlaneSides', WHERE WHAT IT READS IS OF BULK AT MOST 1048576: true; the input reads as it did. -/
def planeSidesUptoRow : OpenClaim := { program := "ytfcpflicfnmkiaa", sum := "d3da1b2efb439a37e589740a7f1aab626a7f4246029c8d19b09887e2274d7698", func := "glyphic/glyphiclaw4.PlaneSides", spec := "planeSides", apart := false, narrowed := true }
def PlaneSidesUptoSaid : Prop := planeSidesUptoRow.holds Try.pinned (OpenSpec.upto planeSidesSpec)

/-- 'glyphiclaw4.PlaneSlants', WHERE WHAT IT READS IS OF BULK AT MOST 1048576: true; the input reads as it did. -/
def planeSlantsUptoRow : OpenClaim := { program := "ytfcpflicfnmkiaa", sum := "d3da1b2efb439a37e589740a7f1aab626a7f4246029c8d19b09887e2274d7698", func := "glyphic/glyphiclaw4.PlaneSlants", spec := "planeSlants", apart := false, narrowed := true }
def PlaneSlantsUptoSaid : Prop := planeSlantsUptoRow.holds Try.pinned (OpenSpec.upto planeSlantsSpec)

end Rows
end Go.Proofs.Ytfcpflicfnmkiaa

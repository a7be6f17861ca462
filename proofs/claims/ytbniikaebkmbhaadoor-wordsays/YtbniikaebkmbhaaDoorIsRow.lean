/-
  Numbers that came in as a slice.
-/
import Derived.OpenShut
import Derived.Test.YtbniikaebkmbhaaDoorWordBase
namespace Go.Proofs.YtbniikaebkmbhaaDoor
open Go.RowKit

/-- Integers that came in as a slice: none, or cell by cell. -/
def IsRow (k : IntKind) (w : World) (a : Option Addr) (len cap : Nat) (zs : List Int) : Prop :=
  (a = none ∧ len = 0 ∧ cap = 0 ∧ zs = []) ∨
  ∃ x, a = some x ∧ len ≤ cap ∧ cap ≤ maxLen ∧ zs.length = cap ∧ (∀ i, i < zs.length → w.cell? (x.add i) = some (.int k (zs.getD i 0))) ∧ ∀ n ∈ zs, (Lit.int k n).wf = true

end Go.Proofs.YtbniikaebkmbhaaDoor

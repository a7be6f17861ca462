/-
  A region that draws its order, whose own operations only read and whose callees make memory but write none that was there: one walk, in the order of the text, over the class of all worlds that have grown from the one ahead of it.
-/
import Derived.Test.YtcnlkdoifogkbaaGreatDoorIconBase
namespace Go.Proofs.YtcnlkdoifogkbaaGreatDoor
open Go.RowKit

/-- The worlds that have grown from w: what was there is as it was. -/
def Grown (w : World) : Type := { x : World // Below w.heap.size w x }

/-- The world itself. -/
def Grown.w {w : World} (g : Grown w) : World := Subtype.val g

theorem Grown.below {w : World} (g : Grown w) : Below w.heap.size w g.w := Subtype.property g

theorem Grown.some (w : World) : Nonempty (Grown w) := ⟨⟨w, Below.refl _ _⟩⟩

theorem wp_region_grow {P : Program} {id : Nat} {Q : Exit → Act → World → Prop} {a : Act} {w : World} {l : List Oper} (hm : P.follows .mixedOrders = true) (hB : Region.lexB .any l.toArray = true)
    (h : wpQuiet P l.toArray (fun w' => ∃ g : Grown w, w' = g.w) (fun a' => ∀ w', (∃ g : Grown w, w' = g.w) → Q .normal a' w') l a) : (Code.region id l.toArray true).wp P Q a w :=
  wp_region_quiet (C := fun w' => ∃ g : Grown w, w' = g.w) hm hB ⟨⟨w.drew, (Below.refl _ _).drew⟩, rfl⟩ (by simpa using h)

theorem grow_of {P : Program} {f : FuncId} {args : Array Value} {w : World} {v : Value} {g : Grown w}
    (h : Calls P f args g.w fun e w' => e = .returned v ∧ Below g.w.heap.size g.w w') : Calls P f args g.w fun e w'' => e = .returned v ∧ ∃ g' : Grown w, w'' = g'.w :=
  h.mono fun _ w'' ⟨he, hb⟩ => ⟨he, ⟨w'', chain g.below hb⟩, rfl⟩

theorem Grown.cell {w : World} {b j : Nat} {v : Value} (hb : b < w.heap.size) (h : w.cell? ⟨b, j, none⟩ = Option.some v) : ∀ g : Grown w, g.w.cell? ⟨b, j, none⟩ = Option.some v :=
  fun g => (g.below.cell (p := ⟨b, j, none⟩) hb).trans h

end Go.Proofs.YtcnlkdoifogkbaaGreatDoor

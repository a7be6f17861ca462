/-
  A written icon in memory: its lists, each element where it lies, over what has turned since.
-/
import Derived.Test.YtenmkopiddmieabGreatDoorParseMoreStep
import Derived.Test.YtenmkopiddmieabGreatDoorParseLe
namespace Go.Proofs.YtenmkopiddmieabGreatDoor
open Go.RowKit

/-- A list of steps in memory. -/
def StepsAt (w : World) (v : Value) (l : List PP.Step) : Prop := ∃ (hs : List (PP.Step × Value)), hs.map (·.1) = l ∧ (∃ ad cap, v = .slice ad hs.length cap) ∧ Many w 119 3 stepL v hs ∧ ∀ p ∈ hs, StepOk w p
theorem StepsAt.kt {t : TypeId} {w w' : World} {v : Value} {l : List PP.Step} (h : StepsAt w v l) (hk : Kt t w w') (h1 : 119 ≠ t := by decide) (h2 : 65 ≠ t := by decide) : StepsAt w' v l := by
  obtain ⟨hs, e1, e2, e3, e4⟩ := h
  exact ⟨hs, e1, e2, Row.kt e3 hk h1 (by decide), fun p hp => (e4 p hp).kt hk h2⟩
theorem StepsAt.slice {w : World} {v : Value} {l : List PP.Step} (h : StepsAt w v l) : ∃ ad n cap, v = .slice ad n cap := by obtain ⟨hs, -, ⟨a, c, e⟩, -⟩ := h; exact ⟨a, _, c, e⟩

def itemL (p : PP.Item × Value) : List Value := [.bool p.1.use, .int .i64 (p.1.pos : Nat), p.2, .string ⟨p.1.name.toArray⟩, .string ⟨p.1.x.name.toArray⟩, .int .i64 p.1.x.n, .int .i64 (p.1.x.pos : Nat), .string ⟨p.1.y.name.toArray⟩, .int .i64 p.1.y.n, .int .i64 (p.1.y.pos : Nat), .string ⟨p.1.by'.name.toArray⟩, .int .i64 p.1.by'.n, .int .i64 (p.1.by'.pos : Nat), .int .i64 (p.1.turn : Nat)]
theorem itemL_len (p : PP.Item × Value) : (itemL p).length = 14 := rfl
def ItemOk (w : World) (p : PP.Item × Value) : Prop := StepsAt w p.2 p.1.steps
theorem ItemOk.slice {w : World} {p : PP.Item × Value} (h : ItemOk w p) : ∃ ad n cap, p.2 = .slice ad n cap := StepsAt.slice h
theorem ItemOk.kt {t : TypeId} {w w' : World} {p : PP.Item × Value} (h : ItemOk w p) (hk : Kt t w w') (h1 : 119 ≠ t := by decide) (h2 : 65 ≠ t := by decide) : ItemOk w' p := StepsAt.kt h hk h1 h2

def ItemsAt (w : World) (v : Value) (l : List PP.Item) : Prop := ∃ (hs : List (PP.Item × Value)), hs.map (·.1) = l ∧ (∃ ad cap, v = .slice ad hs.length cap) ∧ Many w 93 14 itemL v hs ∧ ∀ p ∈ hs, ItemOk w p
theorem ItemsAt.kt {t : TypeId} {w w' : World} {v : Value} {l : List PP.Item} (h : ItemsAt w v l) (hk : Kt t w w') (h0 : 93 ≠ t := by decide) (h1 : 119 ≠ t := by decide) (h2 : 65 ≠ t := by decide) : ItemsAt w' v l := by
  obtain ⟨hs, e1, e2, e3, e4⟩ := h
  exact ⟨hs, e1, e2, Row.kt e3 hk h0 (by decide), fun p hp => (e4 p hp).kt hk h1 h2⟩
theorem ItemsAt.slice {w : World} {v : Value} {l : List PP.Item} (h : ItemsAt w v l) : ∃ ad n cap, v = .slice ad n cap := by obtain ⟨hs, -, ⟨a, c, e⟩, -⟩ := h; exact ⟨a, _, c, e⟩

def shapeL (p : PP.Shape × Value) : List Value := [.string ⟨p.1.name.toArray⟩, .int .i64 (p.1.pos : Nat), p.2]
theorem shapeL_len (p : PP.Shape × Value) : (shapeL p).length = 3 := rfl
def ShapeOk (w : World) (p : PP.Shape × Value) : Prop := ItemsAt w p.2 p.1.items
theorem ShapeOk.slice {w : World} {p : PP.Shape × Value} (h : ShapeOk w p) : ∃ ad n cap, p.2 = .slice ad n cap := ItemsAt.slice h
theorem ShapeOk.kt {t : TypeId} {w w' : World} {p : PP.Shape × Value} (h : ShapeOk w p) (hk : Kt t w w') (h0 : 93 ≠ t := by decide) (h1 : 119 ≠ t := by decide) (h2 : 65 ≠ t := by decide) : ShapeOk w' p := ItemsAt.kt h hk h0 h1 h2

def paintL (p : PP.Paint) : List Value := [.int .i64 (p.kind : Nat), .string ⟨p.a.name.toArray⟩, .int .u8 (p.a.c.r : Nat), .int .u8 (p.a.c.g : Nat), .int .u8 (p.a.c.b : Nat), .int .u8 (p.a.c.a : Nat), .int .i64 (p.a.pos : Nat), .string ⟨p.b.name.toArray⟩, .int .u8 (p.b.c.r : Nat), .int .u8 (p.b.c.g : Nat), .int .u8 (p.b.c.b : Nat), .int .u8 (p.b.c.a : Nat), .int .i64 (p.b.pos : Nat),
  .string ⟨p.p0.name.toArray⟩, .int .i64 p.p0.n, .int .i64 (p.p0.pos : Nat), .string ⟨p.p1.name.toArray⟩, .int .i64 p.p1.n, .int .i64 (p.p1.pos : Nat), .string ⟨p.p2.name.toArray⟩, .int .i64 p.p2.n, .int .i64 (p.p2.pos : Nat), .string ⟨p.p3.name.toArray⟩, .int .i64 p.p3.n, .int .i64 (p.p3.pos : Nat)]
theorem paintL_len (p : PP.Paint) : (paintL p).length = 25 := rfl
def cmdL (p : PP.Cmd × Value) : List Value := [.int .i64 (p.1.kind : Nat), .int .i64 (p.1.rule : Nat), .int .i64 (p.1.pos : Nat), .string ⟨p.1.width.name.toArray⟩, .int .i64 p.1.width.n, .int .i64 (p.1.width.pos : Nat)] ++ paintL p.1.paint ++ [p.2]
theorem cmdL_len (p : PP.Cmd × Value) : (cmdL p).length = 32 := rfl
def CmdOk (w : World) (p : PP.Cmd × Value) : Prop := ItemsAt w p.2 p.1.items
theorem CmdOk.slice {w : World} {p : PP.Cmd × Value} (h : CmdOk w p) : ∃ ad n cap, p.2 = .slice ad n cap := ItemsAt.slice h
theorem CmdOk.kt {t : TypeId} {w w' : World} {p : PP.Cmd × Value} (h : CmdOk w p) (hk : Kt t w w') (h0 : 93 ≠ t := by decide) (h1 : 119 ≠ t := by decide) (h2 : 65 ≠ t := by decide) : CmdOk w' p := ItemsAt.kt h hk h0 h1 h2

end Go.Proofs.YtenmkopiddmieabGreatDoor

/-
  What the plane roads lean on: a point in memory, and the leaves: Sub, Add, Mul64, cut, turn, Number, SamePoint and the document's own Cross and Dot, walked over the program.
-/
import Derived.WalkKit
import Derived.WalkSpells
import Derived.WalkLawsBesides
import Derived.Deep.QuietTactic
import Derived.BigQuiet
import Derived.Deep.RegionWith
import Derived.Deep.RegionHeld3
import Derived.Sort.AtCall
import Derived.OwnWalk
import Derived.Laws.Bits64b
import Derived.Test.YtfcpflicfnmkiaaProg
import Derived.Test.YtfcpflicfnmkiaaPlanePlain
namespace Go.Proofs.Ytfcpflicfnmkiaa
open Go.RowKit

theorem ret_int {k : IntKind} {a b : Int} (h : a = b) : Ending.returned (.int k a) = .returned (.int k b) := by rw [h]
theorem ret_int2 {k l : IntKind} {a b c d : Int} (h : a = b) (g : c = d) : Ending.returned (.tuple #[.int k a, .int l c]) = .returned (.tuple #[.int k b, .int l d]) := by rw [h, g]
theorem ret_bool {a b : Bool} (h : a = b) : Ending.returned (.bool a) = .returned (.bool b) := by rw [h]

theorem below_drewN {B : Nat} {a w : World} (h : Below B a w) (n : Nat) : Below B a (w.drewN n) := ⟨h.os, h.tape, h.output, h.size, h.block⟩
theorem below_of_drew {w w' : World} (h : Below w.drew.heap.size w.drew w') : Below w.heap.size w w' := ⟨h.os, h.tape, h.output, h.size, h.block⟩
theorem size_alloc (w : World) (o : Obj) : (w.alloc o).heap.size = w.heap.size + 1 := by simp

/-- A point as the program's value. -/
def pt (x y : Int) : Value := .agg #[.int .i64 x, .int .i64 y]

/-- Two cells of a block. -/
def Two (w : World) (b : Nat) (v0 v1 : Value) : Prop := b < w.heap.size ∧ w.cell? ⟨b, 0, none⟩ = some v0 ∧ w.cell? ⟨b, 1, none⟩ = some v1

theorem Two.below {w w' : World} {b : Nat} {v0 v1 : Value} (h : Two w b v0 v1) (hb : Below w.heap.size w w') : Two w' b v0 v1 := by
  obtain ⟨hl, h0, h1⟩ := h
  exact ⟨Nat.lt_of_lt_of_le hl hb.size, (hb.cell (p := ⟨b, 0, none⟩) hl).trans h0, (hb.cell (p := ⟨b, 1, none⟩) hl).trans h1⟩

theorem two_new (w : World) (v0 v1 : Value) (t : TypeId) (fr : Nat × Nat) : Two (w.alloc (.cells #[v0, v1] t fr)) w.heap.size v0 v1 := by
  refine ⟨by simp, ?_, ?_⟩ <;> (rw [World.cell?_alloc_mark]; rfl)

theorem Two.alloc {w : World} {b : Nat} {v0 v1 : Value} (h : Two w b v0 v1) (o : Obj) : Two (w.alloc o) b v0 v1 := h.below ((Below.refl _ _).alloc (Nat.le_refl _) _)

theorem sub_any (ax ay bx bY : Int) (w : World) (h1 : -9223372036854775808 ≤ ax - bx ∧ ax - bx ≤ 9223372036854775807) (h2 : -9223372036854775808 ≤ ay - bY ∧ ay - bY ≤ 9223372036854775807) :
    Calls Try.prog 20 #[.agg #[.int .i64 ax, .int .i64 ay], .agg #[.int .i64 bx, .int .i64 bY]] w fun e w' => e = .returned (.agg #[.int .i64 (ax - bx), .int .i64 (ay - bY)]) ∧
      w' = ((w.alloc (.cells #[.int .i64 ax, .int .i64 ay] 23)).alloc (.cells #[.int .i64 bx, .int .i64 bY] 23)).alloc (.cells #[.int .i64 (ax - bx), .int .i64 (ay - bY)] 23) := by
  go_enter Try.func20, Try.ntmps20
  go_wp2
  exact bodyPost_ret (v := .agg #[.int .i64 (ax - bx), .int .i64 (ay - bY)]) (by simp [results, Try.results20, go_sem]) rfl ⟨rfl, rfl⟩

theorem add_any (ax ay bx bY : Int) (w : World) (h1 : -9223372036854775808 ≤ ax + bx ∧ ax + bx ≤ 9223372036854775807) (h2 : -9223372036854775808 ≤ ay + bY ∧ ay + bY ≤ 9223372036854775807) :
    Calls Try.prog 19 #[.agg #[.int .i64 ax, .int .i64 ay], .agg #[.int .i64 bx, .int .i64 bY]] w fun e w' => e = .returned (.agg #[.int .i64 (ax + bx), .int .i64 (ay + bY)]) ∧ Below w.heap.size w w' := by
  go_enter Try.func19, Try.ntmps19
  go_wp2
  exact bodyPost_ret (v := .agg #[.int .i64 (ax + bx), .int .i64 (ay + bY)]) (by simp [results, Try.results19, go_sem]) rfl ⟨rfl, (((Below.refl _ _).alloc (by omega) _).alloc (by simp) _).alloc (by simp; omega) _⟩

end Go.Proofs.Ytfcpflicfnmkiaa

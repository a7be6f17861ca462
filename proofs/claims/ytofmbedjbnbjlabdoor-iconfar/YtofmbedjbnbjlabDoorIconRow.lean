/-
  Numbers that came in, as the numbers that an icon is made of; an icon made of them.
-/
import Derived.Test.YtofmbedjbnbjlabDoorIsRow
import Derived.Test.YtofmbedjbnbjlabDoorMake6
namespace Go.Proofs.YtofmbedjbnbjlabDoor
open Go.RowKit

theorem seq_of_row {w w1 : World} {a : Option Addr} {len cap : Nat} {zs : List Int} (h : IsRow .i64 w a len cap zs) (hb : Below w.heap.size w w1) :
    SeqOk (w1.alloc (.cells #[.slice a len cap, .int .i64 0] 31)) w1.heap.size 0 := by
  rcases h with ⟨rfl, rfl, rfl, -⟩ | ⟨x, rfl, hl, hm, hz, hc, hw⟩
  · exact ⟨none, 0, 0, 0, blk_new w1 31 _, by omega, by omega, by unfold maxLen; omega, fun j hj => absurd hj (by omega)⟩
  · refine ⟨some x, len, cap, 0, blk_new w1 31 _, by omega, hl, hm, fun j hj => ?_⟩
    have hj' : j < zs.length := by omega
    have h1 := hc j hj'
    have h2 := World.block_lt_of_cell? w _ h1
    have h3 := h2
    rw [add_block] at h3
    have hlt : x.block < w1.heap.size := Nat.lt_of_lt_of_le h3 hb.size
    have hwf := hw (zs.getD j 0) (by simp [List.getD, hj'])
    refine ⟨x, zs.getD j 0, rfl, hlt, ?_, bounds_i64 hwf⟩
    have e : (w1.alloc (.cells #[.slice (some x) len cap, .int .i64 0] 31)).cell? (x.add j) = w1.cell? (x.add j) := World.cell?_of_block (Below.heap_alloc _ _ _ (by rw [add_block]; exact hlt))
    rw [e, hb.cell (p := x.add j) h2]
    exact h1

/-- An icon made of numbers that came in. -/
theorem icon_row {w w1 : World} {a : Option Addr} {len cap : Nat} {zs : List Int} (h : IsRow .i64 w a len cap zs) (hb : Below w.heap.size w w1) :
    Calls Tryd.prog 5 #[.pointer (some ⟨w1.heap.size, 0, none⟩)] (w1.alloc (.cells #[.slice a len cap, .int .i64 0] 31)) fun e w' => (∃ i : IC.Icon, e = .returned (.agg i.cells.toArray) ∧ Good i ∧ IconOk w' i) ∧ Below w1.heap.size w1 w' := by
  refine (icon_any w1.heap.size 0 _ (seq_of_row h hb) (by omega)).mono ?_
  rintro e w' ⟨hi, hs, hm⟩
  exact ⟨hi, ((Below.refl _ _).alloc (Nat.le_refl _) _).trans (hm.low (Nat.le_refl _) (by simp))⟩

end Go.Proofs.YtofmbedjbnbjlabDoor

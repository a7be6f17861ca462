/-
  A road that meets the errors of a wrong text and of a limit alone: what the tied card's condition gives it.
-/
import Derived.Test.YtdfbhdnklefbaaaDoorWordLaid
namespace Go.Proofs.YtdfbhdnklefbaaaDoor
open Go.ChangeShapes Go.WideShapes Go.ChangeAt Go.RowKit

def laid2 : List (String × DataW Unit) := [("glyphic/api.ErrText", Rows.laid_glyphic_api_ErrText), ("glyphic/api.ErrLimit", Rows.laid_glyphic_api_ErrLimit)]

theorem door_met2 (os : Os) (args : Array Value) : laidMetH Tryd.prog laid2 ((World.doorLaid Tryd.prog 4096 os).forCall (fun _ _ => 0) ⟨#[], args, []⟩).memory :=
  laidMetH_of_parts3 (fuel := 8) (laidMet_of_run' 8 (by kernel_rfl) (by kernel_rfl)) (by kernel_rfl) (by kernel_rfl)

def Errs2 (w : World) (A : Nat → Addr) : Prop := w.cell? ⟨1, 0, none⟩ = some (.iface 107 (.pointer (some (A 0)))) ∧ 1 < w.heap.size

theorem errs_of_laid2 {W : World} (h : laidMetH Tryd.prog laid2 W) : ∃ A, Errs2 W A := by
  rw [MakeChecks.laidMetH_plain _ _ _ (by kernel_rfl)] at h
  obtain ⟨ps, hv, hnd, hrows⟩ := h
  obtain ⟨ads, h1, h2, h3, h4⟩ := laid_errs laid2 ps hv hnd hrows (fun x hx => laid_all x (by
    simp only [laid2, List.mem_cons, List.not_mem_nil, or_false] at hx
    rcases hx with rfl | rfl <;> simp [laid13]))
  have hlen : ads.length = 2 := h1
  have hc : W.cell? ⟨1, 0, none⟩ = some (.iface 107 (.pointer (some ads[0]))) := by
    simpa using World.var?_cell (show Tryd.prog.globalNamed "glyphic/api.ErrText" = some 1 by kernel_rfl) (h2 0 (by simp [laid2]) (by omega)) 0
  exact ⟨fun _ => ads[0], hc, World.block_lt_of_cell? W _ hc⟩

end Go.Proofs.YtdfbhdnklefbaaaDoor

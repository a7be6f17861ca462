/-
  The three errors of package icon, as the program's text lays them.
-/
import Derived.Test.YtofmbedjbnbjlaaDoorErrLaid
namespace Go.Proofs.YtofmbedjbnbjlaaDoor
open Go.ChangeShapes Go.WideShapes Go.ChangeAt Go.RowKit

def laid3 : List (String × DataW Unit) := [("glyphic/api.ErrRange", Rows.laid_glyphic_api_ErrRange), ("glyphic/api.ErrLimit", Rows.laid_glyphic_api_ErrLimit), ("glyphic/api.ErrCanon", Rows.laid_glyphic_api_ErrCanon)]

theorem door_met3 (os : Os) (args : Array Value) : laidMetH Tryd.prog laid3 ((World.doorLaid Tryd.prog 256 os).forCall (fun _ _ => 0) ⟨#[], args, []⟩).memory :=
  laidMetH_of_parts3 (fuel := 8) (laidMet_of_run' 8 (by kernel_rfl) (by kernel_rfl)) (by kernel_rfl) (by kernel_rfl)

theorem errs_of_laid3 {W : World} (h : laidMetH Tryd.prog laid3 W) : ∃ A, Errs3 W A := by
  rw [MakeChecks.laidMetH_plain _ _ _ (by kernel_rfl)] at h
  obtain ⟨ps, hv, hnd, hrows⟩ := h
  obtain ⟨ads, h1, h2, h3, h4⟩ := laid_errs laid3 ps hv hnd hrows (fun x hx => laid_all x (by
    simp only [laid3, List.mem_cons, List.not_mem_nil, or_false] at hx
    rcases hx with rfl | rfl | rfl <;> simp [laid13]))
  have hlen : ads.length = 3 := h1
  have c0 : W.cell? ⟨0, 0, none⟩ = some (.iface 154 (.pointer (some ads[0]))) := by
    simpa using World.var?_cell (show Tryd.prog.globalNamed "glyphic/api.ErrRange" = some 0 by kernel_rfl) (h2 0 (by simp [laid3]) (by omega)) 0
  have c1 : W.cell? ⟨1, 0, none⟩ = some (.iface 154 (.pointer (some ads[1]))) := by
    simpa using World.var?_cell (show Tryd.prog.globalNamed "glyphic/api.ErrLimit" = some 1 by kernel_rfl) (h2 1 (by simp [laid3]) (by omega)) 0
  have c2 : W.cell? ⟨2, 0, none⟩ = some (.iface 154 (.pointer (some ads[2]))) := by
    simpa using World.var?_cell (show Tryd.prog.globalNamed "glyphic/api.ErrCanon" = some 2 by kernel_rfl) (h2 2 (by simp [laid3]) (by omega)) 0
  refine ⟨fun g => ads.getD g ⟨0, 0, none⟩, fun i hi => ?_⟩
  have e : ∀ g (h : g < ads.length), ads.getD g ⟨0, 0, none⟩ = ads[g] := fun g h => by simp [List.getD, h]
  have hc : i = 0 ∨ i = 1 ∨ i = 2 := by omega
  rcases hc with rfl | rfl | rfl
  · exact ⟨by simp only; rw [e 0 (by omega)]; exact c0, World.block_lt_of_cell? W _ c0⟩
  · exact ⟨by simp only; rw [e 1 (by omega)]; exact c1, World.block_lt_of_cell? W _ c1⟩
  · exact ⟨by simp only; rw [e 2 (by omega)]; exact c2, World.block_lt_of_cell? W _ c2⟩

end Go.Proofs.YtofmbedjbnbjlaaDoor

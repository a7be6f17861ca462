/-
  The program's own errors, as its text lays them: each variable holds a pointer to memory of its own. What the tied card's condition gives the roads, and that the program's own start meets it.
-/
import Derived.ProofKit
import Derived.LaidMore
import Derived.OpenShut
import Derived.Stop.Joined
import Derived.Stop.LaidErr
import Derived.ShutString
import Derived.ChangeOld
import Derived.Test.YtcnlkdoifogkbaaGreatDoorErrSee
import Derived.Test.YtcnlkdoifogkbaaGreatDoorRows
namespace Go.Proofs.YtcnlkdoifogkbaaGreatDoor
open Go.ChangeShapes Go.WideShapes Go.ChangeAt Go.RowKit

theorem own : ownKnob Tryz.prog.godebug = none := by kernel_rfl
theorem laidOut : laidOutB Tryz.prog = true := by kernel_rfl

def laid13 : List (String × DataW Unit) := [("glyphic/api.ErrText", Rows.laid_glyphic_api_ErrText), ("glyphic/api.ErrName", Rows.laid_glyphic_api_ErrName), ("glyphic/api.ErrTwice", Rows.laid_glyphic_api_ErrTwice), ("glyphic/api.ErrPath", Rows.laid_glyphic_api_ErrPath), ("glyphic/api.ErrRange", Rows.laid_glyphic_api_ErrRange), ("glyphic/api.ErrLimit", Rows.laid_glyphic_api_ErrLimit), ("glyphic/api.ErrShort", Rows.laid_glyphic_api_ErrShort), ("glyphic/api.ErrMagic", Rows.laid_glyphic_api_ErrMagic), ("glyphic/api.ErrVarint", Rows.laid_glyphic_api_ErrVarint), ("glyphic/api.ErrCanon", Rows.laid_glyphic_api_ErrCanon), ("glyphic/api.ErrTrail", Rows.laid_glyphic_api_ErrTrail), ("glyphic/api.ErrWidth", Rows.laid_glyphic_api_ErrWidth), ("glyphic/api.ErrBudget", Rows.laid_glyphic_api_ErrBudget)]

/-- The door's own heap meets the condition: closed facts. -/
theorem door_met13 (os : Os) (args : Array Value) : laidMetH Tryz.prog laid13 ((World.doorLaid Tryz.prog 256 os).forCall (fun _ _ => 0) ⟨#[], args, []⟩).memory :=
  laidMetH_of_parts3 (fuel := 8) (laidMet_of_run' 8 (by kernel_rfl) (by kernel_rfl)) (by kernel_rfl) (by kernel_rfl)

theorem star : "*" ++ "errors.errorString" = "*errors.errorString" := by decide
theorem rowPtr (u : TypeId) (h : Tryz.prog.typeName? 3 u = some "*errors.errorString") : u = 173 :=
  typeName_ptr_named (nm := "errors.errorString") (by rw [star]; kernel_rfl) (by kernel_rfl) (by decide) u (by rw [star]; exact h)
theorem cellsErr : Tryz.prog.cellsOf 190 = 1 := by kernel_rfl
theorem cellsStr : Tryz.prog.cellsOf 9 = 1 := by kernel_rfl

/-- A listed variable that is an error as errors.New makes it. -/
def ErrVar (x : String × DataW Unit) : Prop := ∃ text g, x.2 = .iface "*errors.errorString" (.ptr (.agg [.lit (.string text)])) ∧ Tryz.prog.globalNamed x.1 = some g ∧ (Tryz.prog.globals[g]?).map (·.type) = some 34

set_option maxRecDepth 20000 in
theorem laid_errs {W : World} : ∀ (L : List (String × DataW Unit)) (ps : List MemPlace), DataW.LaidVars Tryz.prog W L ps → ps.Nodup →
    (∀ b off, MemPlace.cell b off ∈ ps → (∃ c t, W.heap[b]? = some (.cells c t (0, 0))) ∧ ∀ u v, W.cell? ⟨b, off, none⟩ = some (.iface u v) → Value.okWide Tryz.prog W .any 0 u v) →
    (∀ x ∈ L, ErrVar x) →
    ∃ ads : List Addr, ads.length = L.length ∧ (∀ i (h : i < L.length) (h' : i < ads.length), W.var? Tryz.prog L[i].1 = some #[.iface 173 (.pointer (some ads[i]))]) ∧ (∀ a ∈ ads, MemPlace.cell a.block a.off ∈ ps) ∧ ads.Nodup := by
  intro L
  induction L with
  | nil => intro ps _ _ _ _; exact ⟨[], rfl, fun i h => absurd h (by simp), fun a h => absurd h (by simp), List.nodup_nil⟩
  | cons x r ih =>
    intro ps hv hnd hrows hE
    obtain ⟨n, d⟩ := x
    obtain ⟨text, g, hd, hg, ht⟩ := hE (n, d) (by simp)
    simp only at hd hg
    subst hd
    obtain ⟨g0, t0, cs0, f0, p0, q0, hg0, ht0, hv0, hd0, hq, rfl⟩ := hv
    obtain rfl := Option.some.inj (hg.symm.trans hg0)
    obtain rfl := Option.some.inj (ht.symm.trans ht0)
    obtain ⟨l0⟩ := cs0
    have ok0 : ∀ u v, l0 = [.iface u v] → Value.okWide Tryz.prog W .any 0 u v := fun u v e => by
      subst e
      exact (hrows g 0 (by simp [MemPlace.row])).2 u v (by simpa using World.var?_cell hg0 hv0 0)
    obtain ⟨a0, s0, rfl, hc0, hs0, hz0, rfl⟩ := errorString_of_trod Tryz.underlying34 rowPtr Tryz.underlying173 Tryz.underlying190 rfl rfl Tryz.underlying9 cellsErr cellsStr hd0 ok0
    have hsub := List.nodup_append.1 hnd
    obtain ⟨ads, h1, h2, h3, h4⟩ := ih q0 hq hsub.2.1 (fun b off hm => hrows b off (List.mem_append_right _ hm)) (fun x hx => hE x (by simp [hx]))
    refine ⟨a0 :: ads, by simp [h1], ?_, ?_, ?_⟩
    · intro i h h'
      match i with
      | 0 => exact hv0
      | i + 1 => exact h2 i (by simpa using h) (by simpa using h')
    · intro a ha
      rcases List.mem_cons.1 ha with rfl | ha
      · simp [MemPlace.row]
      · exact List.mem_append_right _ (h3 a ha)
    · refine List.nodup_cons.2 ⟨fun hm => ?_, h4⟩
      exact hsub.2.2 (MemPlace.cell a0.block a0.off) (by simp [MemPlace.row]) _ (h3 a0 hm) rfl

theorem laid_all : ∀ x ∈ laid13, ErrVar x := by
  intro x hx
  simp only [laid13, List.mem_cons, List.not_mem_nil, or_false] at hx
  rcases hx with rfl | rfl | rfl | rfl | rfl | rfl | rfl | rfl | rfl | rfl | rfl | rfl | rfl
  · exact ⟨_, 6, rfl, by kernel_rfl, by kernel_rfl⟩
  · exact ⟨_, 7, rfl, by kernel_rfl, by kernel_rfl⟩
  · exact ⟨_, 8, rfl, by kernel_rfl, by kernel_rfl⟩
  · exact ⟨_, 9, rfl, by kernel_rfl, by kernel_rfl⟩
  · exact ⟨_, 1, rfl, by kernel_rfl, by kernel_rfl⟩
  · exact ⟨_, 0, rfl, by kernel_rfl, by kernel_rfl⟩
  · exact ⟨_, 3, rfl, by kernel_rfl, by kernel_rfl⟩
  · exact ⟨_, 4, rfl, by kernel_rfl, by kernel_rfl⟩
  · exact ⟨_, 10, rfl, by kernel_rfl, by kernel_rfl⟩
  · exact ⟨_, 2, rfl, by kernel_rfl, by kernel_rfl⟩
  · exact ⟨_, 5, rfl, by kernel_rfl, by kernel_rfl⟩
  · exact ⟨_, 11, rfl, by kernel_rfl, by kernel_rfl⟩
  · exact ⟨_, 12, rfl, by kernel_rfl, by kernel_rfl⟩

/-- The place on the list of a variable, by its number. -/
def inv (g : Nat) : Nat := [5, 4, 9, 6, 7, 10, 0, 1, 2, 3, 8, 11, 12].getD g 0

theorem inv_lt (g : Nat) (h : g < 13) : inv g < 13 := by
  have : ∀ i : Fin 13, inv i.val < 13 := by decide
  exact this ⟨g, h⟩
theorem inv_ne (i j : Nat) (h : i < 13) (g : j < 13) (n : i ≠ j) : inv i ≠ inv j := by
  have : ∀ i j : Fin 13, i ≠ j → inv i.val ≠ inv j.val := by decide
  exact this ⟨i, h⟩ ⟨j, g⟩ (by simpa using n)

theorem named_at (g : Nat) (h : g < 13) : Tryz.prog.globalNamed (laid13[inv g]'(inv_lt g h)).1 = some g := by
  have : g = 0 ∨ g = 1 ∨ g = 2 ∨ g = 3 ∨ g = 4 ∨ g = 5 ∨ g = 6 ∨ g = 7 ∨ g = 8 ∨ g = 9 ∨ g = 10 ∨ g = 11 ∨ g = 12 := by omega
  rcases this with rfl | rfl | rfl | rfl | rfl | rfl | rfl | rfl | rfl | rfl | rfl | rfl | rfl
  · exact (show Tryz.prog.globalNamed "glyphic/api.ErrLimit" = some 0 by kernel_rfl)
  · exact (show Tryz.prog.globalNamed "glyphic/api.ErrRange" = some 1 by kernel_rfl)
  · exact (show Tryz.prog.globalNamed "glyphic/api.ErrCanon" = some 2 by kernel_rfl)
  · exact (show Tryz.prog.globalNamed "glyphic/api.ErrShort" = some 3 by kernel_rfl)
  · exact (show Tryz.prog.globalNamed "glyphic/api.ErrMagic" = some 4 by kernel_rfl)
  · exact (show Tryz.prog.globalNamed "glyphic/api.ErrTrail" = some 5 by kernel_rfl)
  · exact (show Tryz.prog.globalNamed "glyphic/api.ErrText" = some 6 by kernel_rfl)
  · exact (show Tryz.prog.globalNamed "glyphic/api.ErrName" = some 7 by kernel_rfl)
  · exact (show Tryz.prog.globalNamed "glyphic/api.ErrTwice" = some 8 by kernel_rfl)
  · exact (show Tryz.prog.globalNamed "glyphic/api.ErrPath" = some 9 by kernel_rfl)
  · exact (show Tryz.prog.globalNamed "glyphic/api.ErrVarint" = some 10 by kernel_rfl)
  · exact (show Tryz.prog.globalNamed "glyphic/api.ErrWidth" = some 11 by kernel_rfl)
  · exact (show Tryz.prog.globalNamed "glyphic/api.ErrBudget" = some 12 by kernel_rfl)

/-- What the condition gives the roads. -/
theorem errs_of_laid13 {W : World} (h : laidMetH Tryz.prog laid13 W) : ∃ A, Errs13 W A := by
  rw [MakeChecks.laidMetH_plain _ _ _ (by kernel_rfl)] at h
  obtain ⟨ps, hv, hnd, hrows⟩ := h
  obtain ⟨ads, h1, h2, h3, h4⟩ := laid_errs laid13 ps hv hnd hrows laid_all
  have hlen : ads.length = 13 := h1
  refine ⟨fun g => ads.getD (inv g) ⟨0, 0, none⟩, fun g hg => ?_⟩
  have hi := inv_lt g hg
  have hi' : inv g < ads.length := by omega
  have ea : ads.getD (inv g) ⟨0, 0, none⟩ = ads[inv g] := by simp [List.getD, hi']
  simp only [ea]
  have hc : W.cell? ⟨g, 0, none⟩ = some (.iface 173 (.pointer (some ads[inv g]))) := by
    simpa using World.var?_cell (named_at g hg) (h2 (inv g) hi hi') 0
  refine ⟨hc, World.block_lt_of_cell? W _ hc, (hrows _ _ (h3 _ (List.getElem_mem hi'))).1, fun j hj hne => ?_⟩
  have hj' : inv j < ads.length := by have := inv_lt j hj; omega
  have eb : ads.getD (inv j) ⟨0, 0, none⟩ = ads[inv j] := by simp [List.getD, hj']
  rw [eb]
  intro e
  have hp := List.pairwise_iff_getElem.1 h4
  rcases Nat.lt_or_gt_of_ne (inv_ne g j hg hj hne) with hl | hl
  · exact hp _ _ hi' hj' hl e
  · exact hp _ _ hj' hi' hl e.symm

/-! A road that meets the error of a wrong text alone. -/
def laid1 : List (String × DataW Unit) := [("glyphic/api.ErrText", Rows.laid_glyphic_api_ErrText)]

theorem door_met1 (os : Os) (args : Array Value) : laidMetH Tryz.prog laid1 ((World.doorLaid Tryz.prog 256 os).forCall (fun _ _ => 0) ⟨#[], args, []⟩).memory :=
  laidMetH_of_parts3 (fuel := 8) (laidMet_of_run' 8 (by kernel_rfl) (by kernel_rfl)) (by kernel_rfl) (by kernel_rfl)

def Errs1 (w : World) (A : Nat → Addr) : Prop := w.cell? ⟨6, 0, none⟩ = some (.iface 173 (.pointer (some (A 0)))) ∧ 6 < w.heap.size

theorem errs_of_laid1 {W : World} (h : laidMetH Tryz.prog laid1 W) : ∃ A, Errs1 W A := by
  rw [MakeChecks.laidMetH_plain _ _ _ (by kernel_rfl)] at h
  obtain ⟨ps, hv, hnd, hrows⟩ := h
  obtain ⟨ads, h1, h2, h3, h4⟩ := laid_errs laid1 ps hv hnd hrows (fun x hx => laid_all x (by simp only [laid1, List.mem_singleton] at hx; subst hx; simp [laid13]))
  have hlen : ads.length = 1 := h1
  have hc : W.cell? ⟨6, 0, none⟩ = some (.iface 173 (.pointer (some ads[0]))) := by
    simpa using World.var?_cell (show Tryz.prog.globalNamed "glyphic/api.ErrText" = some 6 by kernel_rfl) (h2 0 (by simp [laid1]) (by omega)) 0
  exact ⟨fun _ => ads[0], hc, World.block_lt_of_cell? W _ hc⟩

end Go.Proofs.YtcnlkdoifogkbaaGreatDoor

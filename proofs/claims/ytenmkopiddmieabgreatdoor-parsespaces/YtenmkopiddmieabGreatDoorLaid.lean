/-
  The program's own errors and tables, as its text lays them: what the tied cards' conditions give the roads, and that the program's own start meets them.
-/
import Derived.ProofKit
import Derived.LaidMore
import Derived.OpenShut
import Derived.Stop.Joined
import Derived.Stop.LaidErr
import Derived.ShutString
import Derived.ChangeOld
import Derived.Lay
import Derived.Lib.LaidTab
import Derived.Lib.ItoaNum
import Derived.Test.YtenmkopiddmieabGreatDoorJA
import Derived.Test.YtenmkopiddmieabGreatDoorRows
namespace Go.Proofs.YtenmkopiddmieabGreatDoor
open Go.ChangeShapes Go.WideShapes Go.ChangeAt Go.RowKit

theorem own : ownKnob Tryz.prog.godebug = none := by kernel_rfl
theorem laidOut : laidOutB Tryz.prog = true := by kernel_rfl

theorem star : "*" ++ "errors.errorString" = "*errors.errorString" := by decide
theorem rowPtr (u : TypeId) (h : Tryz.prog.typeName? 3 u = some "*errors.errorString") : u = 167 :=
  typeName_ptr_named (nm := "errors.errorString") (by rw [star]; kernel_rfl) (by kernel_rfl) (by decide) u (by rw [star]; exact h)
theorem cellsErr : Tryz.prog.cellsOf 182 = 1 := by kernel_rfl
theorem cellsStr : Tryz.prog.cellsOf 9 = 1 := by kernel_rfl

/-- A listed variable that is an error as errors.New makes it. -/
def ErrVar (x : String × DataW Unit) : Prop := ∃ text g, x.2 = .iface "*errors.errorString" (.ptr (.agg [.lit (.string text)])) ∧ Tryz.prog.globalNamed x.1 = some g ∧ (Tryz.prog.globals[g]?).map (·.type) = some 37

set_option maxRecDepth 20000 in
theorem laid_errs {W : World} : ∀ (L : List (String × DataW Unit)) (ps : List MemPlace), DataW.LaidVars Tryz.prog W L ps → ps.Nodup →
    (∀ b off, MemPlace.cell b off ∈ ps → (∃ c t, W.heap[b]? = some (.cells c t (0, 0))) ∧ ∀ u v, W.cell? ⟨b, off, none⟩ = some (.iface u v) → Value.okWide Tryz.prog W .any 0 u v) →
    (∀ x ∈ L, ErrVar x) →
    ∃ ads : List Addr, ads.length = L.length ∧ (∀ i (h : i < L.length) (h' : i < ads.length), W.var? Tryz.prog L[i].1 = some #[.iface 167 (.pointer (some ads[i]))]) ∧ (∀ a ∈ ads, MemPlace.cell a.block a.off ∈ ps) ∧ ads.Nodup := by
  intro L
  induction L with
  | nil => intro ps _ _ _ _; exact ⟨[], rfl, fun i h => absurd h (by simp), fun a h => absurd h (by simp), List.nodup_nil⟩
  | cons x r ih =>
    intro ps hv hnd hrows hE
    obtain ⟨n, d⟩ := x
    obtain ⟨text, g, hd, hg, ht⟩ := hE (n, d) (by simp)
    simp only at hd hg
    subst hd
    obtain ⟨g0, t0, cs0, f0, p0, q0, hg0, ht0, hv0, hd0, hq, rfl⟩ := hv
    obtain rfl := Option.some.inj (hg.symm.trans hg0)
    obtain rfl := Option.some.inj (ht.symm.trans ht0)
    obtain ⟨l0⟩ := cs0
    have ok0 : ∀ u v, l0 = [.iface u v] → Value.okWide Tryz.prog W .any 0 u v := fun u v e => by
      subst e
      exact (hrows g 0 (by simp [MemPlace.row])).2 u v (by simpa using World.var?_cell hg0 hv0 0)
    obtain ⟨a0, s0, rfl, hc0, hs0, hz0, rfl⟩ := errorString_of_trod Tryz.underlying37 rowPtr Tryz.underlying167 Tryz.underlying182 rfl rfl Tryz.underlying9 cellsErr cellsStr hd0 ok0
    have hsub := List.nodup_append.1 hnd
    obtain ⟨ads, h1, h2, h3, h4⟩ := ih q0 hq hsub.2.1 (fun b off hm => hrows b off (List.mem_append_right _ hm)) (fun x hx => hE x (by simp [hx]))
    refine ⟨a0 :: ads, by simp [h1], ?_, ?_, ?_⟩
    · intro i h h'
      match i with
      | 0 => exact hv0
      | i + 1 => exact h2 i (by simpa using h) (by simpa using h')
    · intro a ha
      rcases List.mem_cons.1 ha with rfl | ha
      · simp [MemPlace.row]
      · exact List.mem_append_right _ (h3 a ha)
    · refine List.nodup_cons.2 ⟨fun hm => ?_, h4⟩
      exact hsub.2.2 (MemPlace.cell a0.block a0.off) (by simp [MemPlace.row]) _ (h3 a0 hm) rfl

/-- Of what is laid any part, in its order. -/
theorem laidVars_sub {P : Program} {w : World} {L' L : List (String × DataW Unit)} (hs : L'.Sublist L) : ∀ ps, DataW.LaidVars P w L ps → ∃ ps', ps'.Sublist ps ∧ DataW.LaidVars P w L' ps' := by
  induction hs with
  | slnil => intro ps h; exact ⟨ps, List.Sublist.refl _, h⟩
  | cons x _ ih =>
    intro ps h
    obtain ⟨n, d⟩ := x
    obtain ⟨g, t, cs, fuel, p, q, h1, h2, h3, h4, hq, rfl⟩ := h
    obtain ⟨ps', s1, s2⟩ := ih q hq
    exact ⟨ps', s1.trans (List.sublist_append_right _ _), s2⟩
  | cons_cons x _ ih =>
    intro ps h
    obtain ⟨n, d⟩ := x
    obtain ⟨g, t, cs, fuel, p, q, h1, h2, h3, h4, hq, rfl⟩ := h
    obtain ⟨ps', s1, s2⟩ := ih q hq
    exact ⟨MemPlace.row ⟨g, 0, none⟩ cs.size ++ p ++ ps', List.Sublist.append (List.Sublist.refl _) s1, ⟨g, t, cs, fuel, p, ps', h1, h2, h3, h4, s2, rfl⟩⟩
theorem laidMet_sub {P : Program} {w : World} {L' L : List (String × DataW Unit)} (hs : L'.Sublist L) (h : laidMet P L w) : laidMet P L' w := by
  obtain ⟨ps, hv, hnd, hrows⟩ := h
  obtain ⟨ps', s1, s2⟩ := laidVars_sub hs ps hv
  exact ⟨ps', s2, List.Nodup.sublist s1 hnd, fun b off hm => hrows b off (s1.subset hm)⟩

/-- What the condition gives the roads: the errors of some codes. -/
theorem errsL_of {W : World} (C : List Nat) (R : List (String × DataW Unit)) (pos : Nat → Nat) (hR : ∀ x ∈ R, ErrVar x) (hpos : ∀ i ∈ C, ∃ h : pos i < R.length, Tryz.prog.globalNamed R[pos i].1 = some (glob i))
    (hinj : ∀ i ∈ C, ∀ j ∈ C, i ≠ j → pos i ≠ pos j) (h : laidMet Tryz.prog R W) : ∃ A, ErrsL C W A := by
  obtain ⟨ps, hv, hnd, hrows⟩ := h
  obtain ⟨ads, h1, h2, h3, h4⟩ := laid_errs R ps hv hnd hrows hR
  refine ⟨fun g => ads.getD (pos g) ⟨0, 0, none⟩, fun g hg => ?_⟩
  obtain ⟨hi, hn⟩ := hpos g hg
  have hi' : pos g < ads.length := by omega
  have ea : ads.getD (pos g) ⟨0, 0, none⟩ = ads[pos g] := by simp [List.getD, hi']
  simp only [ea]
  have hc : W.cell? ⟨glob g, 0, none⟩ = some (.iface 167 (.pointer (some ads[pos g]))) := by
    simpa using World.var?_cell hn (h2 (pos g) hi hi') 0
  refine ⟨hc, World.block_lt_of_cell? W _ hc, (hrows _ _ (h3 _ (List.getElem_mem hi'))).1, fun j hj hne => ?_⟩
  obtain ⟨hj0, _⟩ := hpos j hj
  have hj' : pos j < ads.length := by omega
  have eb : ads.getD (pos j) ⟨0, 0, none⟩ = ads[pos j] := by simp [List.getD, hj']
  rw [eb]
  intro e
  have hp := List.pairwise_iff_getElem.1 h4
  rcases Nat.lt_or_gt_of_ne (hinj g hg j hj hne) with hl | hl
  · exact hp _ _ hi' hj' hl e
  · exact hp _ _ hj' hi' hl e.symm

/-! Rows: parseSpaces. -/
def laid5 : List (String × DataW Unit) := [("math/bits.deBruijn32tab", Rows.laid_math_bits_deBruijn32tab), ("math/bits.deBruijn64tab", Rows.laid_math_bits_deBruijn64tab), ("internal/strconv.uint64pow10", Rows.laid_internal_strconv_uint64pow10), ("glyphic/api.ErrText", Rows.laid_glyphic_api_ErrText), ("glyphic/api.ErrLimit", Rows.laid_glyphic_api_ErrLimit)]
def errs5 : List (String × DataW Unit) := [("glyphic/api.ErrText", Rows.laid_glyphic_api_ErrText), ("glyphic/api.ErrLimit", Rows.laid_glyphic_api_ErrLimit)]
theorem door_met5 (os : Os) (args : Array Value) : laidMetH Tryz.prog laid5 ((World.laidAll Tryz.prog os laid5).forCall (fun _ _ => 0) ⟨#[], args, []⟩).memory := by
  rw [MakeChecks.laidMetH_plain _ _ _ (by kernel_rfl)]
  exact laidMet_laidAll _ (by kernel_rfl) (by kernel_rfl)
theorem sub5 : errs5.Sublist laid5 := List.Sublist.cons _ (List.Sublist.cons _ (List.Sublist.cons _ (List.Sublist.cons_cons _ (List.Sublist.cons_cons _ (List.Sublist.slnil)))))
theorem vars5 : ∀ x ∈ errs5, ErrVar x := by
  intro x hx
  simp only [errs5, List.mem_cons, List.not_mem_nil, or_false] at hx
  rcases hx with rfl | rfl
  · exact ⟨_, 1, rfl, by kernel_rfl, by kernel_rfl⟩
  · exact ⟨_, 0, rfl, by kernel_rfl, by kernel_rfl⟩
def Errs5 (w : World) (A : Nat → Addr) : Prop := ErrsL [0, 5] w A ∧ Lib.TabIs Tryz.prog w "internal/strconv.uint64pow10" .u64 Lib.pow10Tab
theorem posAt5 : ∀ i ∈ [0, 5], ∃ h : [0, 0, 0, 0, 0, 1, 0, 0, 0, 0, 0, 0, 0].getD i 0 < errs5.length, Tryz.prog.globalNamed errs5[[0, 0, 0, 0, 0, 1, 0, 0, 0, 0, 0, 0, 0].getD i 0].1 = some (glob i) := by
  intro i hi
  simp only [List.mem_cons, List.not_mem_nil, or_false] at hi
  rcases hi with rfl | rfl
  · exact ⟨by decide, (show Tryz.prog.globalNamed "glyphic/api.ErrText" = some 1 by kernel_rfl)⟩
  · exact ⟨by decide, (show Tryz.prog.globalNamed "glyphic/api.ErrLimit" = some 0 by kernel_rfl)⟩
theorem posNe5 : ∀ i ∈ [0, 5], ∀ j ∈ [0, 5], i ≠ j → [0, 0, 0, 0, 0, 1, 0, 0, 0, 0, 0, 0, 0].getD i 0 ≠ [0, 0, 0, 0, 0, 1, 0, 0, 0, 0, 0, 0, 0].getD j 0 := by decide
theorem errs_of_laid5 {W : World} (h : laidMetH Tryz.prog laid5 W) : ∃ A, Errs5 W A := by
  rw [MakeChecks.laidMetH_plain _ _ _ (by kernel_rfl)] at h
  obtain ⟨A, hA⟩ := errsL_of [0, 5] errs5 _ vars5 posAt5 posNe5 (laidMet_sub sub5 h)
  have ht : laidMet Tryz.prog [("internal/strconv.uint64pow10", Lib.tabData .u64 Lib.pow10Tab)] W := by
    have := laidMet_sub (L' := [("internal/strconv.uint64pow10", Rows.laid_internal_strconv_uint64pow10)]) (List.Sublist.cons _ (List.Sublist.cons _ (List.Sublist.cons_cons _ (List.nil_sublist _)))) h
    exact this
  exact ⟨A, hA, Lib.tabIs_of_head (g := 2) (by kernel_rfl) (by kernel_rfl) Tryz.underlying137 Tryz.underlying121 (by kernel_rfl) (by kernel_rfl) ht⟩

end Go.Proofs.YtenmkopiddmieabGreatDoor

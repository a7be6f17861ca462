/-
  P5.1, P5.2, IconFar: for every list of numbers, every number and each of the two answers the call returns true and leaves its arguments as they were: as far as the greatest coordinate a point may be, one step farther not. Condition: the errors of package api hold what the text of the program lays (tied).
-/
import Derived.Test.YtofmbedjbnbjlabDoorRows
import Derived.Test.YtofmbedjbnbjlabDoorTie
import Derived.Test.YtofmbedjbnbjlabDoorCards
import Derived.SevenTiedAt
import Derived.WalkKit
import Derived.ProofKit
import Derived.OpenShut
import Derived.Carry
import Derived.Lib.SmallJoins
import Derived.ChangeMaps5
import Derived.Test.YtofmbedjbnbjlabDoorErrLaid
import Derived.Test.YtofmbedjbnbjlabDoorFarW0
import Derived.Test.YtofmbedjbnbjlabDoorFarW1
import Derived.Test.YtofmbedjbnbjlabDoorFarW2
import Derived.Test.YtofmbedjbnbjlabDoorFarW3
import Derived.Test.YtofmbedjbnbjlabDoorFarW4
import Derived.Test.YtofmbedjbnbjlabDoorFarW5
import Derived.Test.YtofmbedjbnbjlabDoorFarW6
import Derived.Test.YtofmbedjbnbjlabDoorFarW7
namespace Go.Proofs.YtofmbedjbnbjlabDoor.iconFar
open Go.ChangeShapes Go.WideShapes Go.ChangeAt Go.RowKit Go.Joins
open Go.ChangeMaps (open_string shut_string)
set_option linter.unusedVariables false

theorem tmod_four (x : Int) : (-4 < x.tmod 4 ∧ x.tmod 4 < 4) ∧ ((x.tmod 4 + 4).tmod 4 = 0 ∨ (x.tmod 4 + 4).tmod 4 = 1 ∨ (x.tmod 4 + 4).tmod 4 = 2 ∨ (x.tmod 4 + 4).tmod 4 = 3) := by
  have h : -4 < x.tmod 4 ∧ x.tmod 4 < 4 := by
    rcases Int.le_total 0 x with h | h
    · rw [Int.tmod_eq_emod_of_nonneg h]; omega
    · have e : x.tmod 4 = -((-x).tmod 4) := by rw [Int.neg_tmod]; omega
      rw [e, Int.tmod_eq_emod_of_nonneg (by omega)]; omega
  refine ⟨h, ?_⟩
  rw [Int.tmod_eq_emod_of_nonneg (by omega)]
  omega

/-! The walk: the statement's text returns true, and writes nothing that was there. -/
theorem walk (a0 : Option Addr) (len0 cap0 : Nat) (z0 : List Int) (a1 : Int) (a2 : Bool) (w : World) (w0 : IsRow .i64 w a0 len0 cap0 z0) (w1 : (Lit.int .i64 a1).wf = true) (A : Nat → Addr) (hE : Errs13 w A) :
    Calls Tryd.prog 3 #[.slice a0 len0 cap0, .int .i64 a1, .bool a2] w fun e w' => e = .returned (.bool true) ∧ Below w.heap.size w w' := by
  have hc : len0 ≤ 9223372036854775807 := by
    rcases w0 with ⟨-, h, -, -⟩ | ⟨x, -, h1, h2, -⟩
    · omega
    · unfold maxLen at h2; omega
  by_cases hl : 200 < len0
  · exact far_long A a0 len0 cap0 a1 a2 w hE hl hc
  · have hl' : len0 ≤ 200 := by omega
    obtain ⟨t, e⟩ := tmod_four a1
    cases a2
    · rcases e with e | e | e | e
      · exact far_0_false A a0 len0 cap0 z0 a1 w hE hl' w0 e t
      · exact far_1_false A a0 len0 cap0 z0 a1 w hE hl' w0 e t
      · exact far_2_false A a0 len0 cap0 z0 a1 w hE hl' w0 e t
      · exact far_3_false A a0 len0 cap0 z0 a1 w hE hl' w0 e t
    · rcases e with e | e | e | e
      · exact far_0_true A a0 len0 cap0 z0 a1 w hE hl' w0 e t
      · exact far_1_true A a0 len0 cap0 z0 a1 w hE hl' w0 e t
      · exact far_2_true A a0 len0 cap0 z0 a1 w hE hl' w0 e t
      · exact far_3_true A a0 len0 cap0 z0 a1 w hE hl' w0 e t

/-! The row's step. -/
set_option maxRecDepth 100000 in
theorem lifted (os : Os) (started : os.Started) (H : Type) (enc : TypeId × Value → H) :
    ReturnsInHanded {} Tryd.checked os 3 .any (fun w args => (Rows.iconFarSpec.pre enc Tryd.prog Tryd.f3 [] false w args ∧ laidMetH Tryd.prog laid13 w) ∧ sizedMet enc Tryd.prog Tryd.f3 (OpenSpec.ofChange Rows.iconFarSpec) false w args)
      (Rows.iconFarSpec.post enc Tryd.prog Tryd.f3 false true false false) := by
  refine returnsInHanded_of_change_and (C := Tryd.checked) (X := fun w _ => laidMetH Tryd.prog laid13 w) (fun _ _ _ hh h => h.of_heap hh) own started (by kernel_rfl) Tryd.func3
    (ChangeSpec.witness_shaped (enc := enc) (C := Tryd.checked) (os := os) (X := fun w _ => laidMetH Tryd.prog laid13 w) false (World.doorLaid Tryd.prog 256 os) #[.slice none 0 0, .int .i64 0, .bool false] 8 rfl (World.shaped_of_RefB (by kernel_rfl) (by kernel_rfl)) (by kernel_rfl) (by kernel_rfl) (by kernel_rfl) (door_met13 os _)) ?_
  intro W base args ds gs before hval0 hW _ _ hL _
  have hval : ∀ (j : Nat) t v, Tryd.f3.params[j]? = some t → args[j]? = some v → Value.okWide Tryd.prog W .any base t v := hval0
  have hW' := hW
  obtain ⟨p, q, hA0, hV, rfl, hfz, hnd⟩ := hW
  have hA : DataW.TrodAll enc Tryd.prog W 0 (fun _ => true) true Tryd.f3.params.toList args.toList ds p := hA0
  rw [Tryd.params3] at hA hval
  obtain ⟨v0, vs0, d0, ds0, p0, q0, hargs, rfl, rfl, h0, r0⟩ := trodAll_cons hA
  obtain ⟨v1, vs1, d1, ds1, p1, q1, rfl, rfl, rfl, h1, r1⟩ := trodAll_cons r0
  obtain ⟨v2, vs2, d2, ds2, p2, q2, rfl, rfl, rfl, h2, r2⟩ := trodAll_cons r1
  obtain ⟨rfl, rfl, rfl⟩ := trodAll_nil r2
  obtain rfl : args = #[v0, v1, v2] := by cases args; simp_all
  obtain ⟨rfl, rfl⟩ := trodVars_none hV
  obtain ⟨a0, len0, cap0, rfl⟩ := okWide_slice Tryd.underlying22 (hval 0 22 v0 rfl rfl)
  have k0 := h0
  have lt0 : ∀ x ∈ p0, x.block < W.heap.size := by obtain ⟨m, hm⟩ := k0; exact DataW.trod_lt m _ _ _ hm
  obtain ⟨z0, w0⟩ : ∃ zs, IsRow .i64 W a0 len0 cap0 zs := by
    obtain ⟨fuel, hf⟩ := h0
    rcases open_ints Tryd.underlying22 Tryd.underlying3 (by kernel_rfl) hf with ⟨hcs, _⟩ | ⟨x, l, c, zs, hcs, _, hl, hm, hz, _, hcell, hwz⟩
    · simp [Value.cells] at hcs
      obtain ⟨rfl, rfl, rfl⟩ := hcs
      exact ⟨[], .inl ⟨rfl, rfl, rfl, rfl⟩⟩
    · simp [Value.cells] at hcs
      obtain ⟨rfl, rfl, rfl⟩ := hcs
      exact ⟨zs, .inr ⟨_, rfl, hl, hm, by simpa using hz, hcell, hwz⟩⟩
  obtain ⟨a1, rfl, rfl, rfl, w1⟩ := open_int Tryd.underlying3 (hval 1 3 v1 rfl rfl) h1
  obtain ⟨a2, rfl, rfl, rfl⟩ := open_bool Tryd.underlying4 (hval 2 4 v2 rfl rfl) h2
  clear hA0 hval0
  obtain ⟨A, hE⟩ := errs_of_laid13 hL
  refine (walk a0 len0 cap0 z0 a1 a2 W w0 w1 A hE).mono fun e W' ⟨he, bel⟩ => ?_
  subst he
  exact ⟨_, rfl, _, _, _, [], _, [], hW', trodAll_mk1 (shut_bool Tryd.underlying4 _), (trodAll_cons_mk (Below.trod laidOut (by kernel_rfl) (of_decide_eq_true (by kernel_rfl)) k0 bel lt0) (trodAll_cons_mk (shut_int Tryd.underlying3 w1) (trodAll_cons_mk (shut_bool Tryd.underlying4 _) trodAll_mk0))), rfl, bel.frame _, fun h => by cases h⟩

theorem over : Rows.iconFarRow.holds Tryd.pinned (OpenSpec.ofChange Rows.iconFarSpec) :=
  OpenClaim.holds_of_wide 3 Tryd.f3 rfl rfl rfl rfl rfl rfl rfl ⟨rfl, rfl, rfl, rfl, rfl⟩ rfl rfl rfl rfl rfl (by kernel_rfl) Tryd.func3 (by kernel_rfl)
    (of_decide_eq_true (by kernel_rfl)) (by unfold Func.isWrapper; first | (rw [if_pos (by decide +kernel)]; kernel_rfl) | (rw [if_neg (by decide +kernel)]; exact ⟨rfl, rfl⟩))
    (fun os started H enc _ => lifted os started H enc)

end Go.Proofs.YtofmbedjbnbjlabDoor.iconFar
namespace Go.Proofs.YtofmbedjbnbjlabDoor
open Go
theorem iconFar_holds : Rows.IconFarCardSaid :=
  Claim7.holds_tied_plain_at .later [] [.sentinel, .sentinel, .sentinel, .sentinel, .sentinel, .sentinel, .sentinel, .sentinel, .sentinel, .sentinel, .sentinel, .sentinel, .sentinel] true (true, "d1d6572edbace5246985c96e6add02195dd435653e821851b5916c0557b04a6c") true
    iconFar.over (fun _ h => by cases h) (by kernel_rfl) (fun _ h => by cases h) iconFar_row_tie rfl ⟨rfl, rfl⟩ (by kernel_rfl) rfl
    (fun f fn hf hfn => by
      obtain rfl : f = 3 := Option.some.inj ((show Tryd.prog.funcNamed "glyphic/glyphiclaw5.IconFar" = some 3 by kernel_rfl).symm.trans hf) |>.symm
      obtain rfl : fn = Tryd.f3 := (Option.some.inj (Tryd.func3.symm.trans hfn)).symm
      exact ⟨by kernel_rfl, fun j t ht => by
        rw [Tryd.params3] at ht
        have hm : t ∈ [22, 3, 4] := by simpa using Array.mem_of_getElem? ht
        have hall : ([22, 3, 4].all fun u => !Tryd.prog.wantsStandIn u) = true := by kernel_rfl
        exact (show Tryd.prog.wantsStandIn t = false by simpa using List.all_eq_true.1 hall t hm)⟩)
    (by kernel_rfl)
#print axioms iconFar_holds
end Go.Proofs.YtofmbedjbnbjlabDoor

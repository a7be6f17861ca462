/-
  P5.2, IconErrors: for every list of numbers and every number the call returns true and leaves its arguments as they were: what cannot be of an icon is told, by its error. Condition: the errors of package api hold what the text of the program lays (tied).
-/
import Derived.Test.YtofmbedjbnbjlaaDoorRows
import Derived.Test.YtofmbedjbnbjlaaDoorTie
import Derived.Test.YtofmbedjbnbjlaaDoorCards
import Derived.SevenTiedAt
import Derived.WalkKit
import Derived.ProofKit
import Derived.OpenShut
import Derived.Carry
import Derived.Lib.SmallJoins
import Derived.ChangeMaps5
import Derived.Test.YtofmbedjbnbjlaaDoorErrLaid
import Derived.Test.YtofmbedjbnbjlaaDoorIconErrW1
import Derived.Test.YtofmbedjbnbjlaaDoorIconErrW2
import Derived.Test.YtofmbedjbnbjlaaDoorIconErrW3
import Derived.Test.YtofmbedjbnbjlaaDoorIconErrW4
import Derived.Test.YtofmbedjbnbjlaaDoorIconErrW5
import Derived.Test.YtofmbedjbnbjlaaDoorIconErrW6
import Derived.Test.YtofmbedjbnbjlaaDoorIconErrW7
import Derived.Test.YtofmbedjbnbjlaaDoorIconErrW8
namespace Go.Proofs.YtofmbedjbnbjlaaDoor.iconErrors
open Go.ChangeShapes Go.WideShapes Go.ChangeAt Go.RowKit Go.Joins
open Go.ChangeMaps (open_string shut_string)
set_option linter.unusedVariables false

theorem tmod_18 (x : Int) : (-18 < x.tmod 18 ∧ x.tmod 18 < 18) ∧ (0 ≤ (x.tmod 18 + 18).tmod 18 ∧ (x.tmod 18 + 18).tmod 18 < 18) := by
  have h : -18 < x.tmod 18 ∧ x.tmod 18 < 18 := by
    rcases Int.le_total 0 x with h | h
    · rw [Int.tmod_eq_emod_of_nonneg h]; omega
    · have e : x.tmod 18 = -((-x).tmod 18) := by rw [Int.neg_tmod]; omega
      rw [e, Int.tmod_eq_emod_of_nonneg (by omega)]; omega
  refine ⟨h, ?_⟩
  rw [Int.tmod_eq_emod_of_nonneg (by omega)]
  omega

/-! The walk: the statement's text returns true, and writes nothing that was there. -/
theorem walk (a0 : Option Addr) (len0 cap0 : Nat) (z0 : List Int) (a1 : Int) (w : World) (w0 : IsRow .i64 w a0 len0 cap0 z0) (w1 : (Lit.int .i64 a1).wf = true) (A : Nat → Addr) (hE : Errs13 w A) :
    Calls Tryd.prog 8 #[.slice a0 len0 cap0, .int .i64 a1] w fun e w' => e = .returned (.bool true) ∧ Below w.heap.size w w' := by
  have hc : len0 ≤ 9223372036854775807 := by
    rcases w0 with ⟨-, h, -, -⟩ | ⟨x, -, h1, h2, -⟩
    · omega
    · unfold maxLen at h2; omega
  by_cases hl : 200 < len0
  · exact errors_long A a0 len0 cap0 a1 w hE hl hc
  · have hl' : len0 ≤ 200 := by omega
    obtain ⟨t, e0, e1⟩ := tmod_18 a1
    have e : (a1.tmod 18 + 18).tmod 18 = 0 ∨ (a1.tmod 18 + 18).tmod 18 = 1 ∨ (a1.tmod 18 + 18).tmod 18 = 2 ∨ (a1.tmod 18 + 18).tmod 18 = 3 ∨ (a1.tmod 18 + 18).tmod 18 = 4 ∨ (a1.tmod 18 + 18).tmod 18 = 5 ∨ (a1.tmod 18 + 18).tmod 18 = 6 ∨ (a1.tmod 18 + 18).tmod 18 = 7 ∨ (a1.tmod 18 + 18).tmod 18 = 8 ∨ (a1.tmod 18 + 18).tmod 18 = 9 ∨ (a1.tmod 18 + 18).tmod 18 = 10 ∨ (a1.tmod 18 + 18).tmod 18 = 11 ∨ (a1.tmod 18 + 18).tmod 18 = 12 ∨ (a1.tmod 18 + 18).tmod 18 = 13 ∨ (a1.tmod 18 + 18).tmod 18 = 14 ∨ (a1.tmod 18 + 18).tmod 18 = 15 ∨ (a1.tmod 18 + 18).tmod 18 = 16 ∨ (a1.tmod 18 + 18).tmod 18 = 17 := by omega
    rcases e with e | e | e | e | e | e | e | e | e | e | e | e | e | e | e | e | e | e
    · exact errors_0 A a0 len0 cap0 z0 a1 w hE hl' w0 e t
    · exact errors_1 A a0 len0 cap0 z0 a1 w hE hl' w0 e t
    · exact errors_2 A a0 len0 cap0 z0 a1 w hE hl' w0 e t
    · exact errors_3 A a0 len0 cap0 z0 a1 w hE hl' w0 e t
    · exact errors_4 A a0 len0 cap0 z0 a1 w hE hl' w0 e t
    · exact errors_5 A a0 len0 cap0 z0 a1 w hE hl' w0 e t
    · exact errors_6 A a0 len0 cap0 z0 a1 w hE hl' w0 e t
    · exact errors_7 A a0 len0 cap0 z0 a1 w hE hl' w0 e t
    · exact errors_8 A a0 len0 cap0 z0 a1 w hE hl' w0 e t
    · exact errors_9 A a0 len0 cap0 z0 a1 w hE hl' w0 e t
    · exact errors_10 A a0 len0 cap0 z0 a1 w hE hl' w0 e t
    · exact errors_11 A a0 len0 cap0 z0 a1 w hE hl' w0 e t
    · exact errors_12 A a0 len0 cap0 z0 a1 w hE hl' w0 e t
    · exact errors_13 A a0 len0 cap0 z0 a1 w hE hl' w0 e t
    · exact errors_14 A a0 len0 cap0 z0 a1 w hE hl' w0 e t
    · exact errors_15 A a0 len0 cap0 z0 a1 w hE hl' w0 e t
    · exact errors_16 A a0 len0 cap0 z0 a1 w hE hl' w0 e t
    · exact errors_17 A a0 len0 cap0 z0 a1 w hE hl' w0 e t

/-! The row's step. -/
set_option maxRecDepth 100000 in
theorem lifted (os : Os) (started : os.Started) (H : Type) (enc : TypeId × Value → H) :
    ReturnsInHanded {} Tryd.checked os 8 .any (fun w args => (Rows.iconErrorsSpec.pre enc Tryd.prog Tryd.f8 [] false w args ∧ laidMetH Tryd.prog laid13 w) ∧ sizedMet enc Tryd.prog Tryd.f8 (OpenSpec.ofChange Rows.iconErrorsSpec) false w args)
      (Rows.iconErrorsSpec.post enc Tryd.prog Tryd.f8 false true false false) := by
  refine returnsInHanded_of_change_and (C := Tryd.checked) (X := fun w _ => laidMetH Tryd.prog laid13 w) (fun _ _ _ hh h => h.of_heap hh) own started (by kernel_rfl) Tryd.func8
    (ChangeSpec.witness_shaped (enc := enc) (C := Tryd.checked) (os := os) (X := fun w _ => laidMetH Tryd.prog laid13 w) false (World.doorLaid Tryd.prog 256 os) #[.slice none 0 0, .int .i64 0] 8 rfl (World.shaped_of_RefB (by kernel_rfl) (by kernel_rfl)) (by kernel_rfl) (by kernel_rfl) (by kernel_rfl) (door_met13 os _)) ?_
  intro W base args ds gs before hval0 hW _ _ hL _
  have hval : ∀ (j : Nat) t v, Tryd.f8.params[j]? = some t → args[j]? = some v → Value.okWide Tryd.prog W .any base t v := hval0
  have hW' := hW
  obtain ⟨p, q, hA0, hV, rfl, hfz, hnd⟩ := hW
  have hA : DataW.TrodAll enc Tryd.prog W 0 (fun _ => true) true Tryd.f8.params.toList args.toList ds p := hA0
  rw [Tryd.params8] at hA hval
  obtain ⟨v0, vs0, d0, ds0, p0, q0, hargs, rfl, rfl, h0, r0⟩ := trodAll_cons hA
  obtain ⟨v1, vs1, d1, ds1, p1, q1, rfl, rfl, rfl, h1, r1⟩ := trodAll_cons r0
  obtain ⟨rfl, rfl, rfl⟩ := trodAll_nil r1
  obtain rfl : args = #[v0, v1] := by cases args; simp_all
  obtain ⟨rfl, rfl⟩ := trodVars_none hV
  obtain ⟨a0, len0, cap0, rfl⟩ := okWide_slice Tryd.underlying22 (hval 0 22 v0 rfl rfl)
  have k0 := h0
  have lt0 : ∀ x ∈ p0, x.block < W.heap.size := by obtain ⟨m, hm⟩ := k0; exact DataW.trod_lt m _ _ _ hm
  obtain ⟨z0, w0⟩ : ∃ zs, IsRow .i64 W a0 len0 cap0 zs := by
    obtain ⟨fuel, hf⟩ := h0
    rcases open_ints Tryd.underlying22 Tryd.underlying3 (by kernel_rfl) hf with ⟨hcs, _⟩ | ⟨x, l, c, zs, hcs, _, hl, hm, hz, _, hcell, hwz⟩
    · simp [Value.cells] at hcs
      obtain ⟨rfl, rfl, rfl⟩ := hcs
      exact ⟨[], .inl ⟨rfl, rfl, rfl, rfl⟩⟩
    · simp [Value.cells] at hcs
      obtain ⟨rfl, rfl, rfl⟩ := hcs
      exact ⟨zs, .inr ⟨_, rfl, hl, hm, by simpa using hz, hcell, hwz⟩⟩
  obtain ⟨a1, rfl, rfl, rfl, w1⟩ := open_int Tryd.underlying3 (hval 1 3 v1 rfl rfl) h1
  clear hA0 hval0
  obtain ⟨A, hE⟩ := errs_of_laid13 hL
  refine (walk a0 len0 cap0 z0 a1 W w0 w1 A hE).mono fun e W' ⟨he, bel⟩ => ?_
  subst he
  exact ⟨_, rfl, _, _, _, [], _, [], hW', trodAll_mk1 (shut_bool Tryd.underlying4 _), (trodAll_cons_mk (Below.trod laidOut (by kernel_rfl) (of_decide_eq_true (by kernel_rfl)) k0 bel lt0) (trodAll_cons_mk (shut_int Tryd.underlying3 w1) trodAll_mk0)), rfl, bel.frame _, fun h => by cases h⟩

theorem over : Rows.iconErrorsRow.holds Tryd.pinned (OpenSpec.ofChange Rows.iconErrorsSpec) :=
  OpenClaim.holds_of_wide 8 Tryd.f8 rfl rfl rfl rfl rfl rfl rfl ⟨rfl, rfl, rfl, rfl, rfl⟩ rfl rfl rfl rfl rfl (by kernel_rfl) Tryd.func8 (by kernel_rfl)
    (of_decide_eq_true (by kernel_rfl)) (by unfold Func.isWrapper; first | (rw [if_pos (by decide +kernel)]; kernel_rfl) | (rw [if_neg (by decide +kernel)]; exact ⟨rfl, rfl⟩))
    (fun os started H enc _ => lifted os started H enc)

end Go.Proofs.YtofmbedjbnbjlaaDoor.iconErrors
namespace Go.Proofs.YtofmbedjbnbjlaaDoor
open Go
theorem iconErrors_holds : Rows.IconErrorsCardSaid :=
  Claim7.holds_tied_plain_at .later [] [.sentinel, .sentinel, .sentinel, .sentinel, .sentinel, .sentinel, .sentinel, .sentinel, .sentinel, .sentinel, .sentinel, .sentinel, .sentinel] true (true, "365999b51a82970cf0122191dac4f021e004cd729fda50060bae0eb2061fc515") true
    iconErrors.over (fun _ h => by cases h) (by kernel_rfl) (fun _ h => by cases h) iconErrors_row_tie rfl ⟨rfl, rfl⟩ (by kernel_rfl) rfl
    (fun f fn hf hfn => by
      obtain rfl : f = 8 := Option.some.inj ((show Tryd.prog.funcNamed "glyphic/glyphiclaw5.IconErrors" = some 8 by kernel_rfl).symm.trans hf) |>.symm
      obtain rfl : fn = Tryd.f8 := (Option.some.inj (Tryd.func8.symm.trans hfn)).symm
      exact ⟨by kernel_rfl, fun j t ht => by
        rw [Tryd.params8] at ht
        have hm : t ∈ [22, 3] := by simpa using Array.mem_of_getElem? ht
        have hall : ([22, 3].all fun u => !Tryd.prog.wantsStandIn u) = true := by kernel_rfl
        exact (show Tryd.prog.wantsStandIn t = false by simpa using List.all_eq_true.1 hall t hm)⟩)
    (by kernel_rfl)
#print axioms iconErrors_holds
end Go.Proofs.YtofmbedjbnbjlaaDoor

/-
  The statement FixedScales of layer 1 is proved for every three numbers, with no condition: a product over the one is the other, over a third it is the nearest where nothing is beyond, and what is beyond is told.
-/
import Derived.Test.YtehlehcbjoideaaRows
import Derived.WalkKit
import Derived.ProofKit
import Derived.OpenShut
import Derived.Test.YtehlehcbjoideaaMulDiv
import Derived.Test.YtehlehcbjoideaaMore
import Derived.Sort.AtCall
namespace Go.Proofs.Ytehlehcbjoideaa.fixedScales
open Go.ChangeShapes Go.WideShapes Go.ChangeAt Go.RowKit
set_option linter.unusedVariables false      -- a walk need not use every 'w<i>' (that an integer argument fits its kind)

theorem own : ownKnob Try.prog.godebug = none := by kernel_rfl

theorem prod_bound (A B : Int) (A0 : -2147483648 ≤ A) (A1 : A ≤ 2147483647) (B0 : -1073741824 ≤ B) (B1 : B ≤ 1073741823) :
    -2305843009213693952 ≤ A * B ∧ A * B ≤ 2305843009213693952 := by
  have e : (A * B).natAbs ≤ 2147483648 * 1073741824 := by rw [Int.natAbs_mul]; exact Nat.mul_le_mul (by omega) (by omega)
  omega

set_option maxHeartbeats 2000000 in
theorem scales_at (a b c : Int) (w : World) (ba : -9223372036854775808 ≤ a ∧ a ≤ 9223372036854775807) (bb : -9223372036854775808 ≤ b ∧ b ≤ 9223372036854775807) (bc : -9223372036854775808 ≤ c ∧ c ≤ 9223372036854775807)
    (A : Int) (hA : a / 4294967296 = A) (B : Int) (hB : b / 8589934592 = B) (C' : Int) (hC' : c / 4 = C') (C : Int) (hC : (if C' < 1 then 1 - C' else C') = C) :
    Calls Try.prog 6 #[.int .i64 a, .int .i64 b, .int .i64 c] w fun e w' => e = .returned (.bool true) ∧ Grown w w' := by
  have A0 : -2147483648 ≤ A := by omega
  have A1 : A ≤ 2147483647 := by omega
  have B0 : -1073741824 ≤ B := by omega
  have B1 : B ≤ 1073741823 := by omega
  have C0 : 1 ≤ C := by split at hC <;> omega
  have C1 : C ≤ 2305843009213693953 := by split at hC <;> omega
  have pb := prod_bound A B A0 A1 B0 B1
  have rb := Plain.rnd_within (A * B) C 2305843009213693952 C0 (by omega) (by omega) (by omega)
  obtain ⟨X, hX⟩ : ∃ X, Plain.rnd (A * B) C = X := ⟨_, rfl⟩
  rw [hX] at rb
  have k1 : Hid (∀ w, Calls Try.prog 10 #[.int .i64 A, .int .i64 B, .int .i64 C] w fun e w' => e = .returned (.tuple #[.int .i64 X, .bool true]) ∧ ∃ n, w' = w.drewN n) :=
    fun w => mulDiv_yes A B C w (by omega) (by omega) (by omega) (by omega) C0 (by omega) X hX (by omega) (by omega)
  have k2 : Hid (∀ w, Calls Try.prog 10 #[.int .i64 A, .int .i64 C, .int .i64 C] w fun e w' => e = .returned (.tuple #[.int .i64 A, .bool true]) ∧ ∃ n, w' = w.drewN n) :=
    fun w => mulDiv_yes A C C w (by omega) (by omega) (by omega) (by omega) C0 (by omega) A (Plain.rnd_mul A C C0) (by omega) (by omega)
  have k3 : Hid (∀ w, Calls Try.prog 10 #[.int .i64 4611686018427387904, .int .i64 4, .int .i64 1] w fun e w' => e = .returned (.tuple #[.int .i64 0, .bool false]) ∧ ∃ n, w' = w.drewN n) :=
    fun w => mulDiv_no _ _ _ w (by omega) (by omega) (by omega) (by omega) (by omega) (by omega) (by decide)
  have k4 : Hid (∀ w, Calls Try.prog 10 #[.int .i64 4611686018427387904, .int .i64 4, .int .i64 1152921504606846976] w fun e w' => e = .returned (.tuple #[.int .i64 16, .bool true]) ∧ ∃ n, w' = w.drewN n) :=
    fun w => mulDiv_yes _ _ _ w (by omega) (by omega) (by omega) (by omega) (by omega) (by omega) 16 (by decide) (by omega) (by omega)
  have k5 : Hid (∀ w, Calls Try.prog 10 #[.int .i64 (-9223372036854775808), .int .i64 1, .int .i64 1] w fun e w' => e = .returned (.tuple #[.int .i64 (-9223372036854775808), .bool true]) ∧ ∃ n, w' = w.drewN n) :=
    fun w => mulDiv_yes _ _ _ w (by omega) (by omega) (by omega) (by omega) (by omega) (by omega) _ (by decide) (by omega) (by omega)
  obtain ⟨P, hP⟩ : ∃ P, A * B = P := ⟨_, rfl⟩
  rw [hP] at pb hX
  have k6 : Hid (∀ w, Calls Try.prog 12 #[.int .i64 P, .int .i64 C] w fun e w' => e = .returned (.int .i64 X) ∧ ∃ n, w' = w.drewN n) := by
    intro w; have := round_any P C w C0 (by omega) (by omega) (by omega); rw [hX] at this; exact this
  clear hX
  by_cases c1 : C' < 1
  · rw [if_pos c1] at hC
    go_enter Try.func6, Try.ntmps6
    go_wp2_with (first
      | (go_at_call 9; refine (first_any _).mono ?_; rintro e w' ⟨rfl, m, rfl⟩)
      | (go_at_call_has 10 (Value.int .i64 B); refine (k1.out _).mono ?_; rintro e w' ⟨rfl, m, rfl⟩)
      | (go_at_call_has 10 (Value.int .i64 A); refine (k2.out _).mono ?_; rintro e w' ⟨rfl, m, rfl⟩)
      | (go_at_call_has 10 (Value.int .i64 1152921504606846976); refine (k4.out _).mono ?_; rintro e w' ⟨rfl, m, rfl⟩)
      | (go_at_call_has 10 (Value.int .i64 4611686018427387904); refine (k3.out _).mono ?_; rintro e w' ⟨rfl, m, rfl⟩)
      | (go_at_call 10; refine (k5.out _).mono ?_; rintro e w' ⟨rfl, m, rfl⟩)
      | (go_at_call 12; refine (k6.out _).mono ?_; rintro e w' ⟨rfl, m, rfl⟩))
    go_ret
    exact ⟨rfl, grown_drewN _ _⟩
  · rw [if_neg c1] at hC
    subst hC
    go_enter Try.func6, Try.ntmps6
    go_wp2_with (first
      | (go_at_call 9; refine (first_any _).mono ?_; rintro e w' ⟨rfl, m, rfl⟩)
      | (go_at_call_has 10 (Value.int .i64 B); refine (k1.out _).mono ?_; rintro e w' ⟨rfl, m, rfl⟩)
      | (go_at_call_has 10 (Value.int .i64 A); refine (k2.out _).mono ?_; rintro e w' ⟨rfl, m, rfl⟩)
      | (go_at_call_has 10 (Value.int .i64 1152921504606846976); refine (k4.out _).mono ?_; rintro e w' ⟨rfl, m, rfl⟩)
      | (go_at_call_has 10 (Value.int .i64 4611686018427387904); refine (k3.out _).mono ?_; rintro e w' ⟨rfl, m, rfl⟩)
      | (go_at_call 10; refine (k5.out _).mono ?_; rintro e w' ⟨rfl, m, rfl⟩)
      | (go_at_call 12; refine (k6.out _).mono ?_; rintro e w' ⟨rfl, m, rfl⟩))
    go_ret
    exact ⟨rfl, grown_drewN _ _⟩

/-! ### STEP 1: THE WALK: the Go text returns true. 'Grown w w'': the world has at most new blocks (Derived/RowKit3.lean). Part the cases AHEAD of 'go_enter' where a test parts the walk; take each callee by a contract of your own. -/
theorem walk (a0 : Int) (a1 : Int) (a2 : Int) (w0 : (Lit.int .i64 a0).wf = true) (w1 : (Lit.int .i64 a1).wf = true) (w2 : (Lit.int .i64 a2).wf = true) (w : World) :
    Calls Try.prog 6 #[.int .i64 a0, .int .i64 a1, .int .i64 a2] w fun e w' => e = .returned (.bool true) ∧ Grown w w' := by
  exact scales_at a0 a1 a2 w (bounds_i64 w0) (bounds_i64 w1) (bounds_i64 w2) _ rfl _ rfl _ rfl _ rfl

/-! ### THE ROW's STEP: WRITTEN OUT: LEAVE IT -/
set_option maxRecDepth 100000 in
theorem lifted (os : Os) (started : os.Started) (H : Type) (enc : TypeId × Value → H) :
    ReturnsInHanded {} Try.checked os 6 .any (Rows.fixedScalesSpec.pre6 enc Try.prog Try.f6 Rows.fixedScalesRow.domain false) (Rows.fixedScalesSpec.post enc Try.prog Try.f6 false true false false) := by
  refine returnsInHanded_of_change (C := Try.checked) own started (by kernel_rfl) Try.func6
    (ChangeSpec.witness6 (enc := enc) (C := Try.checked) false ⟨#[], #[.int .i64 0, .int .i64 0, .int .i64 0], []⟩ 8 (by kernel_rfl) (by kernel_rfl) (by kernel_rfl) (by kernel_rfl)) ?_
  intro W base args ds gs before hval0 hW hcnd _
  have hval : ∀ (j : Nat) t v, Try.f6.params[j]? = some t → args[j]? = some v → Value.okWide Try.prog W .any base t v := hval0
  have hW' := hW
  obtain ⟨p, q, hA0, hV, rfl, hfz, hnd⟩ := hW
  have hA : DataW.TrodAll enc Try.prog W 0 (fun _ => true) true Try.f6.params.toList args.toList ds p := hA0
  rw [Try.params6] at hA hval
  obtain ⟨v0, vs0, d0, ds0, p0, q0, hargs, rfl, rfl, h0, r0⟩ := trodAll_cons hA
  obtain ⟨v1, vs1, d1, ds1, p1, q1, rfl, rfl, rfl, h1, r1⟩ := trodAll_cons r0
  obtain ⟨v2, vs2, d2, ds2, p2, q2, rfl, rfl, rfl, h2, r2⟩ := trodAll_cons r1
  obtain ⟨rfl, rfl, rfl⟩ := trodAll_nil r2
  obtain rfl : args = #[v0, v1, v2] := by cases args; simp_all
  obtain ⟨rfl, rfl⟩ := trodVars_none hV
  obtain ⟨a0, rfl, rfl, rfl, w0⟩ := open_int Try.underlying2 (hval 0 2 v0 rfl rfl) h0
  obtain ⟨a1, rfl, rfl, rfl, w1⟩ := open_int Try.underlying2 (hval 1 2 v1 rfl rfl) h1
  obtain ⟨a2, rfl, rfl, rfl, w2⟩ := open_int Try.underlying2 (hval 2 2 v2 rfl rfl) h2
  clear hA0 hval0
  simp only [List.append_nil] at hW'
  refine (walk a0 a1 a2 w0 w1 w2 W).mono fun e W' ⟨he, hg⟩ => ?_
  subst he
  exact ⟨_, rfl, post_of_same (pa := []) (pv := []) hW' (fun _ _ _ => (trodAll_cons_mk (shut_bool Try.underlying4 _) trodAll_mk0)) (fun sp _ => (trodAll_cons_mk (shut_int Try.underlying2 w0) (trodAll_cons_mk (shut_int Try.underlying2 w1) (trodAll_cons_mk (shut_int Try.underlying2 w2) trodAll_mk0)))) (fun _ _ => rfl) rfl
    (hg.frame _) hg.2.1 (ok_one (by kernel_rfl) rfl (okWide_bool_mk Try.underlying4 _))⟩

theorem over : Rows.fixedScalesRow.holds Try.pinned (OpenSpec.ofChange Rows.fixedScalesSpec) :=
  OpenClaim.holds_of_wide 6 Try.f6 rfl rfl rfl rfl rfl rfl rfl ⟨rfl, rfl, rfl, rfl, rfl⟩ rfl rfl rfl rfl rfl (by kernel_rfl) Try.func6 (by kernel_rfl)
    (of_decide_eq_true (by kernel_rfl)) (by unfold Func.isWrapper; first | (rw [if_pos (by decide +kernel)]; kernel_rfl) | (rw [if_neg (by decide +kernel)]; exact ⟨rfl, rfl⟩))
    (fun os started H enc _ => lifted os started H enc)

/-- ████ THE STATEMENT ████ -/
theorem proved : Rows.FixedScalesSaid :=
  over
end Go.Proofs.Ytehlehcbjoideaa.fixedScales
namespace Go.Proofs.Ytehlehcbjoideaa
theorem fixedScales_holds : Rows.FixedScalesSaid := fixedScales.proved
#print axioms fixedScales_holds
end Go.Proofs.Ytehlehcbjoideaa

/-
  The statement FixedParts of layer 1 is proved for every three numbers, with no condition: a product over its one factor is the other, whatever their signs, and over more it is never farther from nothing.
-/
import Derived.Test.YtehlehcbjoideaaRows
import Derived.WalkKit
import Derived.ProofKit
import Derived.OpenShut
import Derived.Test.YtehlehcbjoideaaMulDiv
import Derived.Test.YtehlehcbjoideaaMore
import Derived.Sort.AtCall
import Derived.Deep.Cut
namespace Go.Proofs.Ytehlehcbjoideaa.fixedParts
open Go.ChangeShapes Go.WideShapes Go.ChangeAt Go.RowKit
set_option linter.unusedVariables false      -- a walk need not use every 'w<i>' (that an integer argument fits its kind)

theorem own : ownKnob Try.prog.godebug = none := by kernel_rfl

set_option maxHeartbeats 4000000 in
set_option maxRecDepth 100000 in
theorem parts_at (a b c : Int) (w : World) (ba : -9223372036854775808 ≤ a ∧ a ≤ 9223372036854775807) (bb : -9223372036854775808 ≤ b ∧ b ≤ 9223372036854775807) (bc : -9223372036854775808 ≤ c ∧ c ≤ 9223372036854775807)
    (A' : Int) (hA' : (if a < 0 then -(a + 1) else a) = A') (B' : Int) (hB' : (if b < 0 then -(b + 1) else b) = B') (C' : Int) (hC' : (if c < 0 then -(c + 1) else c) = C')
    (A : Int) (hA : A' / 2 + 1 = A) (B : Int) (hB : B' / 2 + 1 = B) (C : Int) (hC : (if C' / 2 < 1 then 1 else C' / 2) = C) :
    Calls Try.prog 8 #[.int .i64 a, .int .i64 b, .int .i64 c] w fun e w' => e = .returned (.bool true) ∧ Grown w w' := by
  have A'0 : 0 ≤ A' ∧ A' ≤ 9223372036854775807 := by split at hA' <;> omega
  have B'0 : 0 ≤ B' ∧ B' ≤ 9223372036854775807 := by split at hB' <;> omega
  have C'0 : 0 ≤ C' ∧ C' ≤ 9223372036854775807 := by split at hC' <;> omega
  have A0 : 1 ≤ A ∧ A ≤ 4611686018427387904 := by omega
  have B0 : 1 ≤ B ∧ B ≤ 4611686018427387904 := by omega
  have C0 : 1 ≤ C ∧ C ≤ 4611686018427387903 := by split at hC <;> omega
  have N0 : 0 ≤ A * B := Int.mul_nonneg (by omega) (by omega)
  have k1 : Hid (∀ w, Calls Try.prog 10 #[.int .i64 A, .int .i64 B, .int .i64 A] w fun e w' => e = .returned (.tuple #[.int .i64 B, .bool true]) ∧ ∃ n, w' = w.drewN n) :=
    fun w => mulDiv_yes A B A w (by omega) (by omega) (by omega) (by omega) (by omega) (by omega) B (by rw [Int.mul_comm]; exact Plain.rnd_mul B A A0.1) (by omega) (by omega)
  have k2 : Hid (∀ w, Calls Try.prog 10 #[.int .i64 (-A), .int .i64 B, .int .i64 A] w fun e w' => e = .returned (.tuple #[.int .i64 (-B), .bool true]) ∧ ∃ n, w' = w.drewN n) :=
    fun w => mulDiv_yes (-A) B A w (by omega) (by omega) (by omega) (by omega) (by omega) (by omega) (-B) (by rw [Int.neg_mul, ← Int.mul_neg, Int.mul_comm]; exact Plain.rnd_mul (-B) A A0.1) (by omega) (by omega)
  have z0 := Plain.rnd_nonneg (A * B) C C0.1 N0
  have z1 := Plain.rnd_anti (A * B) C C0.1 N0
  have z2 := Plain.rnd_nonneg (A * B) (C + 1) (by omega) N0
  have hz : ∃ Z can W may, Hid (∀ w, Calls Try.prog 10 #[.int .i64 A, .int .i64 B, .int .i64 C] w fun e w' => e = .returned (.tuple #[.int .i64 Z, .bool can]) ∧ ∃ n, w' = w.drewN n) ∧
      Hid (∀ w, Calls Try.prog 10 #[.int .i64 A, .int .i64 B, .int .i64 (C + 1)] w fun e w' => e = .returned (.tuple #[.int .i64 W, .bool may]) ∧ ∃ n, w' = w.drewN n) ∧ (can = true ∧ may = true ∧ W ≤ Z ∧ 0 ≤ Z ∨ can = false) := by
    by_cases f : Plain.rnd (A * B) C ≤ 9223372036854775807
    · exact ⟨_, true, _, true, fun w => mulDiv_yes A B C w (by omega) (by omega) (by omega) (by omega) (by omega) (by omega) _ rfl (by omega) f,
        fun w => mulDiv_yes A B (C + 1) w (by omega) (by omega) (by omega) (by omega) (by omega) (by omega) _ rfl (by omega) (by omega), Or.inl ⟨rfl, rfl, z1, z0⟩⟩
    · by_cases g : Plain.rnd (A * B) (C + 1) ≤ 9223372036854775807
      · exact ⟨_, false, _, true, fun w => mulDiv_no A B C w (by omega) (by omega) (by omega) (by omega) (by omega) (by omega) (by omega),
          fun w => mulDiv_yes A B (C + 1) w (by omega) (by omega) (by omega) (by omega) (by omega) (by omega) _ rfl (by omega) g, Or.inr rfl⟩
      · exact ⟨_, false, _, false, fun w => mulDiv_no A B C w (by omega) (by omega) (by omega) (by omega) (by omega) (by omega) (by omega),
          fun w => mulDiv_no A B (C + 1) w (by omega) (by omega) (by omega) (by omega) (by omega) (by omega) (by omega), Or.inr rfl⟩
  obtain ⟨Z, can, W, may, k3, k4, h⟩ := hz
  clear z0 z1 z2 N0
  obtain ⟨D, hD⟩ : ∃ D, C' / 2 = D := ⟨_, rfl⟩
  rw [hD] at hC
  have A1 : Hid (a < 0 → A' = -(a + 1)) := fun h => by rw [if_pos h] at hA'; exact hA'.symm
  have A2 : Hid (¬ a < 0 → A' = a) := fun h => by rw [if_neg h] at hA'; exact hA'.symm
  have B1 : Hid (b < 0 → B' = -(b + 1)) := fun h => by rw [if_pos h] at hB'; exact hB'.symm
  have B2 : Hid (¬ b < 0 → B' = b) := fun h => by rw [if_neg h] at hB'; exact hB'.symm
  have C1 : Hid (c < 0 → C' = -(c + 1)) := fun h => by rw [if_pos h] at hC'; exact hC'.symm
  have C2 : Hid (¬ c < 0 → C' = c) := fun h => by rw [if_neg h] at hC'; exact hC'.symm
  clear hA' hB' hC'
  go_enter Try.func8, Try.ntmps8
  go_upto_if 20 with (go_at_call 9; refine (first_any _).mono ?_; rintro e w' ⟨rfl, m, rfl⟩)
  go_cut [0] from 16 (fun s x => s = .int .i64 A' ∧ x = w.drewN m)
  case first =>
    clear h k1 k2 k3 k4 hC hA hB hD
    by_cases ca : a < 0
    · go_wp2_with fail
      go_meet
      case rel => exact ⟨by rw [A1.out ca], rfl⟩
    · go_wp2_with fail
      go_meet
      case rel => exact ⟨by rw [A2.out ca], rfl⟩
  case rest =>
    obtain ⟨rfl, rfl⟩ := hcut
    go_upto_if 25 with (fail)
    go_cut [1] from 16 (fun s x => s = .int .i64 B' ∧ x = w.drewN m)
    case first =>
      clear h k1 k2 k3 k4 hC hA hB hD
      by_cases cb : b < 0
      · go_wp2_with fail
        go_meet
        case rel => exact ⟨by rw [B1.out cb], rfl⟩
      · go_wp2_with fail
        go_meet
        case rel => exact ⟨by rw [B2.out cb], rfl⟩
    case rest =>
      obtain ⟨rfl, rfl⟩ := hcut
      go_upto_if 36 with (fail)
      go_cut [2] from 16 (fun s x => s = .int .i64 C' ∧ x = w.drewN m)
      case first =>
        clear h k1 k2 k3 k4 hC hA hB hD
        by_cases cc : c < 0
        · go_wp2_with fail
          go_meet
          case rel => exact ⟨by rw [C1.out cc], rfl⟩
        · go_wp2_with fail
          go_meet
          case rel => exact ⟨by rw [C2.out cc], rfl⟩
      case rest =>
        obtain ⟨rfl, rfl⟩ := hcut
        clear A1 A2 B1 B2 C1 C2
        rcases h with ⟨rfl, rfl, h1, h2⟩ | rfl
        · go_wp2_with (first
            | (go_at_call_has 10 (Value.int .i64 (-A)); refine (k2.out _).mono ?_; rintro e w' ⟨rfl, m, rfl⟩)
            | (go_at_call_has 10 (Value.int .i64 (C + 1)); refine (k4.out _).mono ?_; rintro e w' ⟨rfl, m, rfl⟩)
            | (go_at_call_has 10 (Value.int .i64 C); refine (k3.out _).mono ?_; rintro e w' ⟨rfl, m, rfl⟩)
            | (go_at_call 10; refine (k1.out _).mono ?_; rintro e w' ⟨rfl, m, rfl⟩))
          go_ret
          exact ⟨rfl, grown_drewN _ _⟩
        · go_wp2_with (first
            | (go_at_call_has 10 (Value.int .i64 (-A)); refine (k2.out _).mono ?_; rintro e w' ⟨rfl, m, rfl⟩)
            | (go_at_call_has 10 (Value.int .i64 (C + 1)); refine (k4.out _).mono ?_; rintro e w' ⟨rfl, m, rfl⟩)
            | (go_at_call_has 10 (Value.int .i64 C); refine (k3.out _).mono ?_; rintro e w' ⟨rfl, m, rfl⟩)
            | (go_at_call 10; refine (k1.out _).mono ?_; rintro e w' ⟨rfl, m, rfl⟩))
          go_ret
          exact ⟨rfl, grown_drewN _ _⟩
/-! ### STEP 1: THE WALK: the Go text returns true. 'Grown w w'': the world has at most new blocks (Derived/RowKit3.lean). Part the cases AHEAD of 'go_enter' where a test parts the walk; take each callee by a contract of your own. -/
theorem walk (a0 : Int) (a1 : Int) (a2 : Int) (w0 : (Lit.int .i64 a0).wf = true) (w1 : (Lit.int .i64 a1).wf = true) (w2 : (Lit.int .i64 a2).wf = true) (w : World) :
    Calls Try.prog 8 #[.int .i64 a0, .int .i64 a1, .int .i64 a2] w fun e w' => e = .returned (.bool true) ∧ Grown w w' := by
  exact parts_at a0 a1 a2 w (bounds_i64 w0) (bounds_i64 w1) (bounds_i64 w2) _ rfl _ rfl _ rfl _ rfl _ rfl _ rfl

/-! ### THE ROW's STEP: WRITTEN OUT: LEAVE IT -/
set_option maxRecDepth 100000 in
theorem lifted (os : Os) (started : os.Started) (H : Type) (enc : TypeId × Value → H) :
    ReturnsInHanded {} Try.checked os 8 .any (Rows.fixedPartsSpec.pre6 enc Try.prog Try.f8 Rows.fixedPartsRow.domain false) (Rows.fixedPartsSpec.post enc Try.prog Try.f8 false true false false) := by
  refine returnsInHanded_of_change (C := Try.checked) own started (by kernel_rfl) Try.func8
    (ChangeSpec.witness6 (enc := enc) (C := Try.checked) false ⟨#[], #[.int .i64 0, .int .i64 0, .int .i64 0], []⟩ 8 (by kernel_rfl) (by kernel_rfl) (by kernel_rfl) (by kernel_rfl)) ?_
  intro W base args ds gs before hval0 hW hcnd _
  have hval : ∀ (j : Nat) t v, Try.f8.params[j]? = some t → args[j]? = some v → Value.okWide Try.prog W .any base t v := hval0
  have hW' := hW
  obtain ⟨p, q, hA0, hV, rfl, hfz, hnd⟩ := hW
  have hA : DataW.TrodAll enc Try.prog W 0 (fun _ => true) true Try.f8.params.toList args.toList ds p := hA0
  rw [Try.params8] at hA hval
  obtain ⟨v0, vs0, d0, ds0, p0, q0, hargs, rfl, rfl, h0, r0⟩ := trodAll_cons hA
  obtain ⟨v1, vs1, d1, ds1, p1, q1, rfl, rfl, rfl, h1, r1⟩ := trodAll_cons r0
  obtain ⟨v2, vs2, d2, ds2, p2, q2, rfl, rfl, rfl, h2, r2⟩ := trodAll_cons r1
  obtain ⟨rfl, rfl, rfl⟩ := trodAll_nil r2
  obtain rfl : args = #[v0, v1, v2] := by cases args; simp_all
  obtain ⟨rfl, rfl⟩ := trodVars_none hV
  obtain ⟨a0, rfl, rfl, rfl, w0⟩ := open_int Try.underlying2 (hval 0 2 v0 rfl rfl) h0
  obtain ⟨a1, rfl, rfl, rfl, w1⟩ := open_int Try.underlying2 (hval 1 2 v1 rfl rfl) h1
  obtain ⟨a2, rfl, rfl, rfl, w2⟩ := open_int Try.underlying2 (hval 2 2 v2 rfl rfl) h2
  clear hA0 hval0
  simp only [List.append_nil] at hW'
  refine (walk a0 a1 a2 w0 w1 w2 W).mono fun e W' ⟨he, hg⟩ => ?_
  subst he
  exact ⟨_, rfl, post_of_same (pa := []) (pv := []) hW' (fun _ _ _ => (trodAll_cons_mk (shut_bool Try.underlying4 _) trodAll_mk0)) (fun sp _ => (trodAll_cons_mk (shut_int Try.underlying2 w0) (trodAll_cons_mk (shut_int Try.underlying2 w1) (trodAll_cons_mk (shut_int Try.underlying2 w2) trodAll_mk0)))) (fun _ _ => rfl) rfl
    (hg.frame _) hg.2.1 (ok_one (by kernel_rfl) rfl (okWide_bool_mk Try.underlying4 _))⟩

theorem over : Rows.fixedPartsRow.holds Try.pinned (OpenSpec.ofChange Rows.fixedPartsSpec) :=
  OpenClaim.holds_of_wide 8 Try.f8 rfl rfl rfl rfl rfl rfl rfl ⟨rfl, rfl, rfl, rfl, rfl⟩ rfl rfl rfl rfl rfl (by kernel_rfl) Try.func8 (by kernel_rfl)
    (of_decide_eq_true (by kernel_rfl)) (by unfold Func.isWrapper; first | (rw [if_pos (by decide +kernel)]; kernel_rfl) | (rw [if_neg (by decide +kernel)]; exact ⟨rfl, rfl⟩))
    (fun os started H enc _ => lifted os started H enc)

/-- ████ THE STATEMENT ████ -/
theorem proved : Rows.FixedPartsSaid :=
  over
end Go.Proofs.Ytehlehcbjoideaa.fixedParts
namespace Go.Proofs.Ytehlehcbjoideaa
theorem fixedParts_holds : Rows.FixedPartsSaid := fixedParts.proved
#print axioms fixedParts_holds
end Go.Proofs.Ytehlehcbjoideaa

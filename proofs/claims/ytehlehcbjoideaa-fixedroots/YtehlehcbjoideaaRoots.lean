/-
  The statement FixedRoots of layer 1 is proved for every pair of numbers, with no condition: a root's square is not above its number, the next one's is, and the root of a square is its side.
-/
import Derived.Test.YtehlehcbjoideaaRows
import Derived.WalkKit
import Derived.ProofKit
import Derived.OpenShut
import Derived.Test.YtehlehcbjoideaaFixed
namespace Go.Proofs.Ytehlehcbjoideaa.fixedRoots
open Go.ChangeShapes Go.WideShapes Go.ChangeAt Go.RowKit
set_option linter.unusedVariables false      -- a walk need not use every 'w<i>' (that an integer argument fits its kind)

theorem own : ownKnob Try.prog.godebug = none := by kernel_rfl

set_option maxHeartbeats 2000000 in
theorem roots_at (n s : Int) (w : World) (n0 : 0 ≤ n) (n1 : n ≤ 9223372036854775807) (s' : Int) (hs' : (if s < 0 then -(s + 1) else s) = s') (h0 : 0 ≤ s') (S : Int) (hS : s' % 3037000499 = S) (b1 : -9223372036854775808 ≤ s ∧ s ≤ 9223372036854775807) :
    Calls Try.prog 5 #[.int .i64 n, .int .i64 s] w fun e w' => e = .returned (.bool true) ∧ Grown w w' := by
  have S0 : 0 ≤ S := by omega
  have S1 : S ≤ 3037000498 := by omega
  obtain ⟨Q, hQ⟩ : ∃ Q, S * S = Q := ⟨_, rfl⟩
  have Q0 : 0 ≤ Q := by rw [← hQ]; exact Int.mul_nonneg S0 S0
  have Q1 : Q ≤ 9223372024852248004 := by rw [← hQ]; exact Int.le_trans (Int.mul_le_mul S1 S1 S0 (by omega)) (by decide)
  have Q2 : (S + 1) * (S + 1) = Q + S + S + 1 := by rw [Int.add_mul, Int.mul_add]; omega
  have k2 : Hid (∀ w, Calls Try.prog 11 #[.int .i64 Q] w fun e w' => e = .returned (.int .i64 S) ∧ ∃ n, w' = w.drewN n) := fun w => sqrt_at Q S w Q0 (by omega) S0 (by omega) (by omega)
  have k3 : Hid (1 ≤ S → ∀ w, Calls Try.prog 11 #[.int .i64 (Q - 1)] w fun e w' => e = .returned (.int .i64 (S - 1)) ∧ ∃ n, w' = w.drewN n) := fun h w => by
    have e : (S - 1) * (S - 1) = Q - S - S + 1 := by rw [Int.sub_mul, Int.mul_sub]; omega
    have e2 : S ≤ Q := by rw [← hQ]; exact Int.le_trans (by omega) (Int.mul_le_mul_of_nonneg_right h S0)
    exact sqrt_at (Q - 1) (S - 1) w (by omega) (by omega) (by omega) (by omega) (by have : S - 1 + 1 = S := by omega
                                                                                    rw [this]; omega)
  have k4 : Hid (∀ w, Calls Try.prog 11 #[.int .i64 (Q + S)] w fun e w' => e = .returned (.int .i64 S) ∧ ∃ n, w' = w.drewN n) := fun w => sqrt_at (Q + S) S w (by omega) (by omega) S0 (by omega) (by omega)
  obtain ⟨r, r0, r1, r2⟩ := Plain.root_ex n n0
  have r3 := Plain.root_max n r n1 r0 r1
  have k1 : Hid (∀ w, Calls Try.prog 11 #[.int .i64 n] w fun e w' => e = .returned (.int .i64 r) ∧ ∃ n, w' = w.drewN n) := fun w => sqrt_at n r w n0 n1 r0 r1 r2
  obtain ⟨P, hP⟩ : ∃ P, r * r = P := ⟨_, rfl⟩
  have P0 : 0 ≤ P := by rw [← hP]; exact Int.mul_nonneg r0 r0
  rw [hP] at r1
  obtain ⟨P', hP'⟩ : ∃ P, (r + 1) * (r + 1) = P := ⟨_, rfl⟩
  rw [hP'] at r2
  have P1 : r < 3037000499 → P' ≤ 9223372030926249001 := fun h => by rw [← hP']; exact Int.le_trans (Int.mul_le_mul (by omega : r + 1 ≤ 3037000499) (by omega : r + 1 ≤ 3037000499) (by omega) (by omega)) (by decide)
  have P2 : 0 ≤ P' := by omega
  clear Q2
  have c4 : (S == 0) = true ∨ (S == 0) = false ∧ 1 ≤ S := by
    by_cases c : S = 0
    · left; rw [c]; simp
    · right; exact ⟨by simpa using c, by omega⟩
  have c3 : 3037000499 ≤ r ∨ r < 3037000499 ∧ P' ≤ 9223372030926249001 := by omega
  clear P1
  by_cases c : s < 0
  · rw [if_pos c] at hs'
    rcases c3 with c3 | ⟨c3, P3⟩ <;> rcases c4 with c4 | ⟨c4, S2⟩
    all_goals
      go_enter Try.func5, Try.ntmps5
      go_wp2_with (first
        | (go_at_call 9; refine (first_any _).mono ?_; rintro e w' ⟨rfl, m, rfl⟩)
        | (go_at_call_of 11 (Value.int .i64 n); refine (k1.out _).mono ?_; rintro e w' ⟨rfl, m, rfl⟩)
        | (go_at_call_of 11 (Value.int .i64 Q); refine (k2.out _).mono ?_; rintro e w' ⟨rfl, m, rfl⟩)
        | (go_at_call_of 11 (Value.int .i64 (Q + S)); refine (k4.out _).mono ?_; rintro e w' ⟨rfl, m, rfl⟩)
        | (go_at_call 11; refine (k3.out S2 _).mono ?_; rintro e w' ⟨rfl, m, rfl⟩))
      go_ret
      exact ⟨rfl, grown_drewN _ _⟩
  · rw [if_neg c] at hs'
    subst hs'
    rcases c3 with c3 | ⟨c3, P3⟩ <;> rcases c4 with c4 | ⟨c4, S2⟩
    all_goals
      go_enter Try.func5, Try.ntmps5
      go_wp2_with (first
        | (go_at_call 9; refine (first_any _).mono ?_; rintro e w' ⟨rfl, m, rfl⟩)
        | (go_at_call_of 11 (Value.int .i64 n); refine (k1.out _).mono ?_; rintro e w' ⟨rfl, m, rfl⟩)
        | (go_at_call_of 11 (Value.int .i64 Q); refine (k2.out _).mono ?_; rintro e w' ⟨rfl, m, rfl⟩)
        | (go_at_call_of 11 (Value.int .i64 (Q + S)); refine (k4.out _).mono ?_; rintro e w' ⟨rfl, m, rfl⟩)
        | (go_at_call 11; refine (k3.out S2 _).mono ?_; rintro e w' ⟨rfl, m, rfl⟩))
      go_ret
      exact ⟨rfl, grown_drewN _ _⟩

/-! ### STEP 1: THE WALK: the Go text returns true. 'Grown w w'': the world has at most new blocks (Derived/RowKit3.lean). Part the cases AHEAD of 'go_enter' where a test parts the walk; take each callee by a contract of your own. -/
theorem walk (a0 : Int) (a1 : Int) (w0 : (Lit.int .i64 a0).wf = true) (w1 : (Lit.int .i64 a1).wf = true) (w : World) :
    Calls Try.prog 5 #[.int .i64 a0, .int .i64 a1] w fun e w' => e = .returned (.bool true) ∧ Grown w w' := by
  have b0 := bounds_i64 w0
  have b1 := bounds_i64 w1
  clear w0 w1
  by_cases c1 : a0 < 0
  · go_enter Try.func5, Try.ntmps5
    go_wp2_with (first
      | (go_at_call 9; refine (first_any _).mono ?_; rintro e w' ⟨rfl, m, rfl⟩)
      | (go_at_call 11; refine (sqrt_none _ _ c1).mono ?_; rintro e w' ⟨rfl, m, rfl⟩))
    go_ret
    exact ⟨rfl, grown_drewN _ _⟩
  · exact roots_at a0 a1 w (by omega) (by omega) _ rfl (by split <;> omega) _ rfl b1

/-! ### THE ROW's STEP: WRITTEN OUT: LEAVE IT -/
set_option maxRecDepth 100000 in
theorem lifted (os : Os) (started : os.Started) (H : Type) (enc : TypeId × Value → H) :
    ReturnsInHanded {} Try.checked os 5 .any (Rows.fixedRootsSpec.pre6 enc Try.prog Try.f5 Rows.fixedRootsRow.domain false) (Rows.fixedRootsSpec.post enc Try.prog Try.f5 false true false false) := by
  refine returnsInHanded_of_change (C := Try.checked) own started (by kernel_rfl) Try.func5
    (ChangeSpec.witness6 (enc := enc) (C := Try.checked) false ⟨#[], #[.int .i64 0, .int .i64 0], []⟩ 8 (by kernel_rfl) (by kernel_rfl) (by kernel_rfl) (by kernel_rfl)) ?_
  intro W base args ds gs before hval0 hW hcnd _
  have hval : ∀ (j : Nat) t v, Try.f5.params[j]? = some t → args[j]? = some v → Value.okWide Try.prog W .any base t v := hval0
  have hW' := hW
  obtain ⟨p, q, hA0, hV, rfl, hfz, hnd⟩ := hW
  have hA : DataW.TrodAll enc Try.prog W 0 (fun _ => true) true Try.f5.params.toList args.toList ds p := hA0
  rw [Try.params5] at hA hval
  obtain ⟨v0, vs0, d0, ds0, p0, q0, hargs, rfl, rfl, h0, r0⟩ := trodAll_cons hA
  obtain ⟨v1, vs1, d1, ds1, p1, q1, rfl, rfl, rfl, h1, r1⟩ := trodAll_cons r0
  obtain ⟨rfl, rfl, rfl⟩ := trodAll_nil r1
  obtain rfl : args = #[v0, v1] := by cases args; simp_all
  obtain ⟨rfl, rfl⟩ := trodVars_none hV
  obtain ⟨a0, rfl, rfl, rfl, w0⟩ := open_int Try.underlying2 (hval 0 2 v0 rfl rfl) h0
  obtain ⟨a1, rfl, rfl, rfl, w1⟩ := open_int Try.underlying2 (hval 1 2 v1 rfl rfl) h1
  clear hA0 hval0
  simp only [List.append_nil] at hW'
  refine (walk a0 a1 w0 w1 W).mono fun e W' ⟨he, hg⟩ => ?_
  subst he
  exact ⟨_, rfl, post_of_same (pa := []) (pv := []) hW' (fun _ _ _ => (trodAll_cons_mk (shut_bool Try.underlying4 _) trodAll_mk0)) (fun sp _ => (trodAll_cons_mk (shut_int Try.underlying2 w0) (trodAll_cons_mk (shut_int Try.underlying2 w1) trodAll_mk0))) (fun _ _ => rfl) rfl
    (hg.frame _) hg.2.1 (ok_one (by kernel_rfl) rfl (okWide_bool_mk Try.underlying4 _))⟩

theorem over : Rows.fixedRootsRow.holds Try.pinned (OpenSpec.ofChange Rows.fixedRootsSpec) :=
  OpenClaim.holds_of_wide 5 Try.f5 rfl rfl rfl rfl rfl rfl rfl ⟨rfl, rfl, rfl, rfl, rfl⟩ rfl rfl rfl rfl rfl (by kernel_rfl) Try.func5 (by kernel_rfl)
    (of_decide_eq_true (by kernel_rfl)) (by unfold Func.isWrapper; first | (rw [if_pos (by decide +kernel)]; kernel_rfl) | (rw [if_neg (by decide +kernel)]; exact ⟨rfl, rfl⟩))
    (fun os started H enc _ => lifted os started H enc)

/-- ████ THE STATEMENT ████ -/
theorem proved : Rows.FixedRootsSaid :=
  over
end Go.Proofs.Ytehlehcbjoideaa.fixedRoots
namespace Go.Proofs.Ytehlehcbjoideaa
theorem fixedRoots_holds : Rows.FixedRootsSaid := fixedRoots.proved
#print axioms fixedRoots_holds
end Go.Proofs.Ytehlehcbjoideaa

/-
  The statement FixedNearest of layer 1 is proved for every pair of numbers, with no condition: the nearest part is no farther than half, of two the greater, and down is not above and less than one below.
-/
import Derived.Test.YtehlehcbjoideaaRows
import Derived.WalkKit
import Derived.ProofKit
import Derived.OpenShut
import Derived.Test.YtehlehcbjoideaaFixed
namespace Go.Proofs.Ytehlehcbjoideaa.fixedNearest
open Go.ChangeShapes Go.WideShapes Go.ChangeAt Go.RowKit
set_option linter.unusedVariables false      -- a walk need not use every 'w<i>' (that an integer argument fits its kind)

theorem own : ownKnob Try.prog.godebug = none := by kernel_rfl

/-! ### STEP 1: THE WALK: the Go text returns true. 'Grown w w'': the world has at most new blocks (Derived/RowKit3.lean). Part the cases AHEAD of 'go_enter' where a test parts the walk; take each callee by a contract of your own. -/
theorem walk (a0 : Int) (a1 : Int) (w0 : (Lit.int .i64 a0).wf = true) (w1 : (Lit.int .i64 a1).wf = true) (w : World) :
    Calls Try.prog 4 #[.int .i64 a0, .int .i64 a1] w fun e w' => e = .returned (.bool true) ∧ Grown w w' := by
  have b0 := bounds_i64 w0
  have b1 := bounds_i64 w1
  obtain ⟨A, hA⟩ : ∃ A, a0 / 8 = A := ⟨_, rfl⟩
  have hA0 : -1152921504606846976 ≤ A := by omega
  have hA1 : A < 1152921504606846976 := by omega
  by_cases c1 : a1 < 1
  · have c2 : ¬ 1 ≤ a1 := by omega
    go_enter Try.func4, Try.ntmps4
    go_wp2_with (first
      | (go_at_call 9; refine (first_any _).mono ?_; rintro e w' ⟨rfl, n, rfl⟩)
      | (go_at_call 12; refine (round_none _ _ _ c1).mono ?_; rintro e w' ⟨rfl, n, rfl⟩)
      | (go_at_call 13; refine (down_none _ _ _ c1).mono ?_; rintro e w' ⟨rfl, n, rfl⟩))
    go_ret
    exact ⟨rfl, grown_drewN _ _⟩
  · by_cases c2 : 576460752303423488 < a1
    · go_enter Try.func4, Try.ntmps4
      go_wp2_with (go_at_call 9; refine (first_any _).mono ?_; rintro e w' ⟨rfl, n, rfl⟩)
      go_ret
      exact ⟨rfl, grown_drewN _ _⟩
    · obtain ⟨n1, n2, n3, n4⟩ := Plain.rnd_near A a1 (by omega)
      obtain ⟨d1, d2⟩ := Plain.dwn_near A a1 (by omega)
      obtain ⟨d3, d4⟩ := Plain.div_small A a1 (by omega) hA0 hA1
      obtain ⟨r', hr'⟩ : ∃ x, Plain.rnd (A + a1) a1 = x := ⟨_, rfl⟩
      obtain ⟨r, hr⟩ : ∃ x, Plain.rnd A a1 = x := ⟨_, rfl⟩
      obtain ⟨d, hd⟩ : ∃ x, A / a1 = x := ⟨_, rfl⟩
      rw [hr'] at n4
      rw [hr] at n1 n2 n3 n4
      rw [hd] at n3 d1 d2 d3 d4
      obtain ⟨P, hP⟩ : ∃ x, r * a1 = x := ⟨_, rfl⟩
      obtain ⟨D, hD⟩ : ∃ x, d * a1 = x := ⟨_, rfl⟩
      rw [hP] at n1 n2
      rw [hD] at d1 d2
      have n5 : (r' == r + 1) = true := by rw [n4]; simp
      clear n4
      have n9 : r ≤ 1152921504606846976 := by omega
      have n10 : -1152921504606846976 ≤ r := by omega
      by_cases n6 : r = d
      · have n7 : (r == d) = true := by rw [n6]; simp
        clear n3 n6
        go_enter Try.func4, Try.ntmps4
        go_wp2_with (first
          | (go_at_call 9; refine (first_any _).mono ?_; rintro e w' ⟨rfl, n, rfl⟩)
          | (go_at_call 12; refine (round_any _ _ _ (by omega) (by omega) (by omega) (by omega)).mono ?_; rintro e w' ⟨rfl, n, rfl⟩)
          | (go_at_call 13; refine (down_any _ _ _ (by omega) (by omega) (by omega) (by omega)).mono ?_; rintro e w' ⟨rfl, n, rfl⟩))
        go_ret
        exact ⟨rfl, grown_drewN _ _⟩
      · have n7 : (r == d) = false := by simpa using n6
        have n8 : (r == d + 1) = true := by rw [n3.resolve_left n6]; simp
        clear n3 n6
        go_enter Try.func4, Try.ntmps4
        go_wp2_with (first
          | (go_at_call 9; refine (first_any _).mono ?_; rintro e w' ⟨rfl, n, rfl⟩)
          | (go_at_call 12; refine (round_any _ _ _ (by omega) (by omega) (by omega) (by omega)).mono ?_; rintro e w' ⟨rfl, n, rfl⟩)
          | (go_at_call 13; refine (down_any _ _ _ (by omega) (by omega) (by omega) (by omega)).mono ?_; rintro e w' ⟨rfl, n, rfl⟩))
        go_ret
        exact ⟨rfl, grown_drewN _ _⟩

/-! ### THE ROW's STEP: WRITTEN OUT: LEAVE IT -/
set_option maxRecDepth 100000 in
theorem lifted (os : Os) (started : os.Started) (H : Type) (enc : TypeId × Value → H) :
    ReturnsInHanded {} Try.checked os 4 .any (Rows.fixedNearestSpec.pre6 enc Try.prog Try.f4 Rows.fixedNearestRow.domain false) (Rows.fixedNearestSpec.post enc Try.prog Try.f4 false true false false) := by
  refine returnsInHanded_of_change (C := Try.checked) own started (by kernel_rfl) Try.func4
    (ChangeSpec.witness6 (enc := enc) (C := Try.checked) false ⟨#[], #[.int .i64 0, .int .i64 0], []⟩ 8 (by kernel_rfl) (by kernel_rfl) (by kernel_rfl) (by kernel_rfl)) ?_
  intro W base args ds gs before hval0 hW hcnd _
  have hval : ∀ (j : Nat) t v, Try.f4.params[j]? = some t → args[j]? = some v → Value.okWide Try.prog W .any base t v := hval0
  have hW' := hW
  obtain ⟨p, q, hA0, hV, rfl, hfz, hnd⟩ := hW
  have hA : DataW.TrodAll enc Try.prog W 0 (fun _ => true) true Try.f4.params.toList args.toList ds p := hA0
  rw [Try.params4] at hA hval
  obtain ⟨v0, vs0, d0, ds0, p0, q0, hargs, rfl, rfl, h0, r0⟩ := trodAll_cons hA
  obtain ⟨v1, vs1, d1, ds1, p1, q1, rfl, rfl, rfl, h1, r1⟩ := trodAll_cons r0
  obtain ⟨rfl, rfl, rfl⟩ := trodAll_nil r1
  obtain rfl : args = #[v0, v1] := by cases args; simp_all
  obtain ⟨rfl, rfl⟩ := trodVars_none hV
  obtain ⟨a0, rfl, rfl, rfl, w0⟩ := open_int Try.underlying2 (hval 0 2 v0 rfl rfl) h0
  obtain ⟨a1, rfl, rfl, rfl, w1⟩ := open_int Try.underlying2 (hval 1 2 v1 rfl rfl) h1
  clear hA0 hval0
  simp only [List.append_nil] at hW'
  refine (walk a0 a1 w0 w1 W).mono fun e W' ⟨he, hg⟩ => ?_
  subst he
  exact ⟨_, rfl, post_of_same (pa := []) (pv := []) hW' (fun _ _ _ => (trodAll_cons_mk (shut_bool Try.underlying4 _) trodAll_mk0)) (fun sp _ => (trodAll_cons_mk (shut_int Try.underlying2 w0) (trodAll_cons_mk (shut_int Try.underlying2 w1) trodAll_mk0))) (fun _ _ => rfl) rfl
    (hg.frame _) hg.2.1 (ok_one (by kernel_rfl) rfl (okWide_bool_mk Try.underlying4 _))⟩

theorem over : Rows.fixedNearestRow.holds Try.pinned (OpenSpec.ofChange Rows.fixedNearestSpec) :=
  OpenClaim.holds_of_wide 4 Try.f4 rfl rfl rfl rfl rfl rfl rfl ⟨rfl, rfl, rfl, rfl, rfl⟩ rfl rfl rfl rfl rfl (by kernel_rfl) Try.func4 (by kernel_rfl)
    (of_decide_eq_true (by kernel_rfl)) (by unfold Func.isWrapper; first | (rw [if_pos (by decide +kernel)]; kernel_rfl) | (rw [if_neg (by decide +kernel)]; exact ⟨rfl, rfl⟩))
    (fun os started H enc _ => lifted os started H enc)

/-- ████ THE STATEMENT ████ -/
theorem proved : Rows.FixedNearestSaid :=
  over
end Go.Proofs.Ytehlehcbjoideaa.fixedNearest
namespace Go.Proofs.Ytehlehcbjoideaa
theorem fixedNearest_holds : Rows.FixedNearestSaid := fixedNearest.proved
#print axioms fixedNearest_holds
end Go.Proofs.Ytehlehcbjoideaa

/-
  The statement FixedCuts of layer 1 is proved for all five numbers, with no condition: cut to bounds a number is between them and stays if it was, and the nearest part of an opposite is the opposite but of halves.
-/
import Derived.Test.YtehlehcbjoideaaRows
import Derived.WalkKit
import Derived.ProofKit
import Derived.OpenShut
import Derived.Test.YtehlehcbjoideaaFixed
namespace Go.Proofs.Ytehlehcbjoideaa.fixedCuts
open Go.ChangeShapes Go.WideShapes Go.ChangeAt Go.RowKit
set_option linter.unusedVariables false      -- a walk need not use every 'w<i>' (that an integer argument fits its kind)

theorem own : ownKnob Try.prog.godebug = none := by kernel_rfl

set_option maxHeartbeats 8000000 in
theorem cuts_at (x lo hi a b : Int) (w : World) (b3 : -9223372036854775808 ≤ a ∧ a ≤ 9223372036854775807) (b4 : -9223372036854775808 ≤ b ∧ b ≤ 9223372036854775807)
    (lo' hi' : Int) (hlo : lo' = if hi < lo then hi else lo) (hhi : hi' = if hi < lo then lo else hi) (B' : Int) (hB' : (if b < 0 then -(b + 1) else b) = B') (A : Int) (hA : a / 8 = A) (B : Int) (hB : B' / 16 + 1 = B) :
    Calls Try.prog 7 #[.int .i64 x, .int .i64 lo, .int .i64 hi, .int .i64 a, .int .i64 b] w fun e w' => e = .returned (.bool true) ∧ Grown w w' := by
  have A0 : -1152921504606846976 ≤ A := by omega
  have A1 : A < 1152921504606846976 := by omega
  have B0 : 1 ≤ B := by split at hB' <;> omega
  have B1 : B ≤ 576460752303423488 := by split at hB' <;> omega
  have B2 : 0 ≤ B' := by split at hB' <;> omega
  obtain ⟨o1, o2⟩ := Plain.rnd_opp A B B0
  obtain ⟨n1, n2, n3, n4⟩ := Plain.rnd_near A B B0
  clear n4
  obtain ⟨d1, d2⟩ := Plain.dwn_near A B B0
  obtain ⟨d3, d4⟩ := Plain.div_small A B B0 A0 A1
  obtain ⟨y, hy⟩ : ∃ y, max (min x hi') lo' = y := ⟨_, rfl⟩
  have y0 : lo' ≤ y := by omega
  have y1 : y ≤ hi' := by split at hlo <;> split at hhi <;> omega
  have y2 : x < lo' ∨ (¬ x < lo' ∧ hi' < x) ∨ ¬ x < lo' ∧ ¬ hi' < x ∧ (y == x) = true := by
    by_cases c1 : x < lo'
    · exact Or.inl c1
    · by_cases c2 : hi' < x
      · exact Or.inr (Or.inl ⟨c1, c2⟩)
      · refine Or.inr (Or.inr ⟨c1, c2, ?_⟩)
        have : y = x := by omega
        rw [this]; simp
  obtain ⟨s, hs⟩ : ∃ s, Plain.rnd (-A) B = s := ⟨_, rfl⟩
  obtain ⟨r, hr⟩ : ∃ r, Plain.rnd A B = r := ⟨_, rfl⟩
  obtain ⟨d, hd⟩ : ∃ d, A / B = d := ⟨_, rfl⟩
  rw [hs, hr, hd] at o1 o2
  rw [hr, hd] at n3
  rw [hd] at d1 d2 d3 d4
  obtain ⟨D, hD⟩ : ∃ D, d * B = D := ⟨_, rfl⟩
  rw [hD] at o1 o2 d1 d2
  have r0 : r ≤ 1152921504606846976 := by omega
  have r1 : -1152921504606846976 ≤ r := by omega
  have h : (2 * (A - D) == B) = true ∧ (s == 1 - r) = true ∨ (2 * (A - D) == B) = false ∧ (s == -r) = true := by
    by_cases c : 2 * (A - D) = B
    · left; exact ⟨by rw [c]; simp, by rw [o1 c]; simp⟩
    · right; exact ⟨by simpa using c, by rw [o2 c]; simp⟩
  clear o1 o2 n1 n2 n3
  by_cases c : hi < lo <;> by_cases c2 : b < 0
  · rw [if_pos c] at hlo hhi
    rw [if_pos c2] at hB'
    subst hlo hhi
    rcases h with ⟨h1, h2⟩ | ⟨h1, h2⟩ <;> rcases y2 with y2 | ⟨y2, y3⟩ | ⟨y2, y3, y4⟩
    all_goals
      go_enter Try.func7, Try.ntmps7
      go_wp2_with (first
        | (go_at_call 9; refine (first_any _).mono ?_; rintro e w' ⟨rfl, m, rfl⟩)
        | (go_at_call 14; refine (clamp_any _ _ _ _).mono ?_; rintro e w' ⟨rfl, m, rfl⟩)
        | (go_at_call 12; refine (round_any _ _ _ (by omega) (by omega) (by omega) (by omega)).mono ?_; rintro e w' ⟨rfl, m, rfl⟩)
        | (go_at_call 13; refine (down_any _ _ _ (by omega) (by omega) (by omega) (by omega)).mono ?_; rintro e w' ⟨rfl, m, rfl⟩)
        | (go_at_call 15; refine (refDown_any _ _ _ (by omega) (by omega) (by omega) (by omega)).mono ?_; rintro e w' ⟨rfl, m, rfl⟩))
      go_ret
      exact ⟨rfl, grown_drewN _ _⟩
  · rw [if_pos c] at hlo hhi
    rw [if_neg c2] at hB'
    subst hlo hhi hB'
    rcases h with ⟨h1, h2⟩ | ⟨h1, h2⟩ <;> rcases y2 with y2 | ⟨y2, y3⟩ | ⟨y2, y3, y4⟩
    all_goals
      go_enter Try.func7, Try.ntmps7
      go_wp2_with (first
        | (go_at_call 9; refine (first_any _).mono ?_; rintro e w' ⟨rfl, m, rfl⟩)
        | (go_at_call 14; refine (clamp_any _ _ _ _).mono ?_; rintro e w' ⟨rfl, m, rfl⟩)
        | (go_at_call 12; refine (round_any _ _ _ (by omega) (by omega) (by omega) (by omega)).mono ?_; rintro e w' ⟨rfl, m, rfl⟩)
        | (go_at_call 13; refine (down_any _ _ _ (by omega) (by omega) (by omega) (by omega)).mono ?_; rintro e w' ⟨rfl, m, rfl⟩)
        | (go_at_call 15; refine (refDown_any _ _ _ (by omega) (by omega) (by omega) (by omega)).mono ?_; rintro e w' ⟨rfl, m, rfl⟩))
      go_ret
      exact ⟨rfl, grown_drewN _ _⟩
  · rw [if_neg c] at hlo hhi
    rw [if_pos c2] at hB'
    subst hlo hhi
    rcases h with ⟨h1, h2⟩ | ⟨h1, h2⟩ <;> rcases y2 with y2 | ⟨y2, y3⟩ | ⟨y2, y3, y4⟩
    all_goals
      go_enter Try.func7, Try.ntmps7
      go_wp2_with (first
        | (go_at_call 9; refine (first_any _).mono ?_; rintro e w' ⟨rfl, m, rfl⟩)
        | (go_at_call 14; refine (clamp_any _ _ _ _).mono ?_; rintro e w' ⟨rfl, m, rfl⟩)
        | (go_at_call 12; refine (round_any _ _ _ (by omega) (by omega) (by omega) (by omega)).mono ?_; rintro e w' ⟨rfl, m, rfl⟩)
        | (go_at_call 13; refine (down_any _ _ _ (by omega) (by omega) (by omega) (by omega)).mono ?_; rintro e w' ⟨rfl, m, rfl⟩)
        | (go_at_call 15; refine (refDown_any _ _ _ (by omega) (by omega) (by omega) (by omega)).mono ?_; rintro e w' ⟨rfl, m, rfl⟩))
      go_ret
      exact ⟨rfl, grown_drewN _ _⟩
  · rw [if_neg c] at hlo hhi
    rw [if_neg c2] at hB'
    subst hlo hhi hB'
    rcases h with ⟨h1, h2⟩ | ⟨h1, h2⟩ <;> rcases y2 with y2 | ⟨y2, y3⟩ | ⟨y2, y3, y4⟩
    all_goals
      go_enter Try.func7, Try.ntmps7
      go_wp2_with (first
        | (go_at_call 9; refine (first_any _).mono ?_; rintro e w' ⟨rfl, m, rfl⟩)
        | (go_at_call 14; refine (clamp_any _ _ _ _).mono ?_; rintro e w' ⟨rfl, m, rfl⟩)
        | (go_at_call 12; refine (round_any _ _ _ (by omega) (by omega) (by omega) (by omega)).mono ?_; rintro e w' ⟨rfl, m, rfl⟩)
        | (go_at_call 13; refine (down_any _ _ _ (by omega) (by omega) (by omega) (by omega)).mono ?_; rintro e w' ⟨rfl, m, rfl⟩)
        | (go_at_call 15; refine (refDown_any _ _ _ (by omega) (by omega) (by omega) (by omega)).mono ?_; rintro e w' ⟨rfl, m, rfl⟩))
      go_ret
      exact ⟨rfl, grown_drewN _ _⟩

/-! ### STEP 1: THE WALK: the Go text returns true. 'Grown w w'': the world has at most new blocks (Derived/RowKit3.lean). Part the cases AHEAD of 'go_enter' where a test parts the walk; take each callee by a contract of your own. -/
theorem walk (a0 : Int) (a1 : Int) (a2 : Int) (a3 : Int) (a4 : Int) (w0 : (Lit.int .i64 a0).wf = true) (w1 : (Lit.int .i64 a1).wf = true) (w2 : (Lit.int .i64 a2).wf = true) (w3 : (Lit.int .i64 a3).wf = true) (w4 : (Lit.int .i64 a4).wf = true) (w : World) :
    Calls Try.prog 7 #[.int .i64 a0, .int .i64 a1, .int .i64 a2, .int .i64 a3, .int .i64 a4] w fun e w' => e = .returned (.bool true) ∧ Grown w w' := by
  exact cuts_at a0 a1 a2 a3 a4 w (bounds_i64 w3) (bounds_i64 w4) _ _ rfl rfl _ rfl _ rfl _ rfl

/-! ### THE ROW's STEP: WRITTEN OUT: LEAVE IT -/
set_option maxRecDepth 100000 in
theorem lifted (os : Os) (started : os.Started) (H : Type) (enc : TypeId × Value → H) :
    ReturnsInHanded {} Try.checked os 7 .any (Rows.fixedCutsSpec.pre6 enc Try.prog Try.f7 Rows.fixedCutsRow.domain false) (Rows.fixedCutsSpec.post enc Try.prog Try.f7 false true false false) := by
  refine returnsInHanded_of_change (C := Try.checked) own started (by kernel_rfl) Try.func7
    (ChangeSpec.witness6 (enc := enc) (C := Try.checked) false ⟨#[], #[.int .i64 0, .int .i64 0, .int .i64 0, .int .i64 0, .int .i64 0], []⟩ 8 (by kernel_rfl) (by kernel_rfl) (by kernel_rfl) (by kernel_rfl)) ?_
  intro W base args ds gs before hval0 hW hcnd _
  have hval : ∀ (j : Nat) t v, Try.f7.params[j]? = some t → args[j]? = some v → Value.okWide Try.prog W .any base t v := hval0
  have hW' := hW
  obtain ⟨p, q, hA0, hV, rfl, hfz, hnd⟩ := hW
  have hA : DataW.TrodAll enc Try.prog W 0 (fun _ => true) true Try.f7.params.toList args.toList ds p := hA0
  rw [Try.params7] at hA hval
  obtain ⟨v0, vs0, d0, ds0, p0, q0, hargs, rfl, rfl, h0, r0⟩ := trodAll_cons hA
  obtain ⟨v1, vs1, d1, ds1, p1, q1, rfl, rfl, rfl, h1, r1⟩ := trodAll_cons r0
  obtain ⟨v2, vs2, d2, ds2, p2, q2, rfl, rfl, rfl, h2, r2⟩ := trodAll_cons r1
  obtain ⟨v3, vs3, d3, ds3, p3, q3, rfl, rfl, rfl, h3, r3⟩ := trodAll_cons r2
  obtain ⟨v4, vs4, d4, ds4, p4, q4, rfl, rfl, rfl, h4, r4⟩ := trodAll_cons r3
  obtain ⟨rfl, rfl, rfl⟩ := trodAll_nil r4
  obtain rfl : args = #[v0, v1, v2, v3, v4] := by cases args; simp_all
  obtain ⟨rfl, rfl⟩ := trodVars_none hV
  obtain ⟨a0, rfl, rfl, rfl, w0⟩ := open_int Try.underlying2 (hval 0 2 v0 rfl rfl) h0
  obtain ⟨a1, rfl, rfl, rfl, w1⟩ := open_int Try.underlying2 (hval 1 2 v1 rfl rfl) h1
  obtain ⟨a2, rfl, rfl, rfl, w2⟩ := open_int Try.underlying2 (hval 2 2 v2 rfl rfl) h2
  obtain ⟨a3, rfl, rfl, rfl, w3⟩ := open_int Try.underlying2 (hval 3 2 v3 rfl rfl) h3
  obtain ⟨a4, rfl, rfl, rfl, w4⟩ := open_int Try.underlying2 (hval 4 2 v4 rfl rfl) h4
  clear hA0 hval0
  simp only [List.append_nil] at hW'
  refine (walk a0 a1 a2 a3 a4 w0 w1 w2 w3 w4 W).mono fun e W' ⟨he, hg⟩ => ?_
  subst he
  exact ⟨_, rfl, post_of_same (pa := []) (pv := []) hW' (fun _ _ _ => (trodAll_cons_mk (shut_bool Try.underlying4 _) trodAll_mk0)) (fun sp _ => (trodAll_cons_mk (shut_int Try.underlying2 w0) (trodAll_cons_mk (shut_int Try.underlying2 w1) (trodAll_cons_mk (shut_int Try.underlying2 w2) (trodAll_cons_mk (shut_int Try.underlying2 w3) (trodAll_cons_mk (shut_int Try.underlying2 w4) trodAll_mk0)))))) (fun _ _ => rfl) rfl
    (hg.frame _) hg.2.1 (ok_one (by kernel_rfl) rfl (okWide_bool_mk Try.underlying4 _))⟩

theorem over : Rows.fixedCutsRow.holds Try.pinned (OpenSpec.ofChange Rows.fixedCutsSpec) :=
  OpenClaim.holds_of_wide 7 Try.f7 rfl rfl rfl rfl rfl rfl rfl ⟨rfl, rfl, rfl, rfl, rfl⟩ rfl rfl rfl rfl rfl (by kernel_rfl) Try.func7 (by kernel_rfl)
    (of_decide_eq_true (by kernel_rfl)) (by unfold Func.isWrapper; first | (rw [if_pos (by decide +kernel)]; kernel_rfl) | (rw [if_neg (by decide +kernel)]; exact ⟨rfl, rfl⟩))
    (fun os started H enc _ => lifted os started H enc)

/-- ████ THE STATEMENT ████ -/
theorem proved : Rows.FixedCutsSaid :=
  over
end Go.Proofs.Ytehlehcbjoideaa.fixedCuts
namespace Go.Proofs.Ytehlehcbjoideaa
theorem fixedCuts_holds : Rows.FixedCutsSaid := fixedCuts.proved
#print axioms fixedCuts_holds
end Go.Proofs.Ytehlehcbjoideaa

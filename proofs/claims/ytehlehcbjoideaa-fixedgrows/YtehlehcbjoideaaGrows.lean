/-
  The statement FixedGrows of layer 1 is proved for every four numbers, with no condition: of more the nearest part, the part down, the product over a third, the root and the cut are never less.
-/
import Derived.Test.YtehlehcbjoideaaRows
import Derived.WalkKit
import Derived.ProofKit
import Derived.OpenShut
import Derived.Test.YtehlehcbjoideaaMulDiv
import Derived.Test.YtehlehcbjoideaaMore
import Derived.Sort.AtCall
import Derived.Deep.Cut
namespace Go.Proofs.Ytehlehcbjoideaa.fixedGrows
open Go.ChangeShapes Go.WideShapes Go.ChangeAt Go.RowKit
set_option linter.unusedVariables false      -- a walk need not use every 'w<i>' (that an integer argument fits its kind)

theorem own : ownKnob Try.prog.godebug = none := by kernel_rfl

set_option maxHeartbeats 4000000 in
set_option maxRecDepth 100000 in
theorem grows_at (a b c d : Int) (w : World) (ba : -9223372036854775808 ≤ a ∧ a ≤ 9223372036854775807) (bb : -9223372036854775808 ≤ b ∧ b ≤ 9223372036854775807) (bc : -9223372036854775808 ≤ c ∧ c ≤ 9223372036854775807) (bd : -9223372036854775808 ≤ d ∧ d ≤ 9223372036854775807)
    (A B : Int) (hAB : Hid (b < a ∧ A = b ∧ B = a ∨ ¬ b < a ∧ A = a ∧ B = b)) (C' : Int) (hC' : Hid (c < 0 ∧ C' = -(c + 1) ∨ ¬ c < 0 ∧ C' = c)) (C : Int) (hC : C' / 16 + 1 = C)
    (E F D : Int) (hE : A / 8 = E) (hF : B / 8 = F) (hD : d / 2 = D) :
    Calls Try.prog 3 #[.int .i64 a, .int .i64 b, .int .i64 c, .int .i64 d] w fun e w' => e = .returned (.bool true) ∧ Grown w w' := by
  have le : A ≤ B := by have := hAB.out; omega
  have A0 : -9223372036854775808 ≤ A ∧ A ≤ 9223372036854775807 := by have := hAB.out; omega
  have B0 : -9223372036854775808 ≤ B ∧ B ≤ 9223372036854775807 := by have := hAB.out; omega
  have C'0 : 0 ≤ C' ∧ C' ≤ 9223372036854775807 := by have := hC'.out; omega
  have C0 : 1 ≤ C ∧ C ≤ 576460752303423488 := by omega
  have ha : ∃ S : Int, Hid (∀ w, Calls Try.prog 11 #[.int .i64 A] w fun e w' => e = .returned (.int .i64 S) ∧ ∃ n, w' = w.drewN n) ∧ (A < 0 ∧ S = 0 ∨ 0 ≤ S ∧ S * S ≤ A) := by
    by_cases h : A < 0
    · exact ⟨0, fun w => sqrt_none A w h, Or.inl ⟨h, rfl⟩⟩
    · obtain ⟨r, r0, r1, r2⟩ := Plain.root_ex A (by omega)
      exact ⟨r, fun w => sqrt_at A r w (by omega) (by omega) r0 r1 r2, Or.inr ⟨r0, r1⟩⟩
  have hb : ∃ S : Int, Hid (∀ w, Calls Try.prog 11 #[.int .i64 B] w fun e w' => e = .returned (.int .i64 S) ∧ ∃ n, w' = w.drewN n) ∧ 0 ≤ S ∧ (0 ≤ B → B < (S + 1) * (S + 1)) := by
    by_cases h : B < 0
    · exact ⟨0, fun w => sqrt_none B w h, by omega, fun g => by omega⟩
    · obtain ⟨r, r0, r1, r2⟩ := Plain.root_ex B (by omega)
      exact ⟨r, fun w => sqrt_at B r w (by omega) (by omega) r0 r1 r2, r0, fun _ => r2⟩
  obtain ⟨S, kS, hS⟩ := ha
  obtain ⟨T, kT, hT0, hT⟩ := hb
  have ST : S ≤ T := by
    rcases hS with ⟨_, rfl⟩ | ⟨s0, s1⟩
    · exact hT0
    · have : 0 ≤ S * S := Int.mul_nonneg s0 s0
      exact Plain.root_le A B S T le s1 s0 hT0 (hT (by omega))
  clear hS hT0 hT
  have mA := Plain.rnd_within (A * 3) 7 27670116110564327424 (by omega) (by omega) (by omega) (by omega)
  have kX : ∃ X Y : Int, Hid (∀ w, Calls Try.prog 10 #[.int .i64 A, .int .i64 3, .int .i64 7] w fun e w' => e = .returned (.tuple #[.int .i64 X, .bool true]) ∧ ∃ n, w' = w.drewN n) ∧
      Hid (∀ w, Calls Try.prog 10 #[.int .i64 B, .int .i64 3, .int .i64 7] w fun e w' => e = .returned (.tuple #[.int .i64 Y, .bool true]) ∧ ∃ n, w' = w.drewN n) ∧ X ≤ Y := by
    have f : ∀ z : Int, -9223372036854775808 ≤ z → z ≤ 9223372036854775807 → -9223372036854775808 ≤ Plain.rnd (z * 3) 7 ∧ Plain.rnd (z * 3) 7 ≤ 9223372036854775807 := by
      intro z z0 z1
      unfold Plain.rnd
      rw [if_neg (by omega)]
      omega
    exact ⟨_, _, fun w => mulDiv_yes A 3 7 w A0.1 A0.2 (by omega) (by omega) (by omega) (by omega) _ rfl (f A A0.1 A0.2).1 (f A A0.1 A0.2).2,
      fun w => mulDiv_yes B 3 7 w B0.1 B0.2 (by omega) (by omega) (by omega) (by omega) _ rfl (f B B0.1 B0.2).1 (f B B0.1 B0.2).2, Plain.rnd_mono _ _ _ (by omega) (by omega)⟩
  clear mA
  obtain ⟨X, Y, kX, kY, XY⟩ := kX
  have EF : E ≤ F := by omega
  have RE := Plain.rnd_mono E F C C0.1 EF
  have DE := Plain.div_mono E F C C0.1 EF
  obtain ⟨re, hre⟩ : ∃ x, Plain.rnd E C = x := ⟨_, rfl⟩
  obtain ⟨rf, hrf⟩ : ∃ x, Plain.rnd F C = x := ⟨_, rfl⟩
  obtain ⟨de, hde⟩ : ∃ x, E / C = x := ⟨_, rfl⟩
  obtain ⟨df, hdf⟩ : ∃ x, F / C = x := ⟨_, rfl⟩
  rw [hre, hrf] at RE
  rw [hde, hdf] at DE
  have k1 : Hid (∀ w, Calls Try.prog 12 #[.int .i64 E, .int .i64 C] w fun e w' => e = .returned (.int .i64 re) ∧ ∃ n, w' = w.drewN n) := by
    intro w; have := round_any E C w C0.1 (by omega) (by omega) (by omega); rw [hre] at this; exact this
  have k2 : Hid (∀ w, Calls Try.prog 12 #[.int .i64 F, .int .i64 C] w fun e w' => e = .returned (.int .i64 rf) ∧ ∃ n, w' = w.drewN n) := by
    intro w; have := round_any F C w C0.1 (by omega) (by omega) (by omega); rw [hrf] at this; exact this
  have k3 : Hid (∀ w, Calls Try.prog 13 #[.int .i64 E, .int .i64 C] w fun e w' => e = .returned (.int .i64 de) ∧ ∃ n, w' = w.drewN n) := by
    intro w; have := down_any E C w C0.1 (by omega) (by omega) (by omega); rw [hde] at this; exact this
  have k4 : Hid (∀ w, Calls Try.prog 13 #[.int .i64 F, .int .i64 C] w fun e w' => e = .returned (.int .i64 df) ∧ ∃ n, w' = w.drewN n) := by
    intro w; have := down_any F C w C0.1 (by omega) (by omega) (by omega); rw [hdf] at this; exact this
  have k5 : Hid (∀ w, Calls Try.prog 12 #[.int .i64 D, .int .i64 1] w fun e w' => e = .returned (.int .i64 D) ∧ ∃ n, w' = w.drewN n) := by
    intro w; have := round_any D 1 w (by omega) (by omega) (by omega) (by omega); rw [Plain.rnd_one] at this; exact this
  have k6 : Hid (∀ w, Calls Try.prog 12 #[.int .i64 d, .int .i64 0] w fun e w' => e = .returned (.int .i64 0) ∧ ∃ n, w' = w.drewN n) := fun w => round_none d 0 w (by omega)
  have kp : ∃ P Q : Int, Hid (∀ w, Calls Try.prog 14 #[.int .i64 A, .int .i64 (-1000), .int .i64 1000] w fun e w' => e = .returned (.int .i64 P) ∧ ∃ n, w' = w.drewN n) ∧
      Hid (∀ w, Calls Try.prog 14 #[.int .i64 B, .int .i64 (-1000), .int .i64 1000] w fun e w' => e = .returned (.int .i64 Q) ∧ ∃ n, w' = w.drewN n) ∧ P ≤ Q :=
    ⟨_, _, fun w => clamp_any A (-1000) 1000 w, fun w => clamp_any B (-1000) 1000 w, by omega⟩
  obtain ⟨P, Q, kP, kQ, PQ⟩ := kp
  clear hre hrf hde hdf
  go_enter Try.func3, Try.ntmps3
  go_upto_if 21 with (go_at_call 9; refine (first_any _).mono ?_; rintro e w' ⟨rfl, m, rfl⟩)
  go_cut [0, 1] from 16 (fun s t x => s = .int .i64 A ∧ t = .int .i64 B ∧ x = w.drewN m)
  case first =>
    clear kS kT kX kY k1 k2 k3 k4 k5 k6 kP kQ
    rcases hAB.out with ⟨ca, e1, e2⟩ | ⟨ca, e1, e2⟩
    · have E1 : Hid (A = b) := e1
      have E2 : Hid (B = a) := e2
      clear e1 e2
      go_wp2_with fail
      go_meet
      case rel => exact ⟨by rw [E1.out], by rw [E2.out], rfl⟩
    · have E1 : Hid (A = a) := e1
      have E2 : Hid (B = b) := e2
      clear e1 e2
      go_wp2_with fail
      go_meet
      case rel => exact ⟨by rw [E1.out], by rw [E2.out], rfl⟩
  case rest =>
    obtain ⟨rfl, rfl, rfl⟩ := hcut
    go_upto_if 39 with (first
      | (go_at_call_has 10 (Value.int .i64 A); refine (kX.out _).mono ?_; rintro e w' ⟨rfl, m1, rfl⟩)
      | (go_at_call_has 10 (Value.int .i64 B); refine (kY.out _).mono ?_; rintro e w' ⟨rfl, m2, rfl⟩))
    go_cut [2] from 16 (fun s x => s = .int .i64 C' ∧ x = w.drewN (m + m1 + m2))
    case first =>
      clear kS kT kX kY k1 k2 k3 k4 k5 k6 kP kQ
      rcases hC'.out with ⟨ca, e1⟩ | ⟨ca, e1⟩
      · have E1 : Hid (C' = -(c + 1)) := e1
        clear e1
        go_wp2_with fail
        go_meet
        case rel => exact ⟨by rw [E1.out], rfl⟩
      · have E1 : Hid (C' = c) := e1
        clear e1
        go_wp2_with fail
        go_meet
        case rel => exact ⟨by rw [E1.out], rfl⟩
    case rest =>
      obtain ⟨rfl, rfl⟩ := hcut
      clear kX kY
      go_wp2_with (first
        | (go_at_call_has 11 (Value.int .i64 A); refine (kS.out _).mono ?_; rintro e w' ⟨rfl, m, rfl⟩)
        | (go_at_call_has 11 (Value.int .i64 B); refine (kT.out _).mono ?_; rintro e w' ⟨rfl, m, rfl⟩)
        | (go_at_call_has 12 (Value.int .i64 E); refine (k1.out _).mono ?_; rintro e w' ⟨rfl, m, rfl⟩)
        | (go_at_call_has 12 (Value.int .i64 F); refine (k2.out _).mono ?_; rintro e w' ⟨rfl, m, rfl⟩)
        | (go_at_call_has 13 (Value.int .i64 E); refine (k3.out _).mono ?_; rintro e w' ⟨rfl, m, rfl⟩)
        | (go_at_call_has 13 (Value.int .i64 F); refine (k4.out _).mono ?_; rintro e w' ⟨rfl, m, rfl⟩)
        | (go_at_call_has 14 (Value.int .i64 A); refine (kP.out _).mono ?_; rintro e w' ⟨rfl, m, rfl⟩)
        | (go_at_call_has 14 (Value.int .i64 B); refine (kQ.out _).mono ?_; rintro e w' ⟨rfl, m, rfl⟩)
        | (go_at_call_has 12 (Value.int .i64 D); refine (k5.out _).mono ?_; rintro e w' ⟨rfl, m, rfl⟩)
        | (go_at_call_has 12 (Value.int .i64 d); refine (k6.out _).mono ?_; rintro e w' ⟨rfl, m, rfl⟩))
      go_ret
      exact ⟨rfl, grown_drewN _ _⟩
/-! ### STEP 1: THE WALK: the Go text returns true. 'Grown w w'': the world has at most new blocks (Derived/RowKit3.lean). Part the cases AHEAD of 'go_enter' where a test parts the walk; take each callee by a contract of your own. -/
theorem walk (a0 : Int) (a1 : Int) (a2 : Int) (a3 : Int) (w0 : (Lit.int .i64 a0).wf = true) (w1 : (Lit.int .i64 a1).wf = true) (w2 : (Lit.int .i64 a2).wf = true) (w3 : (Lit.int .i64 a3).wf = true) (w : World) :
    Calls Try.prog 3 #[.int .i64 a0, .int .i64 a1, .int .i64 a2, .int .i64 a3] w fun e w' => e = .returned (.bool true) ∧ Grown w w' := by
  exact grows_at a0 a1 a2 a3 w (bounds_i64 w0) (bounds_i64 w1) (bounds_i64 w2) (bounds_i64 w3) (if a1 < a0 then a1 else a0) (if a1 < a0 then a0 else a1)
    (by by_cases h : a1 < a0
        · exact Or.inl ⟨h, by rw [if_pos h], by rw [if_pos h]⟩
        · exact Or.inr ⟨h, by rw [if_neg h], by rw [if_neg h]⟩)
    (if a2 < 0 then -(a2 + 1) else a2)
    (by by_cases h : a2 < 0
        · exact Or.inl ⟨h, by rw [if_pos h]⟩
        · exact Or.inr ⟨h, by rw [if_neg h]⟩) _ rfl _ _ _ rfl rfl rfl

/-! ### THE ROW's STEP: WRITTEN OUT: LEAVE IT -/
set_option maxRecDepth 100000 in
theorem lifted (os : Os) (started : os.Started) (H : Type) (enc : TypeId × Value → H) :
    ReturnsInHanded {} Try.checked os 3 .any (Rows.fixedGrowsSpec.pre6 enc Try.prog Try.f3 Rows.fixedGrowsRow.domain false) (Rows.fixedGrowsSpec.post enc Try.prog Try.f3 false true false false) := by
  refine returnsInHanded_of_change (C := Try.checked) own started (by kernel_rfl) Try.func3
    (ChangeSpec.witness6 (enc := enc) (C := Try.checked) false ⟨#[], #[.int .i64 0, .int .i64 0, .int .i64 0, .int .i64 0], []⟩ 8 (by kernel_rfl) (by kernel_rfl) (by kernel_rfl) (by kernel_rfl)) ?_
  intro W base args ds gs before hval0 hW hcnd _
  have hval : ∀ (j : Nat) t v, Try.f3.params[j]? = some t → args[j]? = some v → Value.okWide Try.prog W .any base t v := hval0
  have hW' := hW
  obtain ⟨p, q, hA0, hV, rfl, hfz, hnd⟩ := hW
  have hA : DataW.TrodAll enc Try.prog W 0 (fun _ => true) true Try.f3.params.toList args.toList ds p := hA0
  rw [Try.params3] at hA hval
  obtain ⟨v0, vs0, d0, ds0, p0, q0, hargs, rfl, rfl, h0, r0⟩ := trodAll_cons hA
  obtain ⟨v1, vs1, d1, ds1, p1, q1, rfl, rfl, rfl, h1, r1⟩ := trodAll_cons r0
  obtain ⟨v2, vs2, d2, ds2, p2, q2, rfl, rfl, rfl, h2, r2⟩ := trodAll_cons r1
  obtain ⟨v3, vs3, d3, ds3, p3, q3, rfl, rfl, rfl, h3, r3⟩ := trodAll_cons r2
  obtain ⟨rfl, rfl, rfl⟩ := trodAll_nil r3
  obtain rfl : args = #[v0, v1, v2, v3] := by cases args; simp_all
  obtain ⟨rfl, rfl⟩ := trodVars_none hV
  obtain ⟨a0, rfl, rfl, rfl, w0⟩ := open_int Try.underlying2 (hval 0 2 v0 rfl rfl) h0
  obtain ⟨a1, rfl, rfl, rfl, w1⟩ := open_int Try.underlying2 (hval 1 2 v1 rfl rfl) h1
  obtain ⟨a2, rfl, rfl, rfl, w2⟩ := open_int Try.underlying2 (hval 2 2 v2 rfl rfl) h2
  obtain ⟨a3, rfl, rfl, rfl, w3⟩ := open_int Try.underlying2 (hval 3 2 v3 rfl rfl) h3
  clear hA0 hval0
  simp only [List.append_nil] at hW'
  refine (walk a0 a1 a2 a3 w0 w1 w2 w3 W).mono fun e W' ⟨he, hg⟩ => ?_
  subst he
  exact ⟨_, rfl, post_of_same (pa := []) (pv := []) hW' (fun _ _ _ => (trodAll_cons_mk (shut_bool Try.underlying4 _) trodAll_mk0)) (fun sp _ => (trodAll_cons_mk (shut_int Try.underlying2 w0) (trodAll_cons_mk (shut_int Try.underlying2 w1) (trodAll_cons_mk (shut_int Try.underlying2 w2) (trodAll_cons_mk (shut_int Try.underlying2 w3) trodAll_mk0))))) (fun _ _ => rfl) rfl
    (hg.frame _) hg.2.1 (ok_one (by kernel_rfl) rfl (okWide_bool_mk Try.underlying4 _))⟩

theorem over : Rows.fixedGrowsRow.holds Try.pinned (OpenSpec.ofChange Rows.fixedGrowsSpec) :=
  OpenClaim.holds_of_wide 3 Try.f3 rfl rfl rfl rfl rfl rfl rfl ⟨rfl, rfl, rfl, rfl, rfl⟩ rfl rfl rfl rfl rfl (by kernel_rfl) Try.func3 (by kernel_rfl)
    (of_decide_eq_true (by kernel_rfl)) (by unfold Func.isWrapper; first | (rw [if_pos (by decide +kernel)]; kernel_rfl) | (rw [if_neg (by decide +kernel)]; exact ⟨rfl, rfl⟩))
    (fun os started H enc _ => lifted os started H enc)

/-- ████ THE STATEMENT ████ -/
theorem proved : Rows.FixedGrowsSaid :=
  over
end Go.Proofs.Ytehlehcbjoideaa.fixedGrows
namespace Go.Proofs.Ytehlehcbjoideaa
theorem fixedGrows_holds : Rows.FixedGrowsSaid := fixedGrows.proved
#print axioms fixedGrows_holds
end Go.Proofs.Ytehlehcbjoideaa

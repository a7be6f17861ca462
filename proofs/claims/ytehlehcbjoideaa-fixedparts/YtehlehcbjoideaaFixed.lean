/-
  What Round, Down, Clamp, Sqrt and the inner division of package fixed answer, walked over the program.
-/
import Derived.Test.YtehlehcbjoideaaRows
import Derived.WalkKit
import Derived.WalkSpells
import Derived.WalkLawsBesides
import Derived.Deep.QuietTactic
import Derived.BigQuiet
import Derived.Deep.RegionWith
import Derived.Test.YtehlehcbjoideaaPlain
namespace Go.Proofs.Ytehlehcbjoideaa
open Go.RowKit

theorem ret_int {k : IntKind} {a b : Int} (h : a = b) : Ending.returned (.int k a) = .returned (.int k b) := by rw [h]
theorem ret_int2 {k l : IntKind} {a b c d : Int} (h : a = b) (g : c = d) : Ending.returned (.tuple #[.int k a, .int l c]) = .returned (.tuple #[.int k b, .int l d]) := by rw [h, g]

theorem divide_any (a b : Int) (w : World) (hb : 1 ≤ b) (hb1 : b ≤ 9223372036854775807) (h0 : -9223372036854775808 ≤ a) (h1 : a ≤ 9223372036854775807) :
    Calls Try.prog 20 #[.int .i64 a, .int .i64 b] w fun e w' => e = .returned (.tuple #[.int .i64 (a / b), .int .i64 (a % b)]) ∧ ∃ n, w' = w.drewN n := by
  obtain ⟨s1, s2, s3⟩ := Plain.div_spec a b hb
  obtain ⟨s4, s5⟩ := Plain.div_bounds a b hb h0 h1
  clear s1
  by_cases ha : 0 ≤ a
  · go_enter Try.func20, Try.ntmps20
    go_wp2
    go_quiet (fail)
    go_wp2
    go_ret2
    exact ⟨rfl, nq, rfl⟩
  · have s6 := Plain.div_neg a b hb (by omega)
    rcases Plain.tdiv_neg a b hb (by omega) with ⟨t1, t2, t3⟩ | ⟨t1, t2, t3⟩
    · go_enter Try.func20, Try.ntmps20
      go_wp2
      go_quiet (fail)
      go_wp2
      go_ret2
      exact ⟨ret_int2 rfl t1.symm, nq, rfl⟩
    · go_enter Try.func20, Try.ntmps20
      go_wp2
      go_quiet (fail)
      go_wp2
      go_ret2
      exact ⟨by simp, nq, rfl⟩

theorem round_any (a b : Int) (w : World) (hb : 1 ≤ b) (hb1 : b ≤ 9223372036854775807) (h0 : -9223372036854775808 ≤ a) (h1 : a ≤ 9223372036854775807) :
    Calls Try.prog 12 #[.int .i64 a, .int .i64 b] w fun e w' => e = .returned (.int .i64 (Plain.rnd a b)) ∧ ∃ n, w' = w.drewN n := by
  obtain ⟨s1, s2, s3⟩ := Plain.div_spec a b hb
  obtain ⟨s4, s5⟩ := Plain.div_bounds a b hb h0 h1
  clear s1
  by_cases h : b - a % b ≤ a % b
  · rw [Plain.rnd_up a b hb h]
    have s6 := Plain.up_fits a b hb h1 h
    go_enter Try.func12, Try.ntmps12
    go_wp2_with (go_at_call 20; refine (divide_any a b _ hb hb1 h0 h1).mono ?_; rintro e w' ⟨rfl, n, rfl⟩)
    go_ret
    exact ⟨rfl, n, rfl⟩
  · rw [Plain.rnd_dn a b hb (by omega)]
    go_enter Try.func12, Try.ntmps12
    go_wp2_with (go_at_call 20; refine (divide_any a b _ hb hb1 h0 h1).mono ?_; rintro e w' ⟨rfl, n, rfl⟩)
    go_ret
    exact ⟨rfl, n, rfl⟩

theorem round_none (a b : Int) (w : World) (hb : b < 1) :
    Calls Try.prog 12 #[.int .i64 a, .int .i64 b] w fun e w' => e = .returned (.int .i64 0) ∧ ∃ n, w' = w.drewN n := by
  go_enter Try.func12, Try.ntmps12
  go_wp2
  go_ret
  exact ⟨rfl, 0, rfl⟩

theorem down_any (a b : Int) (w : World) (hb : 1 ≤ b) (hb1 : b ≤ 9223372036854775807) (h0 : -9223372036854775808 ≤ a) (h1 : a ≤ 9223372036854775807) :
    Calls Try.prog 13 #[.int .i64 a, .int .i64 b] w fun e w' => e = .returned (.int .i64 (a / b)) ∧ ∃ n, w' = w.drewN n := by
  go_enter Try.func13, Try.ntmps13
  go_wp2_with (go_at_call 20; refine (divide_any a b _ hb hb1 h0 h1).mono ?_; rintro e w' ⟨rfl, n, rfl⟩)
  go_ret
  exact ⟨rfl, n, rfl⟩

theorem down_none (a b : Int) (w : World) (hb : b < 1) :
    Calls Try.prog 13 #[.int .i64 a, .int .i64 b] w fun e w' => e = .returned (.int .i64 0) ∧ ∃ n, w' = w.drewN n := by
  go_enter Try.func13, Try.ntmps13
  go_wp2
  go_ret
  exact ⟨rfl, 0, rfl⟩

theorem refDown_any (a b : Int) (w : World) (hb : 1 ≤ b) (hb1 : b ≤ 9223372036854775807) (h0 : -9223372036854775808 ≤ a) (h1 : a ≤ 9223372036854775807) :
    Calls Try.prog 15 #[.int .i64 a, .int .i64 b] w fun e w' => e = .returned (.int .i64 (a / b)) ∧ ∃ n, w' = w.drewN n := by
  obtain ⟨s1, s2, s3⟩ := Plain.div_spec a b hb
  obtain ⟨s4, s5⟩ := Plain.div_bounds a b hb h0 h1
  clear s1
  by_cases ha : 0 ≤ a
  · go_enter Try.func15, Try.ntmps15
    go_wp2
    go_ret
    exact ⟨rfl, 0, rfl⟩
  · have s6 := Plain.div_neg a b hb (by omega)
    rcases Plain.tdiv_neg a b hb (by omega) with ⟨t1, t2, t3⟩ | ⟨t1, t2, t3⟩
    · go_enter Try.func15, Try.ntmps15
      go_wp2
      go_ret
      exact ⟨rfl, 0, rfl⟩
    · go_enter Try.func15, Try.ntmps15
      go_wp2
      go_ret
      exact ⟨by simp, 0, rfl⟩

theorem clamp_any (x lo hi : Int) (w : World) :
    Calls Try.prog 14 #[.int .i64 x, .int .i64 lo, .int .i64 hi] w fun e w' => e = .returned (.int .i64 (max (min x hi) lo)) ∧ ∃ n, w' = w.drewN n := by
  by_cases c1 : hi < x
  · by_cases c2 : hi < lo
    · go_enter Try.func14, Try.ntmps14
      go_wp2
      go_ret
      exact ⟨ret_int (by omega), 0, rfl⟩
    · go_enter Try.func14, Try.ntmps14
      go_wp2
      go_ret
      exact ⟨ret_int (by omega), 0, rfl⟩
  · by_cases c2 : x < lo
    · go_enter Try.func14, Try.ntmps14
      go_wp2
      go_ret
      exact ⟨ret_int (by omega), 0, rfl⟩
    · go_enter Try.func14, Try.ntmps14
      go_wp2
      go_ret
      exact ⟨ret_int (by omega), 0, rfl⟩

theorem sqrt_none (n : Int) (w : World) (hn : n < 0) :
    Calls Try.prog 11 #[.int .i64 n] w fun e w' => e = .returned (.int .i64 0) ∧ ∃ n, w' = w.drewN n := by
  go_enter Try.func11, Try.ntmps11
  go_wp2
  go_ret
  exact ⟨rfl, 0, rfl⟩

theorem sqrt_any (n : Int) (w : World) (h0 : 0 ≤ n) (h1 : n ≤ 9223372036854775807) :
    Calls Try.prog 11 #[.int .i64 n] w fun e w' => ∃ r : Int, e = .returned (.int .i64 r) ∧ 0 ≤ r ∧ r * r ≤ n ∧ n < (r + 1) * (r + 1) ∧ r ≤ 3037000499 ∧ ∃ n, w' = w.drewN n := by
  have hs := Plain.sq_start n h0 h1
  go_enter Try.func11, Try.ntmps11
  go_wp2
  go_loop [3, 4] (fun r b => ∃ R B : Int, r = .int .u64 R ∧ b = .int .u64 B ∧ Plain.SqInv n R B ∧ 0 ≤ B) (fun _ b => (intOf b).toNat)
  case atStart => exact ⟨0, 2147483648, rfl, rfl, hs, by omega⟩
  case round =>
    obtain ⟨R, B, rfl, rfl, hI, hB⟩ := hrel
    clear hs
    by_cases hB0 : 0 < B
    · obtain ⟨j1, j2, j3, j4, j5, j6, j7, j8⟩ := Plain.sq_join n R B hI hB0
      have hor : bits .or .u64 R B = R + B := by rw [u64_or R B j1 j2 (by omega) j3]; exact j4
      clear j4
      by_cases hq : (R + B) * (R + B) ≤ n
      · obtain ⟨hI2, hlt⟩ := Plain.sq_yes n R B hI hB0 hq
        clear hI
        go_wp2
        go_round
        case rel => exact ⟨R + B, B / 2, rfl, rfl, hI2, by omega⟩
        case measure => simp [intOf]; omega
      · obtain ⟨hI2, hlt⟩ := Plain.sq_no n R B hI hB0 (by omega)
        clear hI
        go_wp2
        go_round
        case rel => exact ⟨R, B / 2, rfl, rfl, hI2, by omega⟩
        case measure => simp [intOf]; omega
    · obtain ⟨k1, k2, k3, k4⟩ := Plain.sq_end n R B hI (by omega)
      have k5 := Plain.root_max n R h1 k1 k2
      clear hI
      go_wp2
      go_ret
      exact ⟨R, rfl, k1, k2, k3, k5, 0, rfl⟩

theorem sqrt_at (n s : Int) (w : World) (h0 : 0 ≤ n) (h1 : n ≤ 9223372036854775807) (s0 : 0 ≤ s) (s1 : s * s ≤ n) (s2 : n < (s + 1) * (s + 1)) :
    Calls Try.prog 11 #[.int .i64 n] w fun e w' => e = .returned (.int .i64 s) ∧ ∃ n, w' = w.drewN n :=
  (sqrt_any n w h0 h1).mono fun _ _ ⟨r, he, r0, r1, r2, _, hw⟩ => ⟨he.trans (ret_int (Plain.root_eq n r s r1 r2 r0 s0 s1 s2)), hw⟩

theorem first_any (w : World) :
    Calls Try.prog 9 #[] w fun e w' => e = .returned (.bool true) ∧ ∃ n, w' = w.drewN n := by
  have e1 : Plain.rnd (-1) 2 = 0 := by decide
  have e2 : Plain.rnd 3 2 = 2 := by decide
  go_enter Try.func9, Try.ntmps9
  go_wp2_with (first
    | (go_at_call 12; refine (round_any _ _ _ (by omega) (by omega) (by omega) (by omega)).mono ?_; rintro e w' ⟨rfl, n, rfl⟩)
    | (go_at_call 11; refine (sqrt_any _ _ (by omega) (by omega)).mono ?_; rintro e w' ⟨r, rfl, r1, r2, r3, r4, n, rfl⟩; obtain rfl := Plain.root_eq 17 r 4 r2 r3 r1 (by omega) (by omega) (by omega)))
  go_ret
  exact ⟨rfl, _, rfl⟩

theorem grown_drewN (w : World) (n : Nat) : Grown w (w.drewN n) := Grown.refl w

end Go.Proofs.Ytehlehcbjoideaa

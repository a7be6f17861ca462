/-
  What MulDiv of package fixed answers, walked over the program: the nearest of the product over the third, or nothing where it is beyond.
-/
import Derived.Test.YtehlehcbjoideaaDiv
namespace Go.Proofs.Ytehlehcbjoideaa
open Go.RowKit
set_option linter.unusedVariables false

theorem ret_ib {k : IntKind} {a b : Int} {c d : Bool} (h : a = b) (g : c = d) : Ending.returned (.tuple #[.int k a, .bool c]) = .returned (.tuple #[.int k b, .bool d]) := by rw [h, g]

theorem wrap_neg (x : Int) (h0 : 0 ≤ x) (h1 : x ≤ 9223372036854775808) : wrap64 (IntKind.u64.wrap (-x)) = -x := by
  rw [IntKind.wrap_u64]; unfold wrap64; omega

theorem wrap_size (x : Int) (h0 : -9223372036854775808 ≤ x) (h1 : x < 0) : IntKind.u64.wrap (-IntKind.u64.wrap x) = -x := by
  rw [IntKind.wrap_u64, IntKind.wrap_u64]; omega

theorem size_any (a A : Int) (w : World) (h0 : -9223372036854775808 ≤ a) (h1 : a ≤ 9223372036854775807) (hA : a < 0 ∧ A = -a ∨ 0 ≤ a ∧ A = a) :
    Calls Try.prog 17 #[.int .i64 a] w fun e w' => e = .returned (.int .u64 A) ∧ ∃ n, w' = w.drewN n := by
  rcases hA with ⟨h, rfl⟩ | ⟨h, rfl⟩
  · go_enter Try.func17, Try.ntmps17
    go_wp2
    go_ret
    exact ⟨ret_int (wrap_size a h0 h), 0, rfl⟩
  · go_enter Try.func17, Try.ntmps17
    go_wp2
    go_ret
    exact ⟨rfl, 0, rfl⟩

/-- The nearest to q + r / d, of two the greater, or to what is opposite to it. -/
def sgn (q r d : Int) (below : Bool) : Int := if below then -(q + if d < 2 * r then 1 else 0) else q + (if d ≤ 2 * r then 1 else 0)

theorem half_ways (r d : Int) : (d < 2 * r ∧ (2 * r == d) = false) ∨ (¬ d < 2 * r ∧ (2 * r == d) = true ∧ Hid (2 * r = d)) ∨ (¬ d < 2 * r ∧ (2 * r == d) = false ∧ 2 * r < d) := by
  by_cases c : 2 * r = d
  · right; left; exact ⟨by omega, by rw [c]; simp, c⟩
  · by_cases c2 : d < 2 * r
    · left; exact ⟨c2, by simpa using c⟩
    · right; right; exact ⟨c2, by simpa using c, by omega⟩

theorem signed_yes (q r d : Int) (below : Bool) (w : World) (q0 : 0 ≤ q) (q1 : q < 18446744073709551616) (r0 : 0 ≤ r) (r1 : r < d) (d1 : d < 9223372036854775808)
    (S : Int) (hS : sgn q r d below = S) (s0 : -9223372036854775808 ≤ S) (s1 : S ≤ 9223372036854775807) :
    Calls Try.prog 19 #[.int .u64 q, .int .u64 r, .int .u64 d, .bool below] w fun e w' => e = .returned (.tuple #[.int .i64 S, .bool true]) ∧ ∃ n, w' = w.drewN n := by
  unfold sgn at hS
  cases below
  · rw [if_neg (by simp)] at hS
    rcases half_ways r d with ⟨k1, k2⟩ | ⟨k1, k2, k3⟩ | ⟨k1, k2, k3⟩
    · rw [if_pos (by omega)] at hS
      subst hS
      go_enter Try.func19, Try.ntmps19
      go_wp2
      go_ret2
      exact ⟨rfl, 0, rfl⟩
    · rw [if_pos (by have := k3.out; omega)] at hS
      subst hS
      go_enter Try.func19, Try.ntmps19
      go_wp2
      go_ret2
      exact ⟨rfl, 0, rfl⟩
    · rw [if_neg (by omega)] at hS
      simp only [Int.add_zero] at hS
      subst hS
      go_enter Try.func19, Try.ntmps19
      go_wp2
      go_ret2
      exact ⟨rfl, 0, rfl⟩
  · rw [if_pos rfl] at hS
    rcases half_ways r d with ⟨k1, k2⟩ | ⟨k1, k2, k3⟩ | ⟨k1, k2, k3⟩
    · rw [if_pos (by omega)] at hS
      subst hS
      have e := wrap_neg (q + 1) (by omega) (by omega)
      go_enter Try.func19, Try.ntmps19
      go_wp2
      go_ret2
      exact ⟨ret_ib (by first | rfl | exact e | (simp only [wrap64, IntKind.wrap_u64]; omega)) rfl, 0, rfl⟩
    · rw [if_neg (by omega)] at hS
      simp only [Int.add_zero] at hS
      subst hS
      have e := wrap_neg q (by omega) (by omega)
      go_enter Try.func19, Try.ntmps19
      go_wp2
      go_ret2
      exact ⟨ret_ib (by first | rfl | exact e | (simp only [wrap64, IntKind.wrap_u64]; omega)) rfl, 0, rfl⟩
    · rw [if_neg (by omega)] at hS
      simp only [Int.add_zero] at hS
      subst hS
      have e := wrap_neg q (by omega) (by omega)
      go_enter Try.func19, Try.ntmps19
      go_wp2
      go_ret2
      exact ⟨ret_ib (by first | rfl | exact e | (simp only [wrap64, IntKind.wrap_u64]; omega)) rfl, 0, rfl⟩

theorem signed_no (q r d : Int) (below : Bool) (w : World) (q0 : 0 ≤ q) (q1 : q < 18446744073709551616) (r0 : 0 ≤ r) (r1 : r < d) (d1 : d < 9223372036854775808)
    (hS : sgn q r d below < -9223372036854775808 ∨ 9223372036854775807 < sgn q r d below) :
    Calls Try.prog 19 #[.int .u64 q, .int .u64 r, .int .u64 d, .bool below] w fun e w' => e = .returned (.tuple #[.int .i64 0, .bool false]) ∧ ∃ n, w' = w.drewN n := by
  by_cases c : 9223372036854775808 < q
  · go_enter Try.func19, Try.ntmps19
    go_wp2
    go_ret2
    exact ⟨rfl, 0, rfl⟩
  · unfold sgn at hS
    cases below
    · rw [if_neg (by simp)] at hS
      rcases half_ways r d with ⟨k1, k2⟩ | ⟨k1, k2, k3⟩ | ⟨k1, k2, k3⟩
      · rw [if_pos (by omega)] at hS
        have c2 : ¬ q + 1 < 9223372036854775808 := by omega
        go_enter Try.func19, Try.ntmps19
        go_wp2
        go_ret2
        exact ⟨rfl, 0, rfl⟩
      · rw [if_pos (by have := k3.out; omega)] at hS
        have c2 : ¬ q + 1 < 9223372036854775808 := by omega
        go_enter Try.func19, Try.ntmps19
        go_wp2
        go_ret2
        exact ⟨rfl, 0, rfl⟩
      · rw [if_neg (by omega)] at hS
        have c2 : ¬ q < 9223372036854775808 := by omega
        go_enter Try.func19, Try.ntmps19
        go_wp2
        go_ret2
        exact ⟨rfl, 0, rfl⟩
    · rw [if_pos rfl] at hS
      rcases half_ways r d with ⟨k1, k2⟩ | ⟨k1, k2, k3⟩ | ⟨k1, k2, k3⟩
      · rw [if_pos (by omega)] at hS
        have c2 : ¬ q + 1 ≤ 9223372036854775808 := by omega
        go_enter Try.func19, Try.ntmps19
        go_wp2
        go_ret2
        exact ⟨rfl, 0, rfl⟩
      · rw [if_neg (by omega)] at hS
        exfalso
        omega
      · rw [if_neg (by omega)] at hS
        exfalso
        omega

theorem sgn_up (N c : Int) (hc : 1 ≤ c) : sgn (N / c) (N % c) c false = Plain.rnd N c := by
  unfold sgn
  rw [if_neg (by simp)]
  by_cases h : c ≤ 2 * (N % c)
  · rw [if_pos h, Plain.rnd_up N c hc (by omega)]
  · rw [if_neg h, Plain.rnd_dn N c hc (by omega)]; omega

theorem sgn_down (N c : Int) (hc : 1 ≤ c) : sgn (N / c) (N % c) c true = Plain.rnd (-N) c := by
  have o := Plain.rnd_opp N c hc
  obtain ⟨s1, s2, s3⟩ := Plain.div_spec N c hc
  have e : N - N / c * c = N % c := by rw [Int.mul_comm (N / c)]; omega
  rw [e] at o
  unfold sgn
  rw [if_pos rfl]
  by_cases h : 2 * (N % c) = c
  · rw [if_neg (by omega), o.1 h, Plain.rnd_up N c hc (by omega)]; omega
  · rw [o.2 h]
    by_cases g : c < 2 * (N % c)
    · rw [if_pos g, Plain.rnd_up N c hc (by omega)]
    · rw [if_neg g, Plain.rnd_dn N c hc (by omega)]; omega

/-- The product of the sizes, by the signs. -/
theorem sizes_mul (a b A B : Int) (hA : a < 0 ∧ A = -a ∨ 0 ≤ a ∧ A = a) (hB : b < 0 ∧ B = -b ∨ 0 ≤ b ∧ B = b) :
    (decide (a < 0) != decide (b < 0)) = false ∧ A * B = a * b ∨ (decide (a < 0) != decide (b < 0)) = true ∧ A * B = -(a * b) := by
  rcases hA with ⟨h, rfl⟩ | ⟨h, rfl⟩ <;> rcases hB with ⟨g, rfl⟩ | ⟨g, rfl⟩
  · left; exact ⟨by simp [h, g], by rw [Int.neg_mul_neg]⟩
  · right; exact ⟨by simp [h, Int.not_lt.2 g], by rw [Int.neg_mul]⟩
  · right; exact ⟨by simp [g, Int.not_lt.2 h], by rw [Int.mul_neg]⟩
  · left; exact ⟨by simp [Int.not_lt.2 g, Int.not_lt.2 h], rfl⟩

theorem sgn_of (a b c A B : Int) (hc : 1 ≤ c) (hA : a < 0 ∧ A = -a ∨ 0 ≤ a ∧ A = a) (hB : b < 0 ∧ B = -b ∨ 0 ≤ b ∧ B = b) :
    sgn (A * B / c) (A * B % c) c (decide (a < 0) != decide (b < 0)) = Plain.rnd (a * b) c := by
  rcases sizes_mul a b A B hA hB with ⟨h, e⟩ | ⟨h, e⟩
  · rw [h, sgn_up _ c hc, e]
  · rw [h, sgn_down _ c hc, e, Int.neg_neg]

theorem sgn_far (q r d : Int) (below : Bool) (q0 : 18446744073709551616 ≤ q) : sgn q r d below < -9223372036854775808 ∨ 9223372036854775807 < sgn q r d below := by
  unfold sgn
  cases below
  · rw [if_neg (by simp)]; split <;> omega
  · rw [if_pos rfl]; split <;> omega

theorem size_ex (a : Int) (h0 : -9223372036854775808 ≤ a) (h1 : a ≤ 9223372036854775807) : ∃ A, (a < 0 ∧ A = -a ∨ 0 ≤ a ∧ A = a) ∧ 0 ≤ A ∧ A ≤ 9223372036854775808 := by
  by_cases h : a < 0
  · exact ⟨-a, Or.inl ⟨h, rfl⟩, by omega, by omega⟩
  · exact ⟨a, Or.inr ⟨by omega, rfl⟩, by omega, by omega⟩

set_option maxHeartbeats 400000 in
theorem mulDiv_walk (a b c : Int) (w : World) (a0 : -9223372036854775808 ≤ a) (a1 : a ≤ 9223372036854775807) (b0 : -9223372036854775808 ≤ b) (b1 : b ≤ 9223372036854775807) (c0 : 1 ≤ c) (c1 : c ≤ 9223372036854775807)
    (A B N H Lo Q R : Int) (hA : a < 0 ∧ A = -a ∨ 0 ≤ a ∧ A = a) (hB : b < 0 ∧ B = -b ∨ 0 ≤ b ∧ B = b)
    (hm : Hid (∀ w, Calls Try.prog 16 #[.int .u64 A, .int .u64 B] w fun e w' => e = .returned (.tuple #[.int .u64 H, .int .u64 Lo]) ∧ ∃ n, w' = w.drewN n))
    (hd : Hid (∀ w, Calls Try.prog 18 #[.int .u64 H, .int .u64 Lo, .int .u64 c] w fun e w' => e = .returned (.tuple #[.int .u64 Q, .int .u64 R]) ∧ ∃ n, w' = w.drewN n))
    (hH : H < c) (F : Int) (ok : Bool)
    (hs : Hid (∀ w, Calls Try.prog 19 #[.int .u64 Q, .int .u64 R, .int .u64 c, .bool (decide (a < 0) != decide (b < 0))] w fun e w' => e = .returned (.tuple #[.int .i64 F, .bool ok]) ∧ ∃ n, w' = w.drewN n)) :
    Calls Try.prog 10 #[.int .i64 a, .int .i64 b, .int .i64 c] w fun e w' => e = .returned (.tuple #[.int .i64 F, .bool ok]) ∧ ∃ n, w' = w.drewN n := by
  have za : Hid (∀ w, Calls Try.prog 17 #[.int .i64 a] w fun e w' => e = .returned (.int .u64 A) ∧ ∃ n, w' = w.drewN n) := fun w => size_any a A w a0 a1 hA
  have zb : Hid (∀ w, Calls Try.prog 17 #[.int .i64 b] w fun e w' => e = .returned (.int .u64 B) ∧ ∃ n, w' = w.drewN n) := fun w => size_any b B w b0 b1 hB
  clear hA hB
  by_cases ca : a < 0 <;> by_cases cb : b < 0
  · rw [show (decide (a < 0) != decide (b < 0)) = false by simp [ca, cb]] at hs
    have da : decide (a < 0) = true := by simpa using ca
    have db : decide (b < 0) = true := by simpa using cb
    go_enter Try.func10, Try.ntmps10
    go_wp2_with (first
      | (go_at_call_of 17 (Value.int .i64 a); refine (za.out _).mono ?_; rintro e w' ⟨rfl, m, rfl⟩)
      | (go_at_call_of 17 (Value.int .i64 b); refine (zb.out _).mono ?_; rintro e w' ⟨rfl, m, rfl⟩)
      | (go_at_call 16; refine (hm.out _).mono ?_; rintro e w' ⟨rfl, m, rfl⟩)
      | (go_at_call 18; refine (hd.out _).mono ?_; rintro e w' ⟨rfl, m, rfl⟩)
      | (go_at_call 19; refine (hs.out _).mono ?_; rintro e w' ⟨rfl, m, rfl⟩))
    go_ret2
    exact ⟨rfl, _, rfl⟩
  · rw [show (decide (a < 0) != decide (b < 0)) = true by simp [ca, cb]] at hs
    have da : decide (a < 0) = true := by simpa using ca
    have db : decide (b < 0) = false := by simpa using cb
    go_enter Try.func10, Try.ntmps10
    go_wp2_with (first
      | (go_at_call_of 17 (Value.int .i64 a); refine (za.out _).mono ?_; rintro e w' ⟨rfl, m, rfl⟩)
      | (go_at_call_of 17 (Value.int .i64 b); refine (zb.out _).mono ?_; rintro e w' ⟨rfl, m, rfl⟩)
      | (go_at_call 16; refine (hm.out _).mono ?_; rintro e w' ⟨rfl, m, rfl⟩)
      | (go_at_call 18; refine (hd.out _).mono ?_; rintro e w' ⟨rfl, m, rfl⟩)
      | (go_at_call 19; refine (hs.out _).mono ?_; rintro e w' ⟨rfl, m, rfl⟩))
    go_ret2
    exact ⟨rfl, _, rfl⟩
  · rw [show (decide (a < 0) != decide (b < 0)) = true by simp [ca, cb]] at hs
    have da : decide (a < 0) = false := by simpa using ca
    have db : decide (b < 0) = true := by simpa using cb
    go_enter Try.func10, Try.ntmps10
    go_wp2_with (first
      | (go_at_call_of 17 (Value.int .i64 a); refine (za.out _).mono ?_; rintro e w' ⟨rfl, m, rfl⟩)
      | (go_at_call_of 17 (Value.int .i64 b); refine (zb.out _).mono ?_; rintro e w' ⟨rfl, m, rfl⟩)
      | (go_at_call 16; refine (hm.out _).mono ?_; rintro e w' ⟨rfl, m, rfl⟩)
      | (go_at_call 18; refine (hd.out _).mono ?_; rintro e w' ⟨rfl, m, rfl⟩)
      | (go_at_call 19; refine (hs.out _).mono ?_; rintro e w' ⟨rfl, m, rfl⟩))
    go_ret2
    exact ⟨rfl, _, rfl⟩
  · rw [show (decide (a < 0) != decide (b < 0)) = false by simp [ca, cb]] at hs
    have da : decide (a < 0) = false := by simpa using ca
    have db : decide (b < 0) = false := by simpa using cb
    go_enter Try.func10, Try.ntmps10
    go_wp2_with (first
      | (go_at_call_of 17 (Value.int .i64 a); refine (za.out _).mono ?_; rintro e w' ⟨rfl, m, rfl⟩)
      | (go_at_call_of 17 (Value.int .i64 b); refine (zb.out _).mono ?_; rintro e w' ⟨rfl, m, rfl⟩)
      | (go_at_call 16; refine (hm.out _).mono ?_; rintro e w' ⟨rfl, m, rfl⟩)
      | (go_at_call 18; refine (hd.out _).mono ?_; rintro e w' ⟨rfl, m, rfl⟩)
      | (go_at_call 19; refine (hs.out _).mono ?_; rintro e w' ⟨rfl, m, rfl⟩))
    go_ret2
    exact ⟨rfl, _, rfl⟩

theorem mulDiv_parts (a b c : Int) (a0 : -9223372036854775808 ≤ a) (a1 : a ≤ 9223372036854775807) (b0 : -9223372036854775808 ≤ b) (b1 : b ≤ 9223372036854775807) (c0 : 1 ≤ c) :
    ∃ A B H Lo : Int, (a < 0 ∧ A = -a ∨ 0 ≤ a ∧ A = a) ∧ (b < 0 ∧ B = -b ∨ 0 ≤ b ∧ B = b) ∧ 0 ≤ A ∧ A ≤ 9223372036854775808 ∧ 0 ≤ B ∧ B ≤ 9223372036854775808 ∧
      A * B / 18446744073709551616 = H ∧ A * B % 18446744073709551616 = Lo ∧ 0 ≤ H ∧ 0 ≤ Lo ∧ Lo < 18446744073709551616 ∧ H * 18446744073709551616 + Lo = A * B ∧ 0 ≤ A * B ∧
      sgn (A * B / c) (A * B % c) c (decide (a < 0) != decide (b < 0)) = Plain.rnd (a * b) c := by
  obtain ⟨A, hA, A0, A1⟩ := size_ex a a0 a1
  obtain ⟨B, hB, B0, B1⟩ := size_ex b b0 b1
  have z : 0 ≤ A * B := Int.mul_nonneg A0 B0
  exact ⟨A, B, _, _, hA, hB, A0, A1, B0, B1, rfl, rfl, by omega, by omega, by omega, by omega, z, sgn_of a b c A B c0 hA hB⟩

theorem div_lt_top (N c H Lo : Int) (c0 : 1 ≤ c) (hN : H * 18446744073709551616 + Lo = N) (l1 : Lo < 18446744073709551616) (hH : H < c) : N / c < 18446744073709551616 :=
  (Int.ediv_lt_iff_lt_mul (by omega)).2 (by omega)

theorem div_ge_top (N c H Lo : Int) (c0 : 1 ≤ c) (hN : H * 18446744073709551616 + Lo = N) (l0 : 0 ≤ Lo) (hH : c ≤ H) : 18446744073709551616 ≤ N / c :=
  (Int.le_ediv_iff_mul_le (by omega)).2 (by omega)

theorem mulDiv_yes (a b c : Int) (w : World) (a0 : -9223372036854775808 ≤ a) (a1 : a ≤ 9223372036854775807) (b0 : -9223372036854775808 ≤ b) (b1 : b ≤ 9223372036854775807) (c0 : 1 ≤ c) (c1 : c ≤ 9223372036854775807)
    (F : Int) (hF : Plain.rnd (a * b) c = F) (f0 : -9223372036854775808 ≤ F) (f1 : F ≤ 9223372036854775807) :
    Calls Try.prog 10 #[.int .i64 a, .int .i64 b, .int .i64 c] w fun e w' => e = .returned (.tuple #[.int .i64 F, .bool true]) ∧ ∃ n, w' = w.drewN n := by
  obtain ⟨A, B, H, Lo, hA, hB, A0, A1, B0, B1, eH, eL, H0, L0, L1, eN, N0, hs⟩ := mulDiv_parts a b c a0 a1 b0 b1 c0
  by_cases hH : H < c
  · refine mulDiv_walk a b c w a0 a1 b0 b1 c0 c1 A B (A * B) H Lo (A * B / c) (A * B % c) hA hB ?_ ?_ hH F true ?_
    · intro w; have := mul64_any A B w A0 (by omega) B0 (by omega); rw [eH, eL] at this; exact this
    · intro w; have := div64_any H Lo c w H0 hH L0 L1 (by omega); rw [eN] at this; exact this
    · intro w
      exact signed_yes _ _ c _ w (Int.ediv_nonneg N0 (by omega)) (div_lt_top _ c H Lo c0 eN L1 hH) (Int.emod_nonneg _ (by omega)) (Int.emod_lt_of_pos _ (by omega)) (by omega) F (hs.trans hF) f0 f1
  · exfalso
    have := div_ge_top _ c H Lo c0 eN L0 (by omega)
    have := sgn_far (A * B / c) (A * B % c) c (decide (a < 0) != decide (b < 0)) this
    rw [hs, hF] at this
    omega

theorem mulDiv_big (a b c A B H Lo : Int) (w : World) (a0 : -9223372036854775808 ≤ a) (a1 : a ≤ 9223372036854775807) (b0 : -9223372036854775808 ≤ b) (b1 : b ≤ 9223372036854775807) (c0 : 1 ≤ c) (c1 : c ≤ 9223372036854775807)
    (hA : a < 0 ∧ A = -a ∨ 0 ≤ a ∧ A = a) (hB : b < 0 ∧ B = -b ∨ 0 ≤ b ∧ B = b)
    (hm : Hid (∀ w, Calls Try.prog 16 #[.int .u64 A, .int .u64 B] w fun e w' => e = .returned (.tuple #[.int .u64 H, .int .u64 Lo]) ∧ ∃ n, w' = w.drewN n)) (hH : c ≤ H) :
    Calls Try.prog 10 #[.int .i64 a, .int .i64 b, .int .i64 c] w fun e w' => e = .returned (.tuple #[.int .i64 0, .bool false]) ∧ ∃ n, w' = w.drewN n := by
  have za : Hid (∀ w, Calls Try.prog 17 #[.int .i64 a] w fun e w' => e = .returned (.int .u64 A) ∧ ∃ n, w' = w.drewN n) := fun w => size_any a A w a0 a1 hA
  have zb : Hid (∀ w, Calls Try.prog 17 #[.int .i64 b] w fun e w' => e = .returned (.int .u64 B) ∧ ∃ n, w' = w.drewN n) := fun w => size_any b B w b0 b1 hB
  clear hA hB
  go_enter Try.func10, Try.ntmps10
  go_wp2_with (first
    | (go_at_call_of 17 (Value.int .i64 a); refine (za.out _).mono ?_; rintro e w' ⟨rfl, m, rfl⟩)
    | (go_at_call_of 17 (Value.int .i64 b); refine (zb.out _).mono ?_; rintro e w' ⟨rfl, m, rfl⟩)
    | (go_at_call 16; refine (hm.out _).mono ?_; rintro e w' ⟨rfl, m, rfl⟩))
  go_ret2
  exact ⟨rfl, _, rfl⟩

theorem mulDiv_no (a b c : Int) (w : World) (a0 : -9223372036854775808 ≤ a) (a1 : a ≤ 9223372036854775807) (b0 : -9223372036854775808 ≤ b) (b1 : b ≤ 9223372036854775807) (c0 : 1 ≤ c) (c1 : c ≤ 9223372036854775807)
    (hF : Plain.rnd (a * b) c < -9223372036854775808 ∨ 9223372036854775807 < Plain.rnd (a * b) c) :
    Calls Try.prog 10 #[.int .i64 a, .int .i64 b, .int .i64 c] w fun e w' => e = .returned (.tuple #[.int .i64 0, .bool false]) ∧ ∃ n, w' = w.drewN n := by
  obtain ⟨A, B, H, Lo, hA, hB, A0, A1, B0, B1, eH, eL, H0, L0, L1, eN, N0, hs⟩ := mulDiv_parts a b c a0 a1 b0 b1 c0
  have hm : Hid (∀ w, Calls Try.prog 16 #[.int .u64 A, .int .u64 B] w fun e w' => e = .returned (.tuple #[.int .u64 H, .int .u64 Lo]) ∧ ∃ n, w' = w.drewN n) := by
    intro w; have := mul64_any A B w A0 (by omega) B0 (by omega); rw [eH, eL] at this; exact this
  by_cases hH : H < c
  · refine mulDiv_walk a b c w a0 a1 b0 b1 c0 c1 A B (A * B) H Lo (A * B / c) (A * B % c) hA hB hm ?_ hH 0 false ?_
    · intro w; have := div64_any H Lo c w H0 hH L0 L1 (by omega); rw [eN] at this; exact this
    · intro w
      exact signed_no _ _ c _ w (Int.ediv_nonneg N0 (by omega)) (div_lt_top _ c H Lo c0 eN L1 hH) (Int.emod_nonneg _ (by omega)) (Int.emod_lt_of_pos _ (by omega)) (by omega) (by rw [hs]; exact hF)
  · exact mulDiv_big a b c A B H Lo w a0 a1 b0 b1 c0 c1 hA hB hm (by omega)

end Go.Proofs.Ytehlehcbjoideaa

/-
  What Div64 of math/bits answers below a divisor of 63 bits, walked over the program.
-/
import Derived.Test.YtehlehcbjoideaaBits
import Derived.Test.YtehlehcbjoideaaDivPlain
namespace Go.Proofs.Ytehlehcbjoideaa
open Go.RowKit
set_option linter.unusedVariables false

theorem wrap_same (a : Int) (h0 : 0 ≤ a) (h1 : a < 18446744073709551616) : IntKind.u64.wrap a = a := by rw [IntKind.wrap_u64]; omega

theorem left_wraps (U n q Y R : Int) (h : R = U * 4294967296 + n - q * Y) (h0 : 0 ≤ R) (h1 : R < 18446744073709551616) :
    IntKind.u64.wrap (IntKind.u64.wrap (IntKind.u64.wrap (U * 4294967296) + n) - IntKind.u64.wrap (q * Y)) = R := by
  simp only [IntKind.wrap_u64]
  omega

set_option maxHeartbeats 4000000 in
theorem div64_norm (hi lo y : Int) (w : World) (h0 : 1 ≤ hi) (h1 : hi < y) (l0 : 0 ≤ lo) (l1 : lo < 18446744073709551616) (s : Nat) (s0 : 1 ≤ s) (s1 : s ≤ 63) (hy1 : y < 9223372036854775808)
    (hz : Calls Try.prog 21 #[.int .u64 y] w fun e w' => e = .returned (.int .i64 (s : Int)) ∧ ∃ n, w' = w.drewN n)
    (Y Hs Ls U L Y0 Y1 n1 n0 Q1 R1 Q0 R0 : Int)
    (hY : IntKind.u64.wrap (y * 2 ^ s) = Y) (hHs : IntKind.u64.wrap (hi * 2 ^ s) = Hs) (hLs : lo / 2 ^ (64 - s) = Ls) (hU : bits .or .u64 Hs Ls = U) (hL : IntKind.u64.wrap (lo * 2 ^ s) = L)
    (hY1 : Y / 4294967296 = Y1) (hY0 : bits .and .u64 Y 4294967295 = Y0) (hn1 : L / 4294967296 = n1) (hn0 : bits .and .u64 L 4294967295 = n0)
    (yb : Y < 18446744073709551616) (lb : L < 18446744073709551616) (lb0 : 0 ≤ L)
    (D1 : Plain.DOk U n1 Y Y1 Y0) (hQ1 : Plain.dig U n1 Y = Q1) (hR1 : Plain.lft U n1 Y = R1) (D0 : Plain.DOk R1 n0 Y Y1 Y0) (hQ0 : Plain.dig R1 n0 Y = Q0) (hR0 : Plain.lft R1 n0 Y = R0) :
    Calls Try.prog 18 #[.int .u64 hi, .int .u64 lo, .int .u64 y] w fun e w' => e = .returned (.tuple #[.int .u64 (Q1 * 4294967296 + Q0), .int .u64 (R0 / 2 ^ s)]) ∧ ∃ n, w' = w.drewN n := by
  have q1b := Plain.dig_lt D1
  have q0b := Plain.dig_lt D0
  have r1b := Plain.lft_lt D1
  have r0b := Plain.lft_lt D0
  have w1 := left_wraps U n1 Q1 Y R1 (by rw [← hR1, ← hQ1]; rfl) (by omega) (by omega)
  have w0 := left_wraps R1 n0 Q0 Y R0 (by rw [← hR0, ← hQ0]; rfl) (by omega) (by omega)
  rw [hQ1] at q1b; rw [hQ0] at q0b; rw [hR1] at r1b; rw [hR0] at r0b
  obtain ⟨st1, st2, st3, st4, st5⟩ := Plain.d_start D1
  obtain ⟨su1, su2, su3, su4, su5⟩ := Plain.d_start D0
  obtain ⟨g1, hg1⟩ : ∃ g, U / Y1 = g := ⟨_, rfl⟩
  obtain ⟨g0, hg0⟩ : ∃ g, R1 / Y1 = g := ⟨_, rfl⟩
  rw [hg1] at st1 st2 st3 st4 st5
  rw [hg0] at su1 su2 su3 su4 su5
  obtain ⟨k1, hk1⟩ : ∃ g, g1 * Y1 = g := ⟨_, rfl⟩
  obtain ⟨k0, hk0⟩ : ∃ g, g0 * Y1 = g := ⟨_, rfl⟩
  rw [hk1] at st1 st4 st5
  rw [hk0] at su1 su4 su5
  have a1 := D1.y1
  have a2 := D1.y2
  have a3 := D1.y3
  have a4 := D1.y4
  have a5 := D1.u0
  have a6 := D1.u1
  have a7 := D1.n0
  have a8 := D1.n1
  have a9 := D0.n0
  have a10 := D0.n1
  go_enter Try.func18, Try.ntmps18
  go_wp2_with (go_at_call 21; refine hz.mono ?_; rintro e w' ⟨rfl, m, rfl⟩)
  go_loop [15, 16] (fun a b => ∃ q r : Int, a = .int .u64 q ∧ b = .int .u64 r ∧ Plain.DInv U n1 Y Y1 q r ∧ q ≤ 8589934591) (fun a _ => (intOf a).toNat)
  case atStart => exact ⟨U / Y1, U - k1, rfl, rfl, by rw [hg1]; exact st1, by omega⟩
  case round =>
    obtain ⟨q, r, rfl, rfl, hI, qb⟩ := hrel
    have rb0 := hI.2.1
    have rb1 := hI.2.2.1
    have qb0 := hI.2.2.2
    rw [hQ1] at qb0
    obtain ⟨E, hE⟩ : ∃ E, q * Y0 = E := ⟨_, rfl⟩
    have hcs := Plain.d_cases D1 hI hE
    have Eb : q < 4294967296 → 0 ≤ E ∧ E ≤ 18446744065119617025 := fun h => by rw [← hE]; exact half_mul q Y0 (by omega) (by omega) a3 (by omega)
    rw [hQ1] at hcs
    clear hI st1 hz
    rcases hcs with ⟨c1, c2, hN⟩ | ⟨c1, c2, c3, hN⟩ | ⟨c1, c2, c3⟩ | ⟨c1, c2, c3, c4⟩ | ⟨c1, c2, c3⟩
    · go_wp2
      go_round
      case rel => first | omega | exact ⟨q - 1, r + Y1, rfl, rfl, hN, by omega⟩
      case measure => simp [intOf]; omega
    · have Eb' := Eb c1
      have qc := hN.2.2.2
      rw [hQ1] at qc
      clear Eb
      go_wp2
      go_round
      case rel => first | omega | exact ⟨q - 1, r + Y1, rfl, rfl, hN, by omega⟩
      case measure => simp [intOf]; omega
    · clear Eb
      go_wp2
      go_loop [18, 16] (fun a b => ∃ q r : Int, a = .int .u64 q ∧ b = .int .u64 r ∧ Plain.DInv R1 n0 Y Y1 q r ∧ q ≤ 8589934591) (fun a _ => (intOf a).toNat)
      case atStart => exact ⟨_, R1 - k0, rfl, rfl, by first | exact su1 | (rw [hg0]; exact su1), by omega⟩
      case round =>
        obtain ⟨q', r', rfl, rfl, hJ, qb'⟩ := hrel
        have rb0' := hJ.2.1
        have rb1' := hJ.2.2.1
        have qb0' := hJ.2.2.2
        rw [hQ0] at qb0'
        obtain ⟨F, hF⟩ : ∃ E, q' * Y0 = E := ⟨_, rfl⟩
        have hcs' := Plain.d_cases D0 hJ hF
        have Fb : q' < 4294967296 → 0 ≤ F ∧ F ≤ 18446744065119617025 := fun h => by rw [← hF]; exact half_mul q' Y0 (by omega) (by omega) a3 (by omega)
        rw [hQ0] at hcs'
        clear hJ su1
        rcases hcs' with ⟨c1', c2', hN'⟩ | ⟨c1', c2', c3', hN'⟩ | ⟨c1', c2', c3'⟩ | ⟨c1', c2', c3', c4'⟩ | ⟨c1', c2', c3'⟩
        · go_wp2
          go_round
          case rel => exact ⟨q' - 1, r' + Y1, rfl, rfl, hN', by omega⟩
          case measure => simp [intOf]; omega
        · have Fb' := Fb c1'
          have qc' := hN'.2.2.2
          rw [hQ0] at qc'
          clear Fb
          go_wp2
          go_round
          case rel => exact ⟨q' - 1, r' + Y1, rfl, rfl, hN', by omega⟩
          case measure => simp [intOf]; omega
        · clear Fb
          go_wp2
          go_ret2
          exact ⟨rfl, m, rfl⟩
        · have Fb' := Fb c1'
          clear Fb
          go_wp2
          go_ret2
          exact ⟨rfl, m, rfl⟩
        · have Fb' := Fb c1'
          clear Fb
          subst c3'
          go_wp2
          go_ret2
          exact ⟨rfl, m, rfl⟩
    · have Eb' := Eb c1
      clear Eb
      go_wp2
      go_loop [18, 16] (fun a b => ∃ q r : Int, a = .int .u64 q ∧ b = .int .u64 r ∧ Plain.DInv R1 n0 Y Y1 q r ∧ q ≤ 8589934591) (fun a _ => (intOf a).toNat)
      case atStart => exact ⟨_, R1 - k0, rfl, rfl, by first | exact su1 | (rw [hg0]; exact su1), by omega⟩
      case round =>
        obtain ⟨q', r', rfl, rfl, hJ, qb'⟩ := hrel
        have rb0' := hJ.2.1
        have rb1' := hJ.2.2.1
        have qb0' := hJ.2.2.2
        rw [hQ0] at qb0'
        obtain ⟨F, hF⟩ : ∃ E, q' * Y0 = E := ⟨_, rfl⟩
        have hcs' := Plain.d_cases D0 hJ hF
        have Fb : q' < 4294967296 → 0 ≤ F ∧ F ≤ 18446744065119617025 := fun h => by rw [← hF]; exact half_mul q' Y0 (by omega) (by omega) a3 (by omega)
        rw [hQ0] at hcs'
        clear hJ su1
        rcases hcs' with ⟨c1', c2', hN'⟩ | ⟨c1', c2', c3', hN'⟩ | ⟨c1', c2', c3'⟩ | ⟨c1', c2', c3', c4'⟩ | ⟨c1', c2', c3'⟩
        · go_wp2
          go_round
          case rel => exact ⟨q' - 1, r' + Y1, rfl, rfl, hN', by omega⟩
          case measure => simp [intOf]; omega
        · have Fb' := Fb c1'
          have qc' := hN'.2.2.2
          rw [hQ0] at qc'
          clear Fb
          go_wp2
          go_round
          case rel => exact ⟨q' - 1, r' + Y1, rfl, rfl, hN', by omega⟩
          case measure => simp [intOf]; omega
        · clear Fb
          go_wp2
          go_ret2
          exact ⟨rfl, m, rfl⟩
        · have Fb' := Fb c1'
          clear Fb
          go_wp2
          go_ret2
          exact ⟨rfl, m, rfl⟩
        · have Fb' := Fb c1'
          clear Fb
          subst c3'
          go_wp2
          go_ret2
          exact ⟨rfl, m, rfl⟩
    · have Eb' := Eb c1
      clear Eb
      subst c3
      go_wp2
      go_loop [18, 16] (fun a b => ∃ q r : Int, a = .int .u64 q ∧ b = .int .u64 r ∧ Plain.DInv R1 n0 Y Y1 q r ∧ q ≤ 8589934591) (fun a _ => (intOf a).toNat)
      case atStart => exact ⟨_, R1 - k0, rfl, rfl, by first | exact su1 | (rw [hg0]; exact su1), by omega⟩
      case round =>
        obtain ⟨q', r', rfl, rfl, hJ, qb'⟩ := hrel
        have rb0' := hJ.2.1
        have rb1' := hJ.2.2.1
        have qb0' := hJ.2.2.2
        rw [hQ0] at qb0'
        obtain ⟨F, hF⟩ : ∃ E, q' * Y0 = E := ⟨_, rfl⟩
        have hcs' := Plain.d_cases D0 hJ hF
        have Fb : q' < 4294967296 → 0 ≤ F ∧ F ≤ 18446744065119617025 := fun h => by rw [← hF]; exact half_mul q' Y0 (by omega) (by omega) a3 (by omega)
        rw [hQ0] at hcs'
        clear hJ su1
        rcases hcs' with ⟨c1', c2', hN'⟩ | ⟨c1', c2', c3', hN'⟩ | ⟨c1', c2', c3'⟩ | ⟨c1', c2', c3', c4'⟩ | ⟨c1', c2', c3'⟩
        · go_wp2
          go_round
          case rel => exact ⟨q' - 1, r' + Y1, rfl, rfl, hN', by omega⟩
          case measure => simp [intOf]; omega
        · have Fb' := Fb c1'
          have qc' := hN'.2.2.2
          rw [hQ0] at qc'
          clear Fb
          go_wp2
          go_round
          case rel => exact ⟨q' - 1, r' + Y1, rfl, rfl, hN', by omega⟩
          case measure => simp [intOf]; omega
        · clear Fb
          go_wp2
          go_ret2
          exact ⟨rfl, m, rfl⟩
        · have Fb' := Fb c1'
          clear Fb
          go_wp2
          go_ret2
          exact ⟨rfl, m, rfl⟩
        · have Fb' := Fb c1'
          clear Fb
          subst c3'
          go_wp2
          go_ret2
          exact ⟨rfl, m, rfl⟩

theorem div64_small (lo y : Int) (w : World) (l0 : 0 ≤ lo) (l1 : lo < 18446744073709551616) (y0 : 1 ≤ y) (y1 : y < 9223372036854775808) :
    Calls Try.prog 18 #[.int .u64 0, .int .u64 lo, .int .u64 y] w fun e w' => e = .returned (.tuple #[.int .u64 (lo / y), .int .u64 (lo % y)]) ∧ ∃ n, w' = w.drewN n := by
  go_enter Try.func18, Try.ntmps18
  go_wp2
  go_quiet (fail)
  go_wp2
  go_ret2
  exact ⟨rfl, nq, rfl⟩

theorem div64_any (hi lo y : Int) (w : World) (h0 : 0 ≤ hi) (h1 : hi < y) (l0 : 0 ≤ lo) (l1 : lo < 18446744073709551616) (y1 : y < 9223372036854775808) :
    Calls Try.prog 18 #[.int .u64 hi, .int .u64 lo, .int .u64 y] w fun e w' => e = .returned (.tuple #[.int .u64 ((hi * 18446744073709551616 + lo) / y), .int .u64 ((hi * 18446744073709551616 + lo) % y)]) ∧ ∃ n, w' = w.drewN n := by
  by_cases z : hi = 0
  · subst z
    have := div64_small lo y w l0 l1 (by omega) y1
    simpa using this
  · have bs := bitLen_spec y.toNat (by omega) (by omega)
    have bl := Lib.bitLen_le y.toNat 63 (by omega) (by omega)
    have b1 : 1 ≤ Lib.bitLen y.toNat := by
      refine Nat.one_le_iff_ne_zero.2 fun e => ?_
      rw [e] at bs
      omega
    obtain ⟨n, hn⟩ : ∃ n, Lib.bitLen y.toNat = n := ⟨_, rfl⟩
    have hz := zeros64_any y w (by omega) (by omega)
    rw [hn] at bs bl b1 hz
    obtain ⟨s, hs⟩ : ∃ s, s = 64 - n := ⟨_, rfl⟩
    have e : (64 : Int) - (n : Nat) = (s : Nat) := by omega
    rw [e] at hz
    have pe : (2 : Int) ^ n * 2 ^ s = 18446744073709551616 := by
      rw [← Int.pow_add]
      have : n + s = 64 := by omega
      rw [this]; rfl
    have cn : ((2 ^ n : Nat) : Int) = 2 ^ n := by rw [Int.natCast_pow]; rfl
    have p2 : (0 : Int) < 2 ^ s := Int.pow_pos (by omega)
    have yhi : y * 2 ^ s < 18446744073709551616 := by
      rw [← pe]
      exact Int.mul_lt_mul_of_pos_right (by omega) p2
    have ylo : 9223372036854775808 ≤ y * 2 ^ s := by
      have : (2 : Int) ^ n * 2 ^ s ≤ 2 * y * 2 ^ s := Int.mul_le_mul_of_nonneg_right (by omega) (by omega)
      rw [pe, Int.mul_assoc] at this
      omega
    obtain ⟨u1, u2, u3, u4, u5, u6⟩ := Plain.shift_up hi lo y s (by omega) h0 h1 l0 l1 yhi
    have j := Plain.join_up hi (lo / 2 ^ (64 - s)) s u3 u4 h0
    have hL := IntKind.wrap_u64 (lo * 2 ^ s)
    obtain ⟨Y, hY⟩ : ∃ Y, y * 2 ^ s = Y := ⟨_, rfl⟩
    obtain ⟨Hs, hHs⟩ : ∃ Y, hi * 2 ^ s = Y := ⟨_, rfl⟩
    obtain ⟨Ls, hLs⟩ : ∃ Y, lo / 2 ^ (64 - s) = Y := ⟨_, rfl⟩
    obtain ⟨L, hL'⟩ : ∃ Y, lo * 2 ^ s % 18446744073709551616 = Y := ⟨_, rfl⟩
    rw [hL'] at u6 hL
    rw [hY, hHs, hLs] at u5
    rw [hHs, hLs] at u6 j
    rw [hHs] at u1 u2
    rw [hLs] at u3 u4
    rw [hY] at yhi ylo
    have L0 : 0 ≤ L ∧ L < 18446744073709551616 := by omega
    have D1 : Plain.DOk (Hs + Ls) (L / 4294967296) Y (Y / 4294967296) (Y % 4294967296) := ⟨by omega, by omega, by omega, by omega, by omega, by omega, by omega, by omega, by omega⟩
    have r1 := Plain.lft_lt D1
    have D0 : Plain.DOk (Plain.lft (Hs + Ls) (L / 4294967296) Y) (L % 4294967296) Y (Y / 4294967296) (Y % 4294967296) := ⟨by omega, by omega, by omega, by omega, by omega, by omega, by omega, by omega, by omega⟩
    have t := Plain.two_digits (hi * 18446744073709551616 + lo) y Y (Hs + Ls) L (Y / 4294967296) (Y % 4294967296) s (by omega) hY u6 D0
    rw [← t.1, ← t.2]
    have wY : IntKind.u64.wrap (y * 2 ^ s) = Y := by rw [hY]; exact wrap_same Y (by omega) (by omega)
    have wH : IntKind.u64.wrap (hi * 2 ^ s) = Hs := by rw [hHs]; exact wrap_same Hs (by omega) (by omega)
    have wU : bits .or .u64 Hs Ls = Hs + Ls := by rw [u64_or Hs Ls u1 u2 u3 (by omega)]; exact j
    exact div64_norm hi lo y w (by omega) h1 l0 l1 s (by omega) (by omega) y1 hz Y Hs Ls (Hs + Ls) L (Y % 4294967296) (Y / 4294967296) (L / 4294967296) (L % 4294967296) _ _ _ _
      wY wH hLs wU hL rfl (maskI Y (by omega) (by omega)) rfl (maskI L (by omega) (by omega)) (by omega) (by omega) (by omega) D1 rfl rfl D0 rfl rfl

end Go.Proofs.Ytehlehcbjoideaa

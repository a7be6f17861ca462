/-
  Plain arithmetic behind the division of two words by one: digits of 32 bits, a guess that is lowered.
-/
import Derived.Test.YtehlehcbjoideaaPlain
namespace Go.Proofs.Ytehlehcbjoideaa.Plain

/-- The true digit. -/
def dig (U n Y : Int) : Int := (U * 4294967296 + n) / Y

/-- Where the guess of a digit stands: q is not below the digit, r is what q leaves of U by the upper half of Y. -/
def DInv (U n Y Y1 q r : Int) : Prop := r + q * Y1 = U ∧ 0 ≤ r ∧ r < 4294967296 ∧ dig U n Y ≤ q

/-- What a divisor is whose highest bit is set, with what is below it. -/
structure DOk (U n Y Y1 Y0 : Int) : Prop where
  y : Y = Y1 * 4294967296 + Y0
  y1 : 2147483648 ≤ Y1
  y2 : Y1 < 4294967296
  y3 : 0 ≤ Y0
  y4 : Y0 < 4294967296
  u0 : 0 ≤ U
  u1 : U < Y
  n0 : 0 ≤ n
  n1 : n < 4294967296

theorem dig_lt {U n Y Y1 Y0 : Int} (h : DOk U n Y Y1 Y0) : 0 ≤ dig U n Y ∧ dig U n Y < 4294967296 := by
  obtain ⟨a, b, c, d, e, f, g, i, j⟩ := h
  unfold dig
  constructor
  · exact Int.ediv_nonneg (by omega) (by omega)
  · exact (Int.ediv_lt_iff_lt_mul (by omega)).2 (by omega)

theorem dig_mul {U n Y Y1 Y0 : Int} (h : DOk U n Y Y1 Y0) : dig U n Y * Y ≤ U * 4294967296 + n ∧ U * 4294967296 + n < dig U n Y * Y + Y := by
  have := div_spec (U * 4294967296 + n) Y (by have := h.y; have := h.y1; have := h.y3; omega)
  rw [Int.mul_comm Y] at this
  unfold dig
  omega

/-- A number whose product is not above is not above the digit. -/
theorem dig_ge {U n Y Y1 Y0 q : Int} (h : DOk U n Y Y1 Y0) (hq : q * Y ≤ U * 4294967296 + n) : q ≤ dig U n Y :=
  (Int.le_ediv_iff_mul_le (by have := h.y; have := h.y1; have := h.y3; omega)).2 hq

theorem dig_gt {U n Y Y1 Y0 q : Int} (h : DOk U n Y Y1 Y0) (hq : U * 4294967296 + n < q * Y) : dig U n Y < q :=
  (Int.ediv_lt_iff_lt_mul (by have := h.y; have := h.y1; have := h.y3; omega)).2 hq

theorem qY {Y Y1 Y0 q : Int} (h : Y = Y1 * 4294967296 + Y0) : q * Y = q * Y1 * 4294967296 + q * Y0 := by
  rw [h, Int.mul_add, ← Int.mul_assoc]

theorem d_start {U n Y Y1 Y0 : Int} (h : DOk U n Y Y1 Y0) :
    DInv U n Y Y1 (U / Y1) (U - U / Y1 * Y1) ∧ 0 ≤ U / Y1 ∧ U / Y1 ≤ 8589934591 ∧ 0 ≤ U / Y1 * Y1 ∧ U / Y1 * Y1 ≤ U := by
  have hm := dig_mul h
  have hl := dig_lt h
  obtain ⟨a, b, c, d, e, f, g, i, j⟩ := h
  obtain ⟨s1, s2, s3⟩ := div_spec U Y1 (by omega)
  rw [Int.mul_comm] at s1
  have k0 : 0 ≤ U / Y1 := Int.ediv_nonneg f (by omega)
  refine ⟨⟨by omega, by omega, by omega, ?_⟩, k0, ?_, Int.mul_nonneg k0 (by omega), by omega⟩
  · refine (Int.le_ediv_iff_mul_le (by omega)).2 ?_
    rw [qY a] at hm
    have : 0 ≤ dig U n Y * Y0 := Int.mul_nonneg hl.1 d
    omega
  · have : U / Y1 < 8589934592 := (Int.ediv_lt_iff_lt_mul (by omega)).2 (by omega)
    omega

theorem d_more {U n Y Y1 Y0 q r : Int} (h : DOk U n Y Y1 Y0) (hi : DInv U n Y Y1 q r) (hc : 4294967296 ≤ q ∨ 4294967296 * r + n < q * Y0) :
    1 ≤ q ∧ dig U n Y ≤ q - 1 ∧ r + Y1 + (q - 1) * Y1 = U := by
  have hl := dig_lt h
  have hd : dig U n Y < q := by
    rcases hc with hc | hc
    · omega
    · refine dig_gt h ?_
      rw [qY h.y]
      have := hi.1
      omega
  refine ⟨by omega, by omega, ?_⟩
  rw [Int.sub_mul]
  have := hi.1
  omega

theorem d_next {U n Y Y1 Y0 q r : Int} (h : DOk U n Y Y1 Y0) (hi : DInv U n Y Y1 q r) (hc : 4294967296 ≤ q ∨ 4294967296 * r + n < q * Y0) (hr : r + Y1 < 4294967296) :
    DInv U n Y Y1 (q - 1) (r + Y1) := by
  have := d_more h hi hc
  have := hi.2.1
  have := h.y1
  exact ⟨by omega, by omega, hr, by omega⟩

theorem d_break {U n Y Y1 Y0 q r : Int} (h : DOk U n Y Y1 Y0) (hi : DInv U n Y Y1 q r) (hc : 4294967296 ≤ q ∨ 4294967296 * r + n < q * Y0) (hr : 4294967296 ≤ r + Y1) :
    q - 1 = dig U n Y := by
  obtain ⟨m1, m2, m3⟩ := d_more h hi hc
  have hl := dig_lt h
  obtain ⟨a, b, c, d, e, f, g, i, j⟩ := id h
  have k : q - 1 < 4294967296 := by
    refine Int.not_le.1 fun hk => ?_
    have : 4294967296 * Y1 ≤ (q - 1) * Y1 := Int.mul_le_mul_of_nonneg_right hk (by omega)
    omega
  have k2 : (q - 1) * Y0 ≤ 4294967296 * (r + Y1) := by
    have : (q - 1) * Y0 ≤ 4294967296 * 4294967296 := Int.mul_le_mul (by omega) (by omega) d (by omega)
    omega
  have : q - 1 ≤ dig U n Y := by
    refine dig_ge h ?_
    rw [qY a]
    omega
  omega

theorem d_done {U n Y Y1 Y0 q r : Int} (h : DOk U n Y Y1 Y0) (hi : DInv U n Y Y1 q r) (hc : q * Y0 ≤ 4294967296 * r + n) : q = dig U n Y := by
  have : q ≤ dig U n Y := by
    refine dig_ge h ?_
    rw [qY h.y]
    have := hi.1
    omega
  have := hi.2.2.2
  omega

/-- What a round finds: the guess is lowered, or it was the digit. -/
theorem d_cases {U n Y Y1 Y0 q r E : Int} (h : DOk U n Y Y1 Y0) (hi : DInv U n Y Y1 q r) (hE : q * Y0 = E) :
    (4294967296 ≤ q ∧ r + Y1 < 4294967296 ∧ DInv U n Y Y1 (q - 1) (r + Y1)) ∨
    (q < 4294967296 ∧ 4294967296 * r + n < E ∧ r + Y1 < 4294967296 ∧ DInv U n Y Y1 (q - 1) (r + Y1)) ∨
    (4294967296 ≤ q ∧ 4294967296 ≤ r + Y1 ∧ q - 1 = dig U n Y) ∨
    (q < 4294967296 ∧ 4294967296 * r + n < E ∧ 4294967296 ≤ r + Y1 ∧ q - 1 = dig U n Y) ∨
    (q < 4294967296 ∧ E ≤ 4294967296 * r + n ∧ q = dig U n Y) := by
  by_cases c1 : 4294967296 ≤ q
  · by_cases c2 : 4294967296 ≤ r + Y1
    · exact Or.inr (Or.inr (Or.inl ⟨c1, c2, d_break h hi (Or.inl c1) c2⟩))
    · exact Or.inl ⟨c1, by omega, d_next h hi (Or.inl c1) (by omega)⟩
  · by_cases c3 : 4294967296 * r + n < E
    · have c4 : 4294967296 * r + n < q * Y0 := by rw [hE]; exact c3
      by_cases c2 : 4294967296 ≤ r + Y1
      · exact Or.inr (Or.inr (Or.inr (Or.inl ⟨by omega, c3, c2, d_break h hi (Or.inr c4) c2⟩)))
      · exact Or.inr (Or.inl ⟨by omega, c3, by omega, d_next h hi (Or.inr c4) (by omega)⟩)
    · exact Or.inr (Or.inr (Or.inr (Or.inr ⟨by omega, by omega, d_done h hi (by rw [hE]; omega)⟩)))

/-- What the digit leaves. -/
def lft (U n Y : Int) : Int := U * 4294967296 + n - dig U n Y * Y

theorem lft_lt {U n Y Y1 Y0 : Int} (h : DOk U n Y Y1 Y0) : 0 ≤ lft U n Y ∧ lft U n Y < Y := by
  have := dig_mul h
  unfold lft
  omega

/-- A power of two that brings the highest bit up: what the shifted words are. -/
theorem shift_up (hi lo y : Int) (s : Nat) (s1 : s ≤ 64) (h0 : 0 ≤ hi) (h1 : hi < y) (l0 : 0 ≤ lo) (l1 : lo < 18446744073709551616)
    (b : y * 2 ^ s < 18446744073709551616) :
    0 ≤ hi * 2 ^ s ∧ hi * 2 ^ s < 18446744073709551616 ∧ 0 ≤ lo / 2 ^ (64 - s) ∧ lo / 2 ^ (64 - s) < 2 ^ s ∧ hi * 2 ^ s + lo / 2 ^ (64 - s) < y * 2 ^ s ∧
    (hi * 18446744073709551616 + lo) * 2 ^ s = (hi * 2 ^ s + lo / 2 ^ (64 - s)) * 18446744073709551616 + lo * 2 ^ s % 18446744073709551616 := by
  have p : (0 : Int) < 2 ^ s := Int.pow_pos (by omega)
  have p2 : (0 : Int) < 2 ^ (64 - s) := Int.pow_pos (by omega)
  have e : (2 : Int) ^ (64 - s) * 2 ^ s = 18446744073709551616 := by
    rw [← Int.pow_add]
    have : 64 - s + s = 64 := by omega
    rw [this]; rfl
  have a1 : hi * 2 ^ s + 2 ^ s ≤ y * 2 ^ s := by
    have : (hi + 1) * 2 ^ s ≤ y * 2 ^ s := Int.mul_le_mul_of_nonneg_right (by omega) (by omega)
    rw [Int.add_mul] at this
    omega
  have a0 : 0 ≤ hi * 2 ^ s := Int.mul_nonneg h0 (by omega)
  have q0 : 0 ≤ lo / 2 ^ (64 - s) := Int.ediv_nonneg l0 (by omega)
  have q1 : lo / 2 ^ (64 - s) < 2 ^ s := (Int.ediv_lt_iff_lt_mul p2).2 (by rw [Int.mul_comm, e]; exact l1)
  refine ⟨a0, by omega, q0, q1, by omega, ?_⟩
  obtain ⟨d1, d2, d3⟩ := div_spec lo (2 ^ (64 - s)) (by omega)
  have f : lo * 2 ^ s = 18446744073709551616 * (lo / 2 ^ (64 - s)) + lo % 2 ^ (64 - s) * 2 ^ s := by
    conv => lhs; rw [d1]
    rw [Int.add_mul, Int.mul_right_comm, e]
  have t0 : 0 ≤ lo % 2 ^ (64 - s) * 2 ^ s := Int.mul_nonneg d2 (by omega)
  have t1 : lo % 2 ^ (64 - s) * 2 ^ s < 18446744073709551616 := by
    have : lo % 2 ^ (64 - s) * 2 ^ s < 2 ^ (64 - s) * 2 ^ s := Int.mul_lt_mul_of_pos_right d3 p
    omega
  have g : lo * 2 ^ s % 18446744073709551616 = lo % 2 ^ (64 - s) * 2 ^ s := by omega
  rw [g, Int.add_mul, f, Int.mul_right_comm]
  omega

/-- The upper part's lower bits are clear: joined they are a sum. -/
theorem join_up (a b : Int) (s : Nat) (b0 : 0 ≤ b) (b1 : b < 2 ^ s) (a0 : 0 ≤ a) : (((a * 2 ^ s).toNat ||| b.toNat : Nat) : Int) = a * 2 ^ s + b := by
  obtain ⟨m, rfl⟩ := Int.eq_ofNat_of_zero_le a0
  obtain ⟨k, rfl⟩ := Int.eq_ofNat_of_zero_le b0
  have e : ((m : Int) * 2 ^ s) = ((2 ^ s * m : Nat) : Int) := by rw [Int.natCast_mul, Int.natCast_pow, Int.mul_comm]; rfl
  have hk : k < 2 ^ s := by
    have : ((2 ^ s : Nat) : Int) = 2 ^ s := by rw [Int.natCast_pow]; rfl
    omega
  rw [e, Int.toNat_natCast, Int.toNat_natCast, ← Nat.two_pow_add_eq_or_of_lt hk]
  omega

/-- The two digits are the quotient, what is left, moved back, the rest. -/
theorem two_digits (N y Y U L Y1 Y0 : Int) (s : Nat) (hy : 1 ≤ y) (hY : y * 2 ^ s = Y) (hN : N * 2 ^ s = U * 18446744073709551616 + L)
    (h2 : DOk (lft U (L / 4294967296) Y) (L % 4294967296) Y Y1 Y0) :
    dig U (L / 4294967296) Y * 4294967296 + dig (lft U (L / 4294967296) Y) (L % 4294967296) Y = N / y ∧
    lft (lft U (L / 4294967296) Y) (L % 4294967296) Y / 2 ^ s = N % y := by
  have p : (0 : Int) < 2 ^ s := Int.pow_pos (by omega)
  have l2 := lft_lt h2
  obtain ⟨q1, hq1⟩ : ∃ q, dig U (L / 4294967296) Y = q := ⟨_, rfl⟩
  have e1 : lft U (L / 4294967296) Y = U * 4294967296 + L / 4294967296 - q1 * Y := by unfold lft; rw [hq1]
  rw [hq1]
  obtain ⟨R, hR⟩ : ∃ R, lft U (L / 4294967296) Y = R := ⟨_, rfl⟩
  rw [hR] at e1 l2 ⊢
  obtain ⟨q0, hq0⟩ : ∃ q, dig R (L % 4294967296) Y = q := ⟨_, rfl⟩
  have e2 : lft R (L % 4294967296) Y = R * 4294967296 + L % 4294967296 - q0 * Y := by unfold lft; rw [hq0]
  obtain ⟨T, hT⟩ : ∃ T, lft R (L % 4294967296) Y = T := ⟨_, rfl⟩
  rw [hq0]
  rw [hT] at e2 l2 ⊢
  have e3 : N * 2 ^ s = (q1 * 4294967296 + q0) * Y + T := by
    rw [hN, Int.add_mul, Int.mul_right_comm]
    omega
  have e4 : (N - (q1 * 4294967296 + q0) * y) * 2 ^ s = T := by
    rw [Int.sub_mul, e3, Int.mul_assoc, hY]; omega
  obtain ⟨Q, hQ⟩ : ∃ Q, q1 * 4294967296 + q0 = Q := ⟨_, rfl⟩
  rw [hQ] at e4 ⊢
  have e5 : T / 2 ^ s = N - Q * y := by rw [← e4]; exact Int.mul_ediv_cancel _ (by omega)
  have e6 : 0 ≤ N - Q * y := by
    rw [← e5]; exact Int.ediv_nonneg l2.1 (by omega)
  have e7 : N - Q * y < y := by
    rw [← e5]; exact (Int.ediv_lt_iff_lt_mul p).2 (by rw [hY]; exact l2.2)
  obtain ⟨d1, d2, d3⟩ := div_spec N y hy
  have u := uniq y Q (N - Q * y) (N / y) (N % y) hy (by rw [Int.mul_comm y Q]; omega) e6 e7 d2 d3
  rw [e5]
  exact u

end Go.Proofs.Ytehlehcbjoideaa.Plain

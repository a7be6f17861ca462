/-
  Plain arithmetic of whole numbers behind package fixed: parts to the nearest and down, without any Go.
-/
namespace Go.Proofs.Ytehlehcbjoideaa.Plain

/-- a / b to the nearest, of two the greater; 0 where b is below 1. -/
def rnd (a b : Int) : Int := if b < 1 then 0 else (2 * a + b) / (2 * b)

/-- a / b down; 0 where b is below 1. -/
def dwn (a b : Int) : Int := if b < 1 then 0 else a / b

theorem div_spec (a b : Int) (hb : 1 ≤ b) : a = b * (a / b) + a % b ∧ 0 ≤ a % b ∧ a % b < b :=
  ⟨(Int.mul_ediv_add_emod a b).symm, Int.emod_nonneg a (by omega), Int.emod_lt_of_pos a (by omega)⟩

theorem div_bounds (a b : Int) (hb : 1 ≤ b) (h0 : -9223372036854775808 ≤ a) (h1 : a ≤ 9223372036854775807) :
    -9223372036854775808 ≤ a / b ∧ a / b ≤ 9223372036854775807 := by
  constructor
  · exact (Int.le_ediv_iff_mul_le (by omega)).2 (by
      have : (-9223372036854775808 : Int) * b ≤ -9223372036854775808 * 1 := Int.mul_le_mul_of_nonpos_left (by omega) hb
      omega)
  · have : a / b < 9223372036854775807 + 1 := (Int.ediv_lt_iff_lt_mul (by omega)).2 (by
      have : (9223372036854775807 + 1 : Int) * 1 ≤ (9223372036854775807 + 1) * b := Int.mul_le_mul_of_nonneg_left hb (by omega)
      omega)
    omega

theorem uniq (b q r q' r' : Int) (hb : 1 ≤ b) (h : b * q + r = b * q' + r') (h0 : 0 ≤ r) (h1 : r < b) (h2 : 0 ≤ r') (h3 : r' < b) : q = q' ∧ r = r' := by
  have e1 : (b * q + r) / b = q := by rw [Int.add_comm, Int.add_mul_ediv_left _ _ (by omega)]; rw [Int.ediv_eq_zero_of_lt h0 h1]; omega
  have e2 : (b * q' + r') / b = q' := by rw [Int.add_comm, Int.add_mul_ediv_left _ _ (by omega)]; rw [Int.ediv_eq_zero_of_lt h2 h3]; omega
  have : q = q' := by rw [← e1, ← e2, h]
  subst this
  omega

/-- What Go's division of a number below 0 comes to. -/
theorem tdiv_neg (a b : Int) (hb : 1 ≤ b) (ha : a < 0) :
    (a % b = 0 ∧ a.tdiv b = a / b ∧ a.tmod b = 0) ∨ (0 < a % b ∧ a.tdiv b = a / b + 1 ∧ a.tmod b = a % b - b) := by
  obtain ⟨s1, s2, s3⟩ := div_spec a b hb
  have t1 := Int.mul_tdiv_add_tmod a b
  have t2 : a.tmod b ≤ 0 := by
    have := Int.tmod_nonneg b (a := -a) (by omega)
    rw [Int.neg_tmod] at this; omega
  have t3 : -b < a.tmod b := by
    have := Int.tmod_lt_of_pos (-a) (b := b) (by omega)
    rw [Int.neg_tmod] at this; omega
  by_cases z : a.tmod b = 0
  · left
    have u := uniq b (a / b) (a % b) (a.tdiv b) 0 hb (by omega) s2 s3 (by omega) (by omega)
    omega
  · right
    have u := uniq b (a / b) (a % b) (a.tdiv b - 1) (a.tmod b + b) hb (by rw [Int.mul_sub]; omega) s2 s3 (by omega) (by omega)
    omega

/-- The nearest by what is left: up where it is half or more. -/
theorem rnd_up (a b : Int) (hb : 1 ≤ b) (h : b - a % b ≤ a % b) : rnd a b = a / b + 1 := by
  obtain ⟨s1, s2, s3⟩ := div_spec a b hb
  unfold rnd
  rw [if_neg (by omega)]
  obtain ⟨t1, t2, t3⟩ := div_spec (2 * a + b) (2 * b) (by omega)
  refine ((uniq (2 * b) ((2 * a + b) / (2 * b)) ((2 * a + b) % (2 * b)) (a / b + 1) (2 * (a % b) - b) (by omega) ?_ t2 t3 (by omega) (by omega)).1)
  rw [← t1, Int.mul_add, Int.mul_assoc]; omega

theorem rnd_dn (a b : Int) (hb : 1 ≤ b) (h : a % b < b - a % b) : rnd a b = a / b := by
  obtain ⟨s1, s2, s3⟩ := div_spec a b hb
  unfold rnd
  rw [if_neg (by omega)]
  obtain ⟨t1, t2, t3⟩ := div_spec (2 * a + b) (2 * b) (by omega)
  refine ((uniq (2 * b) ((2 * a + b) / (2 * b)) ((2 * a + b) % (2 * b)) (a / b) (2 * (a % b) + b) (by omega) ?_ t2 t3 (by omega) (by omega)).1)
  rw [← t1, Int.mul_assoc]; omega

theorem div_neg (a b : Int) (hb : 1 ≤ b) (ha : a < 0) : a / b < 0 :=
  (Int.ediv_lt_iff_lt_mul (by omega)).2 (by omega)

theorem dwn_of (a b : Int) (hb : 1 ≤ b) : dwn a b = a / b := by unfold dwn; rw [if_neg (by omega)]

/-- What is left half or more and the quotient the greatest: that cannot be. -/
theorem up_fits (a b : Int) (hb : 1 ≤ b) (h1 : a ≤ 9223372036854775807) (h : b - a % b ≤ a % b) : a / b < 9223372036854775807 := by
  obtain ⟨s1, s2, s3⟩ := div_spec a b hb
  refine Int.not_le.1 fun hq => ?_
  have : b * 9223372036854775807 ≤ b * (a / b) := Int.mul_le_mul_of_nonneg_left hq (by omega)
  have h2 : 2 ≤ b := by omega
  have : 2 * 9223372036854775807 ≤ b * 9223372036854775807 := Int.mul_le_mul_of_nonneg_right h2 (by omega)
  omega

/-- Where the search of a root stands: R is found above the bit, B the bit to be tried, 0 behind the last. -/
def SqInv (n R B : Int) : Prop :=
  ∃ j : Nat, j ≤ 32 ∧ B = (if j = 0 then 0 else ((2 ^ (j - 1) : Nat) : Int)) ∧ (∃ m : Nat, R = ((m * 2 ^ j : Nat) : Int)) ∧ R * R ≤ n ∧ n < (R + ((2 ^ j : Nat) : Int)) * (R + ((2 ^ j : Nat) : Int)) ∧ R + ((2 ^ j : Nat) : Int) ≤ 4294967296

theorem sq_start (n : Int) (h0 : 0 ≤ n) (h1 : n ≤ 9223372036854775807) : SqInv n 0 2147483648 := by
  have e : ((2 ^ 32 : Nat) : Int) = 4294967296 := by decide
  refine ⟨32, by omega, by decide, ⟨0, by simp⟩, by omega, ?_, by decide⟩
  rw [e]; omega

theorem sq_end (n R B : Int) (h : SqInv n R B) (hB : B ≤ 0) : 0 ≤ R ∧ R * R ≤ n ∧ n < (R + 1) * (R + 1) ∧ R + 1 ≤ 4294967296 := by
  obtain ⟨j, hj, rfl, ⟨m, hm⟩, h1, h2, h3⟩ := h
  by_cases z : j = 0
  · subst z
    simp only [Nat.pow_zero] at h2 h3
    exact ⟨by omega, h1, h2, h3⟩
  · rw [if_neg z] at hB
    have := Nat.two_pow_pos (j - 1)
    omega

/-- The bit is joined: as a sum; its square fits. -/
theorem sq_join (n R B : Int) (h : SqInv n R B) (hB : 0 < B) :
    0 ≤ R ∧ R < 18446744073709551616 ∧ B < 18446744073709551616 ∧ ((R.toNat ||| B.toNat : Nat) : Int) = R + B ∧ 0 ≤ R + B ∧ R + B ≤ 4294967295 ∧ 0 ≤ (R + B) * (R + B) ∧ (R + B) * (R + B) ≤ 18446744065119617025 := by
  obtain ⟨j, hj, rfl, ⟨m, hm⟩, h1, h2, h3⟩ := h
  by_cases z : j = 0
  · rw [if_pos z] at hB; omega
  · rw [if_neg z]
    obtain ⟨i, rfl⟩ : ∃ i, j = i + 1 := ⟨j - 1, by omega⟩
    simp only [Nat.add_sub_cancel]
    have e2 : (2 : Nat) ^ (i + 1) = 2 * 2 ^ i := by rw [Nat.pow_succ]; omega
    have p := Nat.two_pow_pos i
    rw [e2] at hm h3
    generalize hP : (2 : Nat) ^ i = P at *
    have hR : 0 ≤ R := by omega
    have hor : R.toNat ||| P = R.toNat + P := by
      have hx : R.toNat % 2 ^ (i + 1) = 0 := by rw [hm, Int.toNat_natCast, e2]; exact Nat.mul_mod_left _ _
      have hx2 : R.toNat = 2 ^ (i + 1) * (R.toNat / 2 ^ (i + 1)) := by have := Nat.div_add_mod R.toNat (2 ^ (i + 1)); omega
      rw [hx2]
      exact (Nat.two_pow_add_eq_or_of_lt (by rw [e2]; omega) _).symm
    have hle : R + P ≤ 4294967295 := by omega
    refine ⟨hR, by omega, by omega, ?_, by omega, hle, Int.mul_nonneg (by omega) (by omega), ?_⟩
    · rw [Int.toNat_natCast, hor]; omega
    · exact Int.le_trans (Int.mul_le_mul hle hle (by omega) (by omega)) (by decide)

theorem sq_yes (n R B : Int) (h : SqInv n R B) (hB : 0 < B) (hs : (R + B) * (R + B) ≤ n) : SqInv n (R + B) (B / 2) ∧ B / 2 < B := by
  obtain ⟨j, hj, rfl, ⟨m, hm⟩, h1, h2, h3⟩ := h
  by_cases z : j = 0
  · rw [if_pos z] at hB; omega
  · rw [if_neg z] at hB hs ⊢
    obtain ⟨i, rfl⟩ : ∃ i, j = i + 1 := ⟨j - 1, by omega⟩
    simp only [Nat.add_sub_cancel] at *
    have e2 : (2 : Nat) ^ (i + 1) = 2 * 2 ^ i := by rw [Nat.pow_succ]; omega
    have p := Nat.two_pow_pos i
    rw [e2] at hm h2 h3
    refine ⟨⟨i, by omega, ?_, ⟨2 * m + 1, ?_⟩, hs, ?_, ?_⟩, by omega⟩
    · by_cases y : i = 0
      · subst y; decide
      · rw [if_neg y]
        obtain ⟨k, rfl⟩ : ∃ k, i = k + 1 := ⟨i - 1, by omega⟩
        simp only [Nat.add_sub_cancel, Nat.pow_succ]; omega
    · have : m * (2 * 2 ^ i) = 2 * m * 2 ^ i := by rw [← Nat.mul_assoc, Nat.mul_comm m 2]
      rw [hm, this, Nat.add_mul]; omega
    · have : R + ((2 ^ i : Nat) : Int) + ((2 ^ i : Nat) : Int) = R + ((2 * 2 ^ i : Nat) : Int) := by omega
      rw [this]; exact h2
    · omega

theorem sq_no (n R B : Int) (h : SqInv n R B) (hB : 0 < B) (hs : n < (R + B) * (R + B)) : SqInv n R (B / 2) ∧ B / 2 < B := by
  obtain ⟨j, hj, rfl, ⟨m, hm⟩, h1, h2, h3⟩ := h
  by_cases z : j = 0
  · rw [if_pos z] at hB; omega
  · rw [if_neg z] at hB hs ⊢
    obtain ⟨i, rfl⟩ : ∃ i, j = i + 1 := ⟨j - 1, by omega⟩
    simp only [Nat.add_sub_cancel] at *
    have e2 : (2 : Nat) ^ (i + 1) = 2 * 2 ^ i := by rw [Nat.pow_succ]; omega
    have p := Nat.two_pow_pos i
    rw [e2] at hm h2 h3
    refine ⟨⟨i, by omega, ?_, ⟨2 * m, ?_⟩, h1, hs, ?_⟩, by omega⟩
    · by_cases y : i = 0
      · subst y; decide
      · rw [if_neg y]
        obtain ⟨k, rfl⟩ : ∃ k, i = k + 1 := ⟨i - 1, by omega⟩
        simp only [Nat.add_sub_cancel, Nat.pow_succ]; omega
    · have : m * (2 * 2 ^ i) = 2 * m * 2 ^ i := by rw [← Nat.mul_assoc, Nat.mul_comm m 2]
      rw [hm, this]
    · omega

/-- Of the roots of two numbers the lesser one's is not greater. -/
theorem root_le (a b r s : Int) (hab : a ≤ b) (hr : r * r ≤ a) (h0 : 0 ≤ r) (h1 : 0 ≤ s) (hs : b < (s + 1) * (s + 1)) : r ≤ s := by
  refine Int.not_lt.1 fun h => ?_
  have : (s + 1) * (s + 1) ≤ r * r := Int.mul_le_mul (by omega) (by omega) (by omega) (by omega)
  omega

theorem root_eq (a r s : Int) (hr : r * r ≤ a) (hr1 : a < (r + 1) * (r + 1)) (h0 : 0 ≤ r) (h1 : 0 ≤ s) (hs0 : s * s ≤ a) (hs : a < (s + 1) * (s + 1)) : r = s := by
  have := root_le a a r s (by omega) hr h0 h1 hs
  have := root_le a a s r (by omega) hs0 h1 h0 hr1
  omega

/-- The root of an int64 is at most the greatest one's. -/
theorem root_max (n r : Int) (h1 : n ≤ 9223372036854775807) (h0 : 0 ≤ r) (hr : r * r ≤ n) : r ≤ 3037000499 :=
  root_le n 9223372036854775807 r 3037000499 h1 hr h0 (by decide) (by decide)

/-- The nearest is no farther than half, of two the greater; it is what is down, or one more; one b more is one more. -/
theorem rnd_near (a b : Int) (hb : 1 ≤ b) :
    2 * (rnd a b * b - a) ≤ b ∧ -b < 2 * (rnd a b * b - a) ∧ (rnd a b = a / b ∨ rnd a b = a / b + 1) ∧ rnd (a + b) b = rnd a b + 1 := by
  obtain ⟨s1, s2, s3⟩ := div_spec a b hb
  have e1 : (a + b) / b = a / b + 1 := Int.add_ediv_of_dvd_right (Int.dvd_refl b) |>.trans (by rw [Int.ediv_self (by omega)])
  have e2 : (a + b) % b = a % b := by simp
  rw [Int.mul_comm] at s1
  by_cases h : b - a % b ≤ a % b
  · rw [rnd_up a b hb h, rnd_up (a + b) b hb (by rw [e2]; exact h), e1]
    rw [Int.add_mul]
    omega
  · rw [rnd_dn a b hb (by omega), rnd_dn (a + b) b hb (by rw [e2]; omega), e1]
    omega

theorem dwn_near (a b : Int) (hb : 1 ≤ b) : a / b * b ≤ a ∧ a - a / b * b < b := by
  obtain ⟨s1, s2, s3⟩ := div_spec a b hb
  rw [Int.mul_comm] at s1
  omega

theorem div_small (a b : Int) (hb : 1 ≤ b) (h0 : -1152921504606846976 ≤ a) (h1 : a < 1152921504606846976) :
    -1152921504606846976 ≤ a / b ∧ a / b < 1152921504606846976 := by
  constructor
  · exact (Int.le_ediv_iff_mul_le (by omega)).2 (by
      have : (-1152921504606846976 : Int) * b ≤ -1152921504606846976 * 1 := Int.mul_le_mul_of_nonpos_left (by omega) hb
      omega)
  · exact (Int.ediv_lt_iff_lt_mul (by omega)).2 (by
      have : (1152921504606846976 : Int) * 1 ≤ 1152921504606846976 * b := Int.mul_le_mul_of_nonneg_left hb (by omega)
      omega)

/-- The nearest of the opposite: one less the nearest at a half, else the opposite. -/
theorem rnd_opp (a b : Int) (hb : 1 ≤ b) :
    (2 * (a - a / b * b) = b → rnd (-a) b = 1 - rnd a b) ∧ (2 * (a - a / b * b) ≠ b → rnd (-a) b = - rnd a b) := by
  obtain ⟨s1, s2, s3⟩ := div_spec a b hb
  obtain ⟨t1, t2, t3⟩ := div_spec (-a) b hb
  have e : a - a / b * b = a % b := by rw [Int.mul_comm]; omega
  rw [e]
  by_cases z : a % b = 0
  · have u := uniq b (-a / b) (-a % b) (-(a / b)) 0 hb (by rw [Int.mul_neg]; omega) t2 t3 (by omega) (by omega)
    rw [rnd_dn a b hb (by omega), rnd_dn (-a) b hb (by omega), u.1]
    omega
  · have u := uniq b (-a / b) (-a % b) (-(a / b) - 1) (b - a % b) hb (by rw [Int.mul_sub, Int.mul_neg]; omega) t2 t3 (by omega) (by omega)
    by_cases h : b - a % b ≤ a % b
    · by_cases g : b - (-a % b) ≤ -a % b
      · rw [rnd_up a b hb h, rnd_up (-a) b hb g, u.1]; omega
      · rw [rnd_up a b hb h, rnd_dn (-a) b hb (by omega), u.1]; omega
    · rw [rnd_dn a b hb (by omega), rnd_up (-a) b hb (by omega), u.1]; omega

/-- A square's root, that of one less, that of a side more. -/
theorem root_sq (s r : Int) (hs : 0 ≤ s) (h0 : 0 ≤ r) (hr : r * r ≤ s * s) (hr1 : s * s < (r + 1) * (r + 1)) : r = s := by
  refine root_eq (s * s) r s hr hr1 h0 hs (by omega) ?_
  exact Int.lt_of_lt_of_le (b := s * s + s + s + 1) (by omega) (by rw [Int.add_mul, Int.mul_add]; omega)

theorem root_sq_less (s r : Int) (hs : 1 ≤ s) (h0 : 0 ≤ r) (hr : r * r ≤ s * s - 1) (hr1 : s * s - 1 < (r + 1) * (r + 1)) : r = s - 1 := by
  have e : (s - 1) * (s - 1) = s * s - s - s + 1 := by rw [Int.sub_mul, Int.mul_sub]; omega
  refine root_eq (s * s - 1) r (s - 1) hr hr1 h0 (by omega) (by omega) ?_
  have : s - 1 + 1 = s := by omega
  rw [this]; omega

theorem root_sq_more (s r : Int) (hs : 0 ≤ s) (h0 : 0 ≤ r) (hr : r * r ≤ s * s + s) (hr1 : s * s + s < (r + 1) * (r + 1)) : r = s := by
  refine root_eq (s * s + s) r s hr hr1 h0 hs (by omega) ?_
  exact Int.lt_of_lt_of_le (b := s * s + s + s + 1) (by omega) (by rw [Int.add_mul, Int.mul_add]; omega)

theorem root_exN (n : Nat) : ∃ r : Int, 0 ≤ r ∧ r * r ≤ n ∧ (n : Int) < (r + 1) * (r + 1) := by
  induction n with
  | zero => exact ⟨0, by decide, by decide, by decide⟩
  | succ n ih =>
    obtain ⟨r, h0, h1, h2⟩ := ih
    by_cases h : ((n + 1 : Nat) : Int) < (r + 1) * (r + 1)
    · exact ⟨r, h0, by omega, h⟩
    · refine ⟨r + 1, by omega, by omega, ?_⟩
      have e : (r + 1 + 1) * (r + 1 + 1) = (r + 1) * (r + 1) + (r + 1) + (r + 1) + 1 := by rw [Int.add_mul (r + 1) 1, Int.mul_add (r + 1)]; omega
      rw [e]; omega

theorem root_ex (n : Int) (h : 0 ≤ n) : ∃ r : Int, 0 ≤ r ∧ r * r ≤ n ∧ n < (r + 1) * (r + 1) := by
  have := root_exN n.toNat
  rw [Int.toNat_of_nonneg h] at this
  exact this

end Go.Proofs.Ytehlehcbjoideaa.Plain

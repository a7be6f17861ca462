/-
  Plain arithmetic of the nearest part: it grows with what is divided, it falls with what divides.
-/
import Derived.Test.YtehlehcbjoideaaPlain
namespace Go.Proofs.Ytehlehcbjoideaa.Plain

theorem rnd_mono (a b c : Int) (hc : 1 ≤ c) (h : a ≤ b) : rnd a c ≤ rnd b c := by
  unfold rnd
  rw [if_neg (by omega), if_neg (by omega)]
  exact Int.ediv_le_ediv (by omega) (by omega)

theorem div_mono (a b c : Int) (hc : 1 ≤ c) (h : a ≤ b) : a / c ≤ b / c := Int.ediv_le_ediv (by omega) h

theorem rnd_one (a : Int) : rnd a 1 = a := by
  unfold rnd
  rw [if_neg (by omega)]
  omega

/-- The nearest of a product over its factor. -/
theorem rnd_mul (a c : Int) (hc : 1 ≤ c) : rnd (a * c) c = a := by
  have e : a * c / c = a := Int.mul_ediv_cancel a (by omega)
  have f : a * c % c = 0 := Int.mul_emod_left a c
  rw [rnd_dn (a * c) c hc (by rw [f]; omega), e]

theorem rnd_nonneg (a c : Int) (hc : 1 ≤ c) (h : 0 ≤ a) : 0 ≤ rnd a c := by
  unfold rnd
  rw [if_neg (by omega)]
  exact Int.ediv_nonneg (by omega) (by omega)

theorem rnd_anti (a c : Int) (hc : 1 ≤ c) (h : 0 ≤ a) : rnd a (c + 1) ≤ rnd a c := by
  have q0 := rnd_nonneg a (c + 1) (by omega) h
  have d := Int.ediv_mul_le (2 * a + (c + 1)) (b := 2 * (c + 1)) (by omega)
  have e : rnd a (c + 1) = (2 * a + (c + 1)) / (2 * (c + 1)) := by unfold rnd; rw [if_neg (by omega)]
  rw [← e] at d
  have e2 : rnd a c = (2 * a + c) / (2 * c) := by unfold rnd; rw [if_neg (by omega)]
  rw [e2]
  refine (Int.le_ediv_iff_mul_le (by omega)).2 ?_
  obtain ⟨q, hq⟩ : ∃ q, rnd a (c + 1) = q := ⟨_, rfl⟩
  rw [hq] at d q0 ⊢
  have f : q * (2 * (c + 1)) = q * (2 * c) + 2 * q := by rw [Int.mul_add, Int.mul_add]; omega
  rw [f] at d
  by_cases z : q = 0
  · subst z; omega
  · omega

/-- The nearest is within what is divided, on either side. -/
theorem rnd_within (a c m : Int) (hc : 1 ≤ c) (h0 : -m ≤ a) (h1 : a ≤ m) (hm : 0 ≤ m) : -m ≤ rnd a c ∧ rnd a c ≤ m := by
  unfold rnd
  rw [if_neg (by omega)]
  have k : m ≤ m * c := by
    have := Int.mul_le_mul_of_nonneg_left hc hm
    omega
  have k1 : m * (2 * c) = 2 * (m * c) := by rw [Int.mul_left_comm]
  have k2 : -m * (2 * c) = -(2 * (m * c)) := by rw [Int.neg_mul, k1]
  constructor
  · exact (Int.le_ediv_iff_mul_le (by omega)).2 (by rw [k2]; omega)
  · have : (2 * a + c) / (2 * c) < m + 1 := (Int.ediv_lt_iff_lt_mul (by omega)).2 (by rw [Int.add_mul, k1]; omega)
    omega

end Go.Proofs.Ytehlehcbjoideaa.Plain

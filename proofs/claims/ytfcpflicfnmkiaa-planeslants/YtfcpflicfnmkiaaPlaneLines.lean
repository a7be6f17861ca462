/-
  What is near a stretch along an axis, and near one that goes three along and four up, in whole numbers without bounds.
-/
import Derived.Test.YtfcpflicfnmkiaaPlaneGrow
import Derived.Test.YtfcpflicfnmkiaaMask
namespace Go.Proofs.Ytfcpflicfnmkiaa
open Go.RowKit

theorem scale_le (x y k : Int) (hk : 0 < k) : x * k ≤ y * k ↔ x ≤ y :=
  ⟨fun h => Int.le_of_mul_le_mul_right h hk, fun h => Int.mul_le_mul_of_nonneg_right h (by omega)⟩

theorem near_slant (k n m w : Int) (hk : 1 ≤ k) (n0 : 0 ≤ n) (n1 : n ≤ k) : PL.near 0 0 (3 * k) (4 * k) (3 * n - 4 * m) (4 * n + 3 * m) w = decide (100 * (m * m) ≤ w * w) := by
  have hd : PL.dot 0 0 (3 * k) (4 * k) (3 * n - 4 * m) (4 * n + 3 * m) = 25 * (k * n) := by unfold PL.dot; grind
  have hl : PL.len2 0 0 (3 * k) (4 * k) = 25 * (k * k) := by unfold PL.len2 PL.dot; grind
  have ha : PL.len2 0 0 (3 * n - 4 * m) (4 * n + 3 * m) = 25 * (n * n) + 25 * (m * m) := by unfold PL.len2 PL.dot; grind
  have hb : PL.len2 (3 * k) (4 * k) (3 * n - 4 * m) (4 * n + 3 * m) = 25 * ((n - k) * (n - k)) + 25 * (m * m) := by unfold PL.len2 PL.dot; grind
  have hc : PL.cross 0 0 (3 * k) (4 * k) (3 * n - 4 * m) (4 * n + 3 * m) = 25 * (k * m) := by unfold PL.cross; grind
  have kk : 0 < k * k := Int.mul_pos (by omega) (by omega)
  unfold PL.near
  rw [hd, hl, ha, hb, hc]
  by_cases h0 : n = 0
  · subst h0
    rw [if_pos (by simp), decide_eq_decide]
    simp only [Int.mul_zero, Int.zero_add]
    omega
  · have kn : 0 < k * n := Int.mul_pos (by omega) (by omega)
    rw [if_neg (by omega)]
    by_cases h1 : n = k
    · subst h1
      rw [if_pos (by omega), decide_eq_decide]
      simp only [Int.sub_self, Int.mul_zero, Int.zero_add]
      omega
    · have lt : k * n < k * k := Int.mul_lt_mul_of_pos_left (by omega) (by omega)
      rw [if_neg (by omega), decide_eq_decide]
      have e : 4 * (25 * (k * m) * (25 * (k * m))) = 100 * (m * m) * (25 * (k * k)) := by grind
      rw [e]
      exact scale_le _ _ _ (by omega)

theorem len_slant (k : Int) : PL.len2 0 0 (3 * k) (4 * k) = 25 * k * k := by unfold PL.len2 PL.dot; grind

/-- How far beyond its ends, along it. -/
def Out (x l o : Int) : Prop := x < 0 ∧ o = -x ∨ 0 ≤ x ∧ x ≤ l ∧ o = 0 ∨ l < x ∧ o = x - l

theorem near_axis (z l x y w o : Int) (hl : 1 ≤ l) (ho : Out x l o) : PL.near z 7 (z + l) 7 (z + x) (7 + y) w = decide (4 * (o * o + y * y) ≤ w * w) := by
  have hd : PL.dot z 7 (z + l) 7 (z + x) (7 + y) = l * x := by unfold PL.dot; grind
  have hq : PL.len2 z 7 (z + l) 7 = l * l := by unfold PL.len2 PL.dot; grind
  have ha : PL.len2 z 7 (z + x) (7 + y) = x * x + y * y := by unfold PL.len2 PL.dot; grind
  have hb : PL.len2 (z + l) 7 (z + x) (7 + y) = (x - l) * (x - l) + y * y := by unfold PL.len2 PL.dot; grind
  have hc : PL.cross z 7 (z + l) 7 (z + x) (7 + y) = l * y := by unfold PL.cross; grind
  have ll : 0 < l * l := Int.mul_pos (by omega) (by omega)
  unfold PL.near
  rw [hd, hq, ha, hb, hc]
  by_cases h0 : x ≤ 0
  · have : l * x ≤ 0 := Int.mul_nonpos_of_nonneg_of_nonpos (by omega) h0
    rw [if_pos this]
    have e : o * o = x * x := by
      rcases ho with ⟨_, rfl⟩ | ⟨h, _, rfl⟩ | ⟨h, rfl⟩
      · grind
      · obtain rfl : x = 0 := by omega
        rfl
      · omega
    rw [e]
  · have lx : 0 < l * x := Int.mul_pos (by omega) (by omega)
    rw [if_neg (by omega)]
    by_cases h1 : l ≤ x
    · have : l * l ≤ l * x := Int.mul_le_mul_of_nonneg_left h1 (by omega)
      rw [if_pos this]
      have e : o * o = (x - l) * (x - l) := by
        rcases ho with ⟨_, rfl⟩ | ⟨_, h, rfl⟩ | ⟨h, rfl⟩
        · omega
        · obtain rfl : x = l := by omega
          simp
        · rfl
      rw [e]
    · have lt : l * x < l * l := Int.mul_lt_mul_of_pos_left (by omega) (by omega)
      rw [if_neg (by omega), decide_eq_decide]
      obtain rfl : o = 0 := by rcases ho with ⟨_, rfl⟩ | ⟨_, h, rfl⟩ | ⟨h, rfl⟩ <;> omega
      have e : 4 * (l * y * (l * y)) = 4 * (0 * 0 + y * y) * (l * l) := by grind
      rw [e]
      exact scale_le _ _ _ ll

end Go.Proofs.Ytfcpflicfnmkiaa

/-
  Sides, products, lengths and what is near a stretch, in whole numbers without bounds: how great they get, and what is the same the other way round, turned by a quarter, moved, wider. Plain numbers.
-/
import Derived.Lib.BitFns
namespace Go.Proofs.Ytfcpflicfnmkiaa
namespace PL

def cross (ax ay bx bY px py : Int) : Int := (bx - ax) * (py - ay) - (bY - ay) * (px - ax)
def dot (ax ay bx bY px py : Int) : Int := (bx - ax) * (px - ax) + (bY - ay) * (py - ay)
def len2 (ax ay bx bY : Int) : Int := dot ax ay bx bY bx bY
def near (ax ay bx bY px py w : Int) : Bool :=
  if dot ax ay bx bY px py ≤ 0 then decide (4 * len2 ax ay px py ≤ w * w)
  else if len2 ax ay bx bY ≤ dot ax ay bx bY px py then decide (4 * len2 bx bY px py ≤ w * w)
  else decide (4 * (cross ax ay bx bY px py * cross ax ay bx bY px py) ≤ w * w * len2 ax ay bx bY)

theorem mulb (x y : Int) (A B : Nat) (h1 : -(A : Int) ≤ x ∧ x ≤ A) (h2 : -(B : Int) ≤ y ∧ y ≤ B) : -((A * B : Nat) : Int) ≤ x * y ∧ x * y ≤ ((A * B : Nat) : Int) := by
  have e := Int.natAbs_mul x y
  have a : x.natAbs ≤ A := by omega
  have b : y.natAbs ≤ B := by omega
  have m := Nat.mul_le_mul a b
  rw [← e] at m
  omega

theorem sq_nonneg (x : Int) : 0 ≤ x * x := by
  rcases Int.le_total 0 x with h | h
  · exact Int.mul_nonneg h h
  · have := Int.mul_nonneg (Int.neg_nonneg_of_nonpos h) (Int.neg_nonneg_of_nonpos h)
    rw [Int.neg_mul_neg] at this
    exact this

/-- The four products that Cross and Dot are made of. -/
theorem prod_bound (x y : Int) (h1 : -268435456 ≤ x ∧ x ≤ 268435456) (h2 : -268435456 ≤ y ∧ y ≤ 268435456) : -72057594037927936 ≤ x * y ∧ x * y ≤ 72057594037927936 := mulb x y 268435456 268435456 h1 h2

/-- Within the chapter's bounds. -/
def In (x : Int) : Prop := -134217728 ≤ x ∧ x ≤ 134217728

theorem cross_bound (ax ay bx bY px py : Int) (h1 : In ax) (h2 : In ay) (h3 : In bx) (h4 : In bY) (h5 : In px) (h6 : In py) : -144115188075855872 ≤ cross ax ay bx bY px py ∧ cross ax ay bx bY px py ≤ 144115188075855872 := by
  unfold In at *
  unfold cross
  have a := prod_bound (bx - ax) (py - ay) (by omega) (by omega)
  have b := prod_bound (bY - ay) (px - ax) (by omega) (by omega)
  omega

theorem dot_bound (ax ay bx bY px py : Int) (h1 : In ax) (h2 : In ay) (h3 : In bx) (h4 : In bY) (h5 : In px) (h6 : In py) : -144115188075855872 ≤ dot ax ay bx bY px py ∧ dot ax ay bx bY px py ≤ 144115188075855872 := by
  unfold In at *
  unfold dot
  have a := prod_bound (bx - ax) (px - ax) (by omega) (by omega)
  have b := prod_bound (bY - ay) (py - ay) (by omega) (by omega)
  omega

theorem len2_nonneg (ax ay bx bY : Int) : 0 ≤ len2 ax ay bx bY := Int.add_nonneg (sq_nonneg _) (sq_nonneg _)

theorem len2_bound (ax ay bx bY : Int) (h1 : In ax) (h2 : In ay) (h3 : In bx) (h4 : In bY) : 0 ≤ len2 ax ay bx bY ∧ len2 ax ay bx bY ≤ 144115188075855872 :=
  ⟨len2_nonneg _ _ _ _, (dot_bound ax ay bx bY bx bY h1 h2 h3 h4 h3 h4).2⟩

theorem w_bound (w : Int) (h0 : 0 ≤ w) (h1 : w ≤ 268435456) : 0 ≤ w * w ∧ w * w ≤ 72057594037927936 := ⟨sq_nonneg w, (prod_bound w w (by omega) (by omega)).2⟩

theorem len2_zero {ax ay bx bY : Int} (h : len2 ax ay bx bY = 0) : bx = ax ∧ bY = ay := by
  unfold len2 dot at h
  have a := sq_nonneg (bx - ax)
  have b := sq_nonneg (bY - ay)
  have c : (bx - ax) * (bx - ax) = 0 := by omega
  have d : (bY - ay) * (bY - ay) = 0 := by omega
  have c' : bx - ax = 0 := (Int.mul_eq_zero.1 c).elim id id
  have d' : bY - ay = 0 := (Int.mul_eq_zero.1 d).elim id id
  omega

theorem len2_swap (ax ay bx bY : Int) : len2 bx bY ax ay = len2 ax ay bx bY := by unfold len2 dot; grind
theorem cross_swap (ax ay bx bY px py : Int) : cross bx bY ax ay px py = -cross ax ay bx bY px py := by unfold cross; grind
theorem dot_swap (ax ay bx bY px py : Int) : dot bx bY ax ay px py = len2 ax ay bx bY - dot ax ay bx bY px py := by unfold len2 dot; grind
theorem cross_turn (ax ay bx bY px py : Int) : cross (-ay) ax (-bY) bx (-py) px = cross ax ay bx bY px py := by unfold cross; grind
theorem dot_turn (ax ay bx bY px py : Int) : dot (-ay) ax (-bY) bx (-py) px = dot ax ay bx bY px py := by unfold dot; grind
theorem len2_turn (ax ay bx bY : Int) : len2 (-ay) ax (-bY) bx = len2 ax ay bx bY := dot_turn _ _ _ _ _ _
theorem cross_move (ax ay bx bY px py x y : Int) : cross (ax + x) (ay + y) (bx + x) (bY + y) (px + x) (py + y) = cross ax ay bx bY px py := by unfold cross; grind
theorem dot_move (ax ay bx bY px py x y : Int) : dot (ax + x) (ay + y) (bx + x) (bY + y) (px + x) (py + y) = dot ax ay bx bY px py := by unfold dot; grind
theorem len2_move (ax ay bx bY x y : Int) : len2 (ax + x) (ay + y) (bx + x) (bY + y) = len2 ax ay bx bY := dot_move _ _ _ _ _ _ _ _

theorem near_turn (ax ay bx bY px py w : Int) : near (-ay) ax (-bY) bx (-py) px w = near ax ay bx bY px py w := by
  unfold near; rw [cross_turn, dot_turn, len2_turn, len2_turn, len2_turn]
theorem near_move (ax ay bx bY px py x y w : Int) : near (ax + x) (ay + y) (bx + x) (bY + y) (px + x) (py + y) w = near ax ay bx bY px py w := by
  unfold near; rw [cross_move, dot_move, len2_move, len2_move, len2_move]

theorem near_swap (ax ay bx bY px py w : Int) : near bx bY ax ay px py w = near ax ay bx bY px py w := by
  have l := len2_nonneg ax ay bx bY
  unfold near
  rw [cross_swap, dot_swap, len2_swap ax ay bx bY, Int.neg_mul_neg]
  by_cases h1 : dot ax ay bx bY px py ≤ 0
  · rw [if_pos h1]
    by_cases h2 : len2 ax ay bx bY = 0
    · obtain ⟨rfl, rfl⟩ := len2_zero h2
      rw [if_pos (by unfold dot; simp [len2, dot])]
    · rw [if_neg (by omega), if_pos (by omega)]
  · rw [if_neg h1]
    by_cases h2 : len2 ax ay bx bY ≤ dot ax ay bx bY px py
    · rw [if_pos h2, if_pos (by omega)]
    · rw [if_neg h2, if_neg (by omega), if_neg (by omega)]

theorem near_a (ax ay bx bY w : Int) : near ax ay bx bY ax ay w = true := by
  have h := sq_nonneg w
  unfold near
  rw [if_pos (by unfold dot; simp)]
  have : len2 ax ay ax ay = 0 := by unfold len2 dot; simp
  rw [this]; simpa using h

theorem near_b (ax ay bx bY w : Int) : near ax ay bx bY bx bY w = true := by rw [← near_swap]; exact near_a _ _ _ _ _

theorem sq_more (w m : Int) (h0 : 0 ≤ w) (h1 : 0 ≤ m) : w * w ≤ (w + m) * (w + m) := Int.mul_le_mul (by omega) (by omega) h0 (by omega)

theorem near_more (ax ay bx bY px py w m : Int) (h0 : 0 ≤ w) (h1 : 0 ≤ m) (h : near ax ay bx bY px py w = true) : near ax ay bx bY px py (w + m) = true := by
  have s := sq_more w m h0 h1
  have l := len2_nonneg ax ay bx bY
  unfold near at h ⊢
  by_cases c1 : dot ax ay bx bY px py ≤ 0
  · rw [if_pos c1] at h ⊢
    simp only [decide_eq_true_eq] at h ⊢; omega
  · rw [if_neg c1] at h ⊢
    by_cases c2 : len2 ax ay bx bY ≤ dot ax ay bx bY px py
    · rw [if_pos c2] at h ⊢
      simp only [decide_eq_true_eq] at h ⊢; omega
    · rw [if_neg c2] at h ⊢
      simp only [decide_eq_true_eq] at h ⊢
      exact Int.le_trans h (Int.mul_le_mul_of_nonneg_right s l)

/-- Half of w, of a whole number's square, rounded down. -/
theorem quarter (L W : Int) : L ≤ W / 4 ↔ 4 * L ≤ W := by omega

end PL
end Go.Proofs.Ytfcpflicfnmkiaa

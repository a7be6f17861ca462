/-
  The road of WireSizes.
-/
import Derived.Test.YtgiicchblbhenaaWireFirst
namespace Go.Proofs.Ytgiicchblbhenaa
open Go.RowKit

theorem and_one (n : Nat) (h : n < 18446744073709551616) : bits .and .u64 (n : Int) 1 = ((n % 2 : Nat) : Int) := by
  have := bits_and_u64_nat n 1 h (by decide)
  rw [Nat.and_one_is_mod] at this
  exact this

theorem low_is (u : Nat) (h : u ≤ 8) : ∃ low : Nat, IntKind.u64.wrap ((2 : Int) ^ (7 * (u + 1))) = (low : Int) ∧ 128 ≤ low ∧ low ≤ 9223372036854775808 ∧ WP.sz low = u + 2 ∧ WP.sz (low - 1) = u + 1 := by
  have p1 : 2 ^ 7 ≤ 2 ^ (7 * (u + 1)) := Nat.pow_le_pow_right (by omega) (by omega)
  have p2 : 2 ^ (7 * (u + 1)) ≤ 2 ^ 63 := Nat.pow_le_pow_right (by omega) (by omega)
  have s1 := WP.sz_two (u + 1)
  have s2 := WP.sz_two_less (u + 1) (by omega)
  have c : ((2 ^ (7 * (u + 1)) : Nat) : Int) = (2 : Int) ^ (7 * (u + 1)) := by simp
  obtain ⟨low, hlow⟩ : ∃ low, 2 ^ (7 * (u + 1)) = low := ⟨_, rfl⟩
  rw [hlow] at p1 p2 s1 s2 c
  refine ⟨low, ?_, p1, by omega, s1, s2⟩
  rw [← c, IntKind.wrap_u64]
  omega

theorem zig_nat (z : Int) (z0 : -9223372036854775808 ≤ z) (z1 : z ≤ 9223372036854775807) : ∃ Z : Nat, zig z = (Z : Int) ∧ Z < 18446744073709551616 ∧ ((Z % 2 : Nat) : Int) = if z < 0 then 1 else 0 := by
  refine ⟨(zig z).toNat, ?_, ?_, ?_⟩ <;> unfold zig <;> split <;> omega

theorem zig_half (z : Int) (z0 : -9223372036854775808 ≤ z) (z1 : z ≤ 9223372036854775807) (Z Y : Nat) (h : zig z = (Z : Int)) (g : zig (z.tdiv 2) = (Y : Int)) : Y ≤ Z := by
  unfold zig at h g
  by_cases c : z < 0
  · rw [if_pos c] at h
    have e : z.tdiv 2 = -((-z) / 2) := by
      have : z.tdiv 2 = -((-z).tdiv 2) := by rw [Int.neg_tdiv]; omega
      rw [this, Int.tdiv_eq_ediv_of_nonneg (by omega)]
    rw [e] at g
    split at g <;> omega
  · rw [if_neg c] at h
    rw [Int.tdiv_eq_ediv_of_nonneg (by omega), if_neg (by omega)] at g
    omega

set_option maxRecDepth 20000 in
set_option maxHeartbeats 2000000 in
theorem sizes_at (a z : Int) (w : World) (t : Int) (ht : a.tmod 9 = t) (t0 : -8 ≤ t) (t1 : t ≤ 8) (u : Nat) (hu : (t + 9) % 9 = (u : Int)) (hu8 : u ≤ 8) (z0 : -9223372036854775808 ≤ z) (z1 : z ≤ 9223372036854775807) :
    Calls Try.prog 3 #[.int .i64 a, .int .i64 z] w fun e w' => e = .returned (.bool true) ∧ Below w.heap.size w w' := by
  obtain ⟨low, hlow, l1, l2, l3, l4⟩ := low_is u hu8
  have kA : Hid (∀ w, Calls Try.prog 5 #[.int .u64 low] w fun e w' => e = .returned (.int .i64 ((u : Int) + 2)) ∧ ∃ m, w' = w.drewN m) := fun w => by have := size_any low w (by omega); rw [l3] at this; exact this
  have kB : Hid (∀ w, Calls Try.prog 5 #[.int .u64 ((low : Int) - 1)] w fun e w' => e = .returned (.int .i64 ((u : Int) + 1)) ∧ ∃ m, w' = w.drewN m) := fun w => by
    have := size_any (low - 1) w (by omega)
    rw [l4, show ((low - 1 : Nat) : Int) = (low : Int) - 1 by omega] at this
    exact this
  have kP : Hid (∀ w, Calls Try.prog 7 #[.slice none 0 0, .int .u64 low] w fun e w' => ∃ g, e = .returned (.slice (some ⟨g, 0, none⟩) (u + 2) (u + 2)) ∧ Below w.heap.size w w') := fun w => by
    refine (put_any none 0 [] low w (by omega) (cells_nil _ _) (by simp)).mono ?_
    rintro e w' ⟨g, rfl, _, _, hb⟩
    exact ⟨g, by rw [l3]; simp, hb⟩
  have k0 : Hid (∀ w, Calls Try.prog 5 #[.int .u64 0] w fun e w' => e = .returned (.int .i64 1) ∧ ∃ m, w' = w.drewN m) := fun w => by have := size_any 0 w (by omega); rw [WP.sz_lt (by omega)] at this; exact this
  have kM : Hid (∀ w, Calls Try.prog 5 #[.int .u64 18446744073709551615] w fun e w' => e = .returned (.int .i64 10) ∧ ∃ m, w' = w.drewN m) := fun w => by
    have := size_any 18446744073709551615 w (by omega)
    rw [show WP.sz 18446744073709551615 = 10 from Nat.le_antisymm (WP.sz_le10 (by omega)) (WP.sz_lo 9 _ (by rw [WP.pow9]; omega))] at this
    exact this
  clear l3 l4
  obtain ⟨Z, hZ, hZ1, hZ2⟩ := zig_nat z z0 z1
  have kZ : Hid (∀ w, Calls Try.prog 6 #[.int .i64 z] w fun e w' => e = .returned (.int .u64 Z) ∧ ∃ m, w' = w.drewN m) := fun w => by have := zig_any z w z0 z1; rw [hZ] at this; exact this
  have h0 : -4611686018427387904 ≤ z.tdiv 2 ∧ z.tdiv 2 ≤ 4611686018427387903 := by
    by_cases c : z < 0
    · have e : z.tdiv 2 = -((-z) / 2) := by
        have : z.tdiv 2 = -((-z).tdiv 2) := by rw [Int.neg_tdiv]; omega
        rw [this, Int.tdiv_eq_ediv_of_nonneg (by omega)]
      omega
    · rw [Int.tdiv_eq_ediv_of_nonneg (by omega)]; omega
  obtain ⟨Y, hY, hY1, hY2⟩ := zig_nat (z.tdiv 2) (by omega) (by omega)
  have hYZ := zig_half z z0 z1 Z Y hZ hY
  have hsz := WP.sz_mono hYZ
  clear hY2 hYZ
  have kY : Hid (∀ w, Calls Try.prog 6 #[.int .i64 (z.tdiv 2)] w fun e w' => e = .returned (.int .u64 Y) ∧ ∃ m, w' = w.drewN m) := fun w => by have := zig_any (z.tdiv 2) w (by omega) (by omega); rw [hY] at this; exact this
  have kSZ : Hid (∀ w, Calls Try.prog 5 #[.int .u64 Z] w fun e w' => e = .returned (.int .i64 (WP.sz Z)) ∧ ∃ m, w' = w.drewN m) := fun w => size_any Z w hZ1
  have kSY : Hid (∀ w, Calls Try.prog 5 #[.int .u64 Y] w fun e w' => e = .returned (.int .i64 (WP.sz Y)) ∧ ∃ m, w' = w.drewN m) := fun w => size_any Y w hY1
  have b1 := WP.sz_le10 hZ1
  obtain ⟨sZ, hsZ⟩ : ∃ s, WP.sz Z = s := ⟨_, rfl⟩
  obtain ⟨sY, hsY⟩ : ∃ s, WP.sz Y = s := ⟨_, rfl⟩
  rw [hsZ] at kSZ hsz b1
  rw [hsY] at kSY hsz
  obtain ⟨y, hy⟩ : ∃ y, z.tdiv 2 = y := ⟨_, rfl⟩
  rw [hy] at kY h0
  have hand := and_one Z hZ1
  rw [hZ2] at hand
  clear hZ2 hZ hY hsZ hsY
  by_cases c : z < 0
  · rw [if_pos c] at hand
    have cd : decide (z < 0) = true := by simpa using c
    go_enter Try.func3, Try.ntmps3
    go_wp2_with (first
      | (go_at_call 4; refine (first_any _).mono ?_; rintro e w1 ⟨rfl, hb⟩)
      | (go_at_call_has 5 (Value.int .u64 ((low : Int) - 1)); refine (kB.out _).mono ?_; rintro e w2 ⟨rfl, m2, rfl⟩)
      | (go_at_call_has 5 (Value.int .u64 0); refine (k0.out _).mono ?_; rintro e w2 ⟨rfl, m4, rfl⟩)
      | (go_at_call_has 5 (Value.int .u64 18446744073709551615); refine (kM.out _).mono ?_; rintro e w2 ⟨rfl, m3, rfl⟩)
      | (go_at_call_has 5 (Value.int .u64 (low : Int)); refine (kA.out _).mono ?_; rintro e w2 ⟨rfl, m1, rfl⟩)
      | (go_at_call_has 5 (Value.int .u64 (Z : Int)); refine (kSZ.out _).mono ?_; rintro e w2 ⟨rfl, m5, rfl⟩)
      | (go_at_call_has 5 (Value.int .u64 (Y : Int)); refine (kSY.out _).mono ?_; rintro e w2 ⟨rfl, m6, rfl⟩)
      | (go_at_call_has 6 (Value.int .i64 z); refine (kZ.out _).mono ?_; rintro e w2 ⟨rfl, m7, rfl⟩)
      | (go_at_call_has 6 (Value.int .i64 y); refine (kY.out _).mono ?_; rintro e w2 ⟨rfl, m8, rfl⟩)
      | (go_at_call 7; refine (kP.out _).mono ?_; rintro e w3 ⟨g, rfl, hb2⟩))
    go_ret
    exact ⟨rfl, hb.trans ((below_drewN' hb2).mono hb.size)⟩
  · rw [if_neg c] at hand
    have cd : decide (z < 0) = false := by simpa using c
    go_enter Try.func3, Try.ntmps3
    go_wp2_with (first
      | (go_at_call 4; refine (first_any _).mono ?_; rintro e w1 ⟨rfl, hb⟩)
      | (go_at_call_has 5 (Value.int .u64 ((low : Int) - 1)); refine (kB.out _).mono ?_; rintro e w2 ⟨rfl, m2, rfl⟩)
      | (go_at_call_has 5 (Value.int .u64 0); refine (k0.out _).mono ?_; rintro e w2 ⟨rfl, m4, rfl⟩)
      | (go_at_call_has 5 (Value.int .u64 18446744073709551615); refine (kM.out _).mono ?_; rintro e w2 ⟨rfl, m3, rfl⟩)
      | (go_at_call_has 5 (Value.int .u64 (low : Int)); refine (kA.out _).mono ?_; rintro e w2 ⟨rfl, m1, rfl⟩)
      | (go_at_call_has 5 (Value.int .u64 (Z : Int)); refine (kSZ.out _).mono ?_; rintro e w2 ⟨rfl, m5, rfl⟩)
      | (go_at_call_has 5 (Value.int .u64 (Y : Int)); refine (kSY.out _).mono ?_; rintro e w2 ⟨rfl, m6, rfl⟩)
      | (go_at_call_has 6 (Value.int .i64 z); refine (kZ.out _).mono ?_; rintro e w2 ⟨rfl, m7, rfl⟩)
      | (go_at_call_has 6 (Value.int .i64 y); refine (kY.out _).mono ?_; rintro e w2 ⟨rfl, m8, rfl⟩)
      | (go_at_call 7; refine (kP.out _).mono ?_; rintro e w3 ⟨g, rfl, hb2⟩))
    go_ret
    exact ⟨rfl, hb.trans ((below_drewN' hb2).mono hb.size)⟩

end Go.Proofs.Ytgiicchblbhenaa

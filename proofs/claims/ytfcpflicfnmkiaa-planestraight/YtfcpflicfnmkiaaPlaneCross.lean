/-
  What Cross, Dot and Len2 of package plane answer, and the document's own, walked over the program; Mul64 of math/bits, cut, turn, Number, SamePoint.
-/
import Derived.Test.YtfcpflicfnmkiaaPlaneBase
namespace Go.Proofs.Ytfcpflicfnmkiaa
open Go.RowKit

theorem maskI (a : Int) (h0 : 0 ≤ a) (h1 : a < 18446744073709551616) : bits .and .u64 a 4294967295 = a % 4294967296 := by
  rw [u64_and a 4294967295 h0 h1 (by omega) (by omega)]
  have e : a.toNat &&& (4294967295 : Int).toNat = a.toNat % 4294967296 := Nat.and_two_pow_sub_one_eq_mod a.toNat 32
  rw [e]; omega

theorem half_mul (a b : Int) (a0 : 0 ≤ a) (a1 : a ≤ 4294967295) (b0 : 0 ≤ b) (b1 : b ≤ 4294967295) : 0 ≤ a * b ∧ a * b ≤ 18446744065119617025 :=
  ⟨Int.mul_nonneg a0 b0, Int.le_trans (Int.mul_le_mul a1 b1 b0 (by omega)) (by decide)⟩

theorem split_mul (x1 x0 y1 y0 : Int) : (4294967296 * x1 + x0) * (4294967296 * y1 + y0) = 18446744073709551616 * (x1 * y1) + 4294967296 * (x1 * y0) + 4294967296 * (x0 * y1) + x0 * y0 := by
  rw [Int.add_mul, Int.mul_add, Int.mul_add, Int.mul_assoc, Int.mul_assoc, Int.mul_left_comm x1 4294967296 y1, Int.mul_left_comm x0 4294967296 y1]
  omega

set_option maxHeartbeats 1000000 in
theorem mul64_any (x y N : Int) (w : World) (hN : x * y = N) (x0 : 0 ≤ x) (x1 : x < 18446744073709551616) (y0 : 0 ≤ y) (y1 : y < 18446744073709551616) :
    Calls Try.prog 26 #[.int .u64 x, .int .u64 y] w fun e w' => e = .returned (.tuple #[.int .u64 (N / 18446744073709551616), .int .u64 (N % 18446744073709551616)]) ∧ w' = w := by
  have mx := maskI x x0 x1
  have my := maskI y y0 y1
  have ex : 4294967296 * (x / 4294967296) + x % 4294967296 = x := by omega
  have ey : 4294967296 * (y / 4294967296) + y % 4294967296 = y := by omega
  have X1 : 0 ≤ x / 4294967296 ∧ x / 4294967296 ≤ 4294967295 := by omega
  have X0 : 0 ≤ x % 4294967296 ∧ x % 4294967296 ≤ 4294967295 := by omega
  have Y1 : 0 ≤ y / 4294967296 ∧ y / 4294967296 ≤ 4294967295 := by omega
  have Y0 : 0 ≤ y % 4294967296 ∧ y % 4294967296 ≤ 4294967295 := by omega
  obtain ⟨u1, hu1⟩ : ∃ u, x / 4294967296 = u := ⟨_, rfl⟩
  obtain ⟨u0, hu0⟩ : ∃ u, x % 4294967296 = u := ⟨_, rfl⟩
  obtain ⟨v1, hv1⟩ : ∃ u, y / 4294967296 = u := ⟨_, rfl⟩
  obtain ⟨v0, hv0⟩ : ∃ u, y % 4294967296 = u := ⟨_, rfl⟩
  rw [hu1] at X1; rw [hu0] at X0; rw [hv1] at Y1; rw [hv0] at Y0
  rw [hu1, hu0] at ex; rw [hv1, hv0] at ey
  rw [hu0] at mx; rw [hv0] at my
  have sm := split_mul u1 u0 v1 v0
  rw [ex, ey] at sm
  clear ex ey
  have pa := half_mul u1 v1 X1.1 X1.2 Y1.1 Y1.2
  have pb := half_mul u1 v0 X1.1 X1.2 Y0.1 Y0.2
  have pc := half_mul u0 v1 X0.1 X0.2 Y1.1 Y1.2
  have pd := half_mul u0 v0 X0.1 X0.2 Y0.1 Y0.2
  obtain ⟨a, ha⟩ : ∃ u, u1 * v1 = u := ⟨_, rfl⟩
  obtain ⟨b, hb⟩ : ∃ u, u1 * v0 = u := ⟨_, rfl⟩
  obtain ⟨c, hc⟩ : ∃ u, u0 * v1 = u := ⟨_, rfl⟩
  obtain ⟨d, hd⟩ : ∃ u, u0 * v0 = u := ⟨_, rfl⟩
  rw [ha, hb, hc, hd] at sm
  rw [ha] at pa; rw [hb] at pb; rw [hc] at pc; rw [hd] at pd
  have mt := maskI (b + d / 4294967296) (by omega) (by omega)
  rw [hN] at sm
  have SM : Hid (N = 18446744073709551616 * a + 4294967296 * b + 4294967296 * c + d) := sm
  clear sm
  have hw : IntKind.u64.wrap N = N % 18446744073709551616 := IntKind.wrap_u64 N
  have top : a + (b + d / 4294967296) / 4294967296 + ((b + d / 4294967296) % 4294967296 + c) / 4294967296 = N / 18446744073709551616 := by rw [SM.out]; omega
  have top1 : N / 18446744073709551616 ≤ 18446744073709551615 := by rw [SM.out]; omega
  go_enter Try.func26, Try.ntmps26
  go_wp2
  go_ret2
  exact ⟨rfl, rfl⟩

theorem cut_any (x y : Int) (w : World) :
    Calls Try.prog 9 #[.agg #[.int .i64 x, .int .i64 y]] w fun e w' => e = .returned (.agg #[.int .i64 (x.tmod 134217729), .int .i64 (y.tmod 134217729)]) ∧ Below w.heap.size w w' := by
  go_enter Try.func9, Try.ntmps9
  go_wp2
  exact bodyPost_ret (v := .agg #[.int .i64 (x.tmod 134217729), .int .i64 (y.tmod 134217729)]) (by simp [results, Try.results9, go_sem]) rfl ⟨rfl, ((Below.refl _ _).alloc (by omega) _).alloc (by simp) _⟩

theorem turn_any (x y : Int) (w : World) (h : -9223372036854775807 ≤ y ∧ y ≤ 9223372036854775807) :
    Calls Try.prog 22 #[.agg #[.int .i64 x, .int .i64 y]] w fun e w' => e = .returned (.agg #[.int .i64 (-y), .int .i64 x]) ∧ Below w.heap.size w w' := by
  go_enter Try.func22, Try.ntmps22
  go_wp2
  exact bodyPost_ret (v := .agg #[.int .i64 (-y), .int .i64 x]) (by simp [results, Try.results22, go_sem]) rfl ⟨rfl, ((Below.refl _ _).alloc (by omega) _).alloc (by simp) _⟩

theorem number_any (n k : Int) (w : World) (h0 : 0 ≤ n) (h1 : 1 ≤ k) :
    Calls Try.prog 21 #[.int .i64 n, .int .i64 k] w fun e w' => e = .returned (.int .i64 (n % k)) ∧ w' = w := by
  have hk : (k == 0) = false := by simp; omega
  have hm : n.tmod k = n % k := Int.tmod_eq_emod_of_nonneg h0
  have h2 : 0 ≤ n % k := Int.emod_nonneg _ (by omega)
  go_enter Try.func21, Try.ntmps21
  go_wp2
  go_ret
  exact ⟨rfl, rfl⟩

theorem samept_any (x y : Int) (w : World) :
    Calls Try.prog 18 #[.agg #[.int .i64 x, .int .i64 y], .agg #[.int .i64 x, .int .i64 y]] w fun e w' => e = .returned (.bool true) ∧ Below w.heap.size w w' := by
  go_enter Try.func18, Try.ntmps18
  go_wp2
  go_ret
  exact ⟨by simp, ((Below.refl _ _).alloc (by omega) _).alloc (by simp) _⟩

theorem rcross_any (ax ay bx bY px py : Int) (w : World) (h1 : PL.In ax) (h2 : PL.In ay) (h3 : PL.In bx) (h4 : PL.In bY) (h5 : PL.In px) (h6 : PL.In py) :
    Calls Try.prog 11 #[.agg #[.int .i64 ax, .int .i64 ay], .agg #[.int .i64 bx, .int .i64 bY], .agg #[.int .i64 px, .int .i64 py]] w fun e w' => e = .returned (.int .i64 (PL.cross ax ay bx bY px py)) ∧ Below w.heap.size w w' := by
  have k1 := PL.prod_bound (bx - ax) (py - ay) (by unfold PL.In at *; omega) (by unfold PL.In at *; omega)
  have k2 := PL.prod_bound (bY - ay) (px - ax) (by unfold PL.In at *; omega) (by unfold PL.In at *; omega)
  have e : PL.cross ax ay bx bY px py = (bx - ax) * (py - ay) - (bY - ay) * (px - ax) := rfl
  rw [e]; clear e
  unfold PL.In at *
  obtain ⟨M, hM⟩ : ∃ u, (bx - ax) * (py - ay) = u := ⟨_, rfl⟩
  obtain ⟨N, hN⟩ : ∃ u, (bY - ay) * (px - ax) = u := ⟨_, rfl⟩
  rw [hM] at k1; rw [hN] at k2; rw [hM, hN]
  go_enter Try.func11, Try.ntmps11
  go_wp2
  go_ret
  exact ⟨rfl, (((Below.refl _ _).alloc (by omega) _).alloc (by simp) _).alloc (by simp; omega) _⟩

theorem rdot_any (ax ay bx bY px py : Int) (w : World) (h1 : PL.In ax) (h2 : PL.In ay) (h3 : PL.In bx) (h4 : PL.In bY) (h5 : PL.In px) (h6 : PL.In py) :
    Calls Try.prog 13 #[.agg #[.int .i64 ax, .int .i64 ay], .agg #[.int .i64 bx, .int .i64 bY], .agg #[.int .i64 px, .int .i64 py]] w fun e w' => e = .returned (.int .i64 (PL.dot ax ay bx bY px py)) ∧ Below w.heap.size w w' := by
  have k1 := PL.prod_bound (bx - ax) (px - ax) (by unfold PL.In at *; omega) (by unfold PL.In at *; omega)
  have k2 := PL.prod_bound (bY - ay) (py - ay) (by unfold PL.In at *; omega) (by unfold PL.In at *; omega)
  have e : PL.dot ax ay bx bY px py = (bx - ax) * (px - ax) + (bY - ay) * (py - ay) := rfl
  rw [e]; clear e
  unfold PL.In at *
  obtain ⟨M, hM⟩ : ∃ u, (bx - ax) * (px - ax) = u := ⟨_, rfl⟩
  obtain ⟨N, hN⟩ : ∃ u, (bY - ay) * (py - ay) = u := ⟨_, rfl⟩
  rw [hM] at k1; rw [hN] at k2; rw [hM, hN]
  go_enter Try.func13, Try.ntmps13
  go_wp2
  go_ret
  exact ⟨rfl, (((Below.refl _ _).alloc (by omega) _).alloc (by simp) _).alloc (by simp; omega) _⟩

theorem rlen2_any (ax ay bx bY : Int) (w : World) (h1 : PL.In ax) (h2 : PL.In ay) (h3 : PL.In bx) (h4 : PL.In bY) :
    Calls Try.prog 15 #[.agg #[.int .i64 ax, .int .i64 ay], .agg #[.int .i64 bx, .int .i64 bY]] w fun e w' => e = .returned (.int .i64 (PL.len2 ax ay bx bY)) ∧ Below w.heap.size w w' := by
  have k : Hid (∀ w, Calls Try.prog 13 #[.agg #[.int .i64 ax, .int .i64 ay], .agg #[.int .i64 bx, .int .i64 bY], .agg #[.int .i64 bx, .int .i64 bY]] w fun e w' => e = .returned (.int .i64 (PL.len2 ax ay bx bY)) ∧ Below w.heap.size w w') := fun w => rdot_any ax ay bx bY bx bY w h1 h2 h3 h4 h3 h4
  clear h1 h2 h3 h4
  generalize PL.len2 ax ay bx bY = L at k ⊢
  go_enter Try.func15, Try.ntmps15
  go_wp2_with (go_at_call 13; refine (k.out _).mono ?_; rintro e w1 ⟨rfl, hb⟩)
  go_ret
  exact ⟨rfl, (((Below.refl _ _).alloc (by omega) _).alloc (by simp) _).trans (hb.mono (by simp; omega))⟩

end Go.Proofs.Ytfcpflicfnmkiaa

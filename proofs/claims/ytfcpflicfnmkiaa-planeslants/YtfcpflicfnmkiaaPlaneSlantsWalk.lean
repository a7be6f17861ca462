/-
  PlaneSlants, walked over the program.
-/
import Derived.Test.YtfcpflicfnmkiaaPlaneLines
namespace Go.Proofs.Ytfcpflicfnmkiaa
open Go.RowKit

theorem number_same (n k : Int) (w : World) (h0 : 0 ≤ n) (h1 : 1 ≤ k) :
    Calls Try.prog 21 #[.int .i64 n, .int .i64 k] w fun e w' => e = .returned (.int .i64 (n % k)) ∧ w = w' :=
  (number_any n k w h0 h1).mono fun _ _ h => ⟨h.1, h.2.symm⟩

set_option maxRecDepth 100000 in
set_option maxHeartbeats 4000000 in
theorem slants_walk (k n m c : Int) (w : World) :
    Calls Try.prog 7 #[.int .i64 k, .int .i64 n, .int .i64 m, .int .i64 c] w fun e w' => e = .returned (.bool true) ∧ Below w.heap.size w w' := by
  have p1 : 0 ≤ bits .and .i64 k 65535 := by rw [low16]; omega
  have p2 : 0 ≤ bits .and .i64 n 65535 := by rw [low16]; omega
  have p3 : 0 ≤ bits .and .i64 c 65535 := by rw [low16]; omega
  obtain ⟨M1, hM1⟩ : ∃ u, bits .and .i64 k 65535 = u := ⟨_, rfl⟩
  obtain ⟨M2, hM2⟩ : ∃ u, bits .and .i64 n 65535 = u := ⟨_, rfl⟩
  obtain ⟨M3, hM3⟩ : ∃ u, bits .and .i64 c 65535 = u := ⟨_, rfl⟩
  rw [hM1] at p1
  rw [hM2] at p2
  rw [hM3] at p3
  have kq1 : Hid (∀ w, Calls Try.prog 21 #[.int .i64 M1, .int .i64 1000] w fun e w' => e = .returned (.int .i64 (M1 % 1000)) ∧ w = w') := fun w => number_same M1 1000 w p1 (by omega)
  have kq2 : Hid (∀ w, Calls Try.prog 21 #[.int .i64 M2, .int .i64 1001] w fun e w' => e = .returned (.int .i64 (M2 % 1001)) ∧ w = w') := fun w => number_same M2 1001 w p2 (by omega)
  have kq3 : Hid (∀ w, Calls Try.prog 21 #[.int .i64 M3, .int .i64 6000] w fun e w' => e = .returned (.int .i64 (M3 % 6000)) ∧ w = w') := fun w => number_same M3 6000 w p3 (by omega)
  have r1 : 0 ≤ M1 % 1000 ∧ M1 % 1000 ≤ 999 := by omega
  have r2 : 0 ≤ M2 % 1001 ∧ M2 % 1001 ≤ 1000 := by omega
  have r3 : 0 ≤ M3 % 6000 ∧ M3 % 6000 ≤ 5999 := by omega
  clear p1 p2 p3
  generalize M1 % 1000 = q1 at kq1 r1
  generalize M2 % 1001 = q2 at kq2 r2
  generalize M3 % 6000 = W at kq3 r3
  obtain ⟨k1, hk1⟩ : ∃ u, q1 + 1 = u := ⟨_, rfl⟩
  have r4 : 1 ≤ k1 ∧ k1 ≤ 1000 := by omega
  have t0 : 0 ≤ q2 * k1 := Int.mul_nonneg r2.1 (by omega)
  have t1 : q2 * k1 ≤ 1000 * k1 := Int.mul_le_mul_of_nonneg_right r2.2 (by omega)
  obtain ⟨T, hT⟩ : ∃ u, q2 * k1 = u := ⟨_, rfl⟩
  rw [hT] at t0 t1
  have td : T.tdiv 1000 = T / 1000 := Int.tdiv_eq_ediv_of_nonneg t0
  have n01 : 0 ≤ T / 1000 ∧ T / 1000 ≤ k1 := by omega
  rw [← td] at n01
  clear td
  obtain ⟨N, hN⟩ : ∃ u, T.tdiv 1000 = u := ⟨_, rfl⟩
  rw [hN] at n01
  have t5 := tmod_in m 500 (by omega)
  obtain ⟨Z, hZ⟩ : ∃ u, m.tmod 500 = u := ⟨_, rfl⟩
  rw [hZ] at t5
  obtain ⟨D, hD⟩ : ∃ u, 5 * Z = u := ⟨_, rfl⟩
  have b1 := PL.mulb (4 * D) D 9980 2495 (by omega) (by omega)
  have b2 := PL.w_bound W r3.1 (by omega)
  have b3 := PL.mulb (25 * k1) k1 25000 1000 (by omega) (by omega)
  have es : PL.near 0 0 (3 * k1) (4 * k1) (3 * N - 4 * Z) (4 * N + 3 * Z) W = decide (4 * D * D ≤ W * W) := by
    rw [near_slant k1 N Z W r4.1 n01.1 n01.2, decide_eq_decide, show 4 * D * D = 100 * (Z * Z) by rw [← hD]; grind]
  have kn : Hid (∀ w, Calls Try.prog 16 #[.agg #[.int .i64 0, .int .i64 0], .agg #[.int .i64 (3 * k1), .int .i64 (4 * k1)], .agg #[.int .i64 (3 * N - 4 * Z), .int .i64 (4 * N + 3 * Z)], .int .i64 W] w fun e w' => e = .returned (.bool (decide (4 * D * D ≤ W * W))) ∧ Below w.heap.size w w') := fun w => by
    have := near_any 0 0 (3 * k1) (4 * k1) (3 * N - 4 * Z) (4 * N + 3 * Z) W w ⟨by omega, by omega⟩ ⟨by omega, by omega⟩ ⟨by omega, by omega⟩ ⟨by omega, by omega⟩ ⟨by omega, by omega⟩ ⟨by omega, by omega⟩ r3.1 (by omega)
    rw [es] at this
    exact this
  have kl : Hid (∀ w, Calls Try.prog 15 #[.agg #[.int .i64 0, .int .i64 0], .agg #[.int .i64 (3 * k1), .int .i64 (4 * k1)]] w fun e w' => e = .returned (.int .i64 (25 * k1 * k1)) ∧ Below w.heap.size w w') := fun w => by
    have := rlen2_any 0 0 (3 * k1) (4 * k1) w ⟨by omega, by omega⟩ ⟨by omega, by omega⟩ ⟨by omega, by omega⟩ ⟨by omega, by omega⟩
    rw [len_slant] at this
    exact this
  clear es
  obtain ⟨H, hH⟩ : ∃ u, 4 * D * D = u := ⟨_, rfl⟩
  obtain ⟨K, hK⟩ : ∃ u, W * W = u := ⟨_, rfl⟩
  obtain ⟨L, hL⟩ : ∃ u, 25 * k1 * k1 = u := ⟨_, rfl⟩
  rw [hH] at b1 kn
  rw [hK] at b2 kn
  rw [hL] at b3 kl
  go_enter Try.func7, Try.ntmps7
  go_wp2_with (first
    | (go_at_call 21; with_reducible refine (kq1.out _).mono ?_; rintro e w9 ⟨rfl, rfl⟩)
    | (go_at_call 21; with_reducible refine (kq2.out _).mono ?_; rintro e w9 ⟨rfl, rfl⟩)
    | (go_at_call 21; with_reducible refine (kq3.out _).mono ?_; rintro e w9 ⟨rfl, rfl⟩)
    | (go_at_call 15; refine (kl.out w2).mono ?_; rintro e w3 ⟨rfl, hb3⟩)
    | (go_at_call 16; refine (kn.out _).mono ?_; rintro e w2 ⟨rfl, hb2⟩
       have HB2 : Two w2 w1.heap.size (.int .i64 (3 * k1)) (.int .i64 (4 * k1)) := ((two_new w1 _ _ 23 (0, 0)).alloc _).below hb2
       have B2 : Hid (Below w.heap.size w w2) := chain ((B1.out.alloc B1.out.size _).alloc (by simp; have := B1.out.size; omega) _) hb2
       clear hb2
       obtain ⟨_, b0, b1⟩ := HB2)
    | (go_at_call 8; refine (first_any w).mono ?_; rintro e w1 ⟨rfl, hb1⟩
       have B1 : Hid (Below w.heap.size w w1) := hb1
       clear hb1))
  go_ret
  exact ⟨by simp, chain B2.out hb3⟩

end Go.Proofs.Ytfcpflicfnmkiaa

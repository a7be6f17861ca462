/-
  What Mul64, Len64 and LeadingZeros64 of math/bits answer, walked over the program.
-/
import Derived.Test.YtehlehcbjoideaaFixed
import Derived.Lib.BitFns
import Derived.Laws.Bits64b
namespace Go.Proofs.Ytehlehcbjoideaa
open Go.RowKit

theorem maskI (a : Int) (h0 : 0 ≤ a) (h1 : a < 18446744073709551616) : bits .and .u64 a 4294967295 = a % 4294967296 := by
  rw [u64_and a 4294967295 h0 h1 (by omega) (by omega)]
  have e : a.toNat &&& (4294967295 : Int).toNat = a.toNat % 4294967296 := Nat.and_two_pow_sub_one_eq_mod a.toNat 32
  rw [e]; omega

theorem half_mul (a b : Int) (a0 : 0 ≤ a) (a1 : a ≤ 4294967295) (b0 : 0 ≤ b) (b1 : b ≤ 4294967295) : 0 ≤ a * b ∧ a * b ≤ 18446744065119617025 :=
  ⟨Int.mul_nonneg a0 b0, Int.le_trans (Int.mul_le_mul a1 b1 b0 (by omega)) (by decide)⟩

theorem split_mul (x1 x0 y1 y0 : Int) : (4294967296 * x1 + x0) * (4294967296 * y1 + y0) = 18446744073709551616 * (x1 * y1) + 4294967296 * (x1 * y0) + 4294967296 * (x0 * y1) + x0 * y0 := by
  rw [Int.add_mul, Int.mul_add, Int.mul_add, Int.mul_assoc, Int.mul_assoc, Int.mul_left_comm x1 4294967296 y1, Int.mul_left_comm x0 4294967296 y1]
  omega

set_option maxHeartbeats 1000000 in
theorem mul64_any (x y : Int) (w : World) (x0 : 0 ≤ x) (x1 : x < 18446744073709551616) (y0 : 0 ≤ y) (y1 : y < 18446744073709551616) :
    Calls Try.prog 16 #[.int .u64 x, .int .u64 y] w fun e w' => e = .returned (.tuple #[.int .u64 (x * y / 18446744073709551616), .int .u64 (x * y % 18446744073709551616)]) ∧ ∃ n, w' = w.drewN n := by
  have mx := maskI x x0 x1
  have my := maskI y y0 y1
  have ex : 4294967296 * (x / 4294967296) + x % 4294967296 = x := by omega
  have ey : 4294967296 * (y / 4294967296) + y % 4294967296 = y := by omega
  have X1 : 0 ≤ x / 4294967296 ∧ x / 4294967296 ≤ 4294967295 := by omega
  have X0 : 0 ≤ x % 4294967296 ∧ x % 4294967296 ≤ 4294967295 := by omega
  have Y1 : 0 ≤ y / 4294967296 ∧ y / 4294967296 ≤ 4294967295 := by omega
  have Y0 : 0 ≤ y % 4294967296 ∧ y % 4294967296 ≤ 4294967295 := by omega
  obtain ⟨u1, hu1⟩ : ∃ u, x / 4294967296 = u := ⟨_, rfl⟩
  obtain ⟨u0, hu0⟩ : ∃ u, x % 4294967296 = u := ⟨_, rfl⟩
  obtain ⟨v1, hv1⟩ : ∃ u, y / 4294967296 = u := ⟨_, rfl⟩
  obtain ⟨v0, hv0⟩ : ∃ u, y % 4294967296 = u := ⟨_, rfl⟩
  rw [hu1] at X1; rw [hu0] at X0; rw [hv1] at Y1; rw [hv0] at Y0
  rw [hu1, hu0] at ex; rw [hv1, hv0] at ey
  rw [hu0] at mx; rw [hv0] at my
  have sm := split_mul u1 u0 v1 v0
  rw [ex, ey] at sm
  clear ex ey
  have pa := half_mul u1 v1 X1.1 X1.2 Y1.1 Y1.2
  have pb := half_mul u1 v0 X1.1 X1.2 Y0.1 Y0.2
  have pc := half_mul u0 v1 X0.1 X0.2 Y1.1 Y1.2
  have pd := half_mul u0 v0 X0.1 X0.2 Y0.1 Y0.2
  obtain ⟨a, ha⟩ : ∃ u, u1 * v1 = u := ⟨_, rfl⟩
  obtain ⟨b, hb⟩ : ∃ u, u1 * v0 = u := ⟨_, rfl⟩
  obtain ⟨c, hc⟩ : ∃ u, u0 * v1 = u := ⟨_, rfl⟩
  obtain ⟨d, hd⟩ : ∃ u, u0 * v0 = u := ⟨_, rfl⟩
  rw [ha, hb, hc, hd] at sm
  rw [ha] at pa; rw [hb] at pb; rw [hc] at pc; rw [hd] at pd
  have mt := maskI (b + d / 4294967296) (by omega) (by omega)
  obtain ⟨N, hN⟩ : ∃ N, x * y = N := ⟨_, rfl⟩
  rw [hN] at sm
  have SM : Hid (N = 18446744073709551616 * a + 4294967296 * b + 4294967296 * c + d) := sm
  clear sm
  have hw : IntKind.u64.wrap N = N % 18446744073709551616 := IntKind.wrap_u64 N
  have top : a + (b + d / 4294967296) / 4294967296 + ((b + d / 4294967296) % 4294967296 + c) / 4294967296 = N / 18446744073709551616 := by rw [SM.out]; omega
  have top1 : N / 18446744073709551616 ≤ 18446744073709551615 := by rw [SM.out]; omega
  go_enter Try.func16, Try.ntmps16
  go_wp2
  go_ret2
  exact ⟨ret_int2 (by rw [hN]) (by rw [hN]), 0, rfl⟩

theorem tab_size : Lib.len8tab.size = 256 := by kernel_rfl

theorem tab_at : ∀ i : Fin 256, (Lib.len8tab[i.val]'(by rw [tab_size]; exact i.2)).toNat = Lib.bitLen i.val := by decide +kernel

theorem tab_at' (i : Nat) (h : i < Lib.len8tab.size) (hi : i < 256) : ((Lib.len8tab[i]'h).toNat : Int) = Lib.bitLen i := by
  have := tab_at ⟨i, hi⟩
  simp only at this
  rw [← this]

theorem len_close (i : Int) (k n : Nat) (h : i.toNat < Lib.len8tab.size) (hi : i.toNat < 256) (hk : k ≤ 56) (e : n = k + Lib.bitLen i.toNat) :
    wrap64 ((k : Int) + wrap64 ((Lib.len8tab[i.toNat]'h).toNat : Int)) = n := by
  have l := Lib.bitLen_le8 ⟨i.toNat, hi⟩
  simp only at l
  rw [tab_at' _ h hi, e]
  unfold wrap64
  omega

theorem len_close0 (i : Int) (n : Nat) (h : i.toNat < Lib.len8tab.size) (hi : i.toNat < 256) (e : n = Lib.bitLen i.toNat) :
    wrap64 (wrap64 ((Lib.len8tab[i.toNat]'h).toNat : Int)) = n := by
  have l := Lib.bitLen_le8 ⟨i.toNat, hi⟩
  simp only at l
  rw [tab_at' _ h hi, e]
  unfold wrap64
  omega

set_option maxHeartbeats 4000000 in
set_option maxRecDepth 100000 in
theorem len64_any (x : Int) (w : World) (h0 : 0 ≤ x) (h1 : x < 18446744073709551616) :
    Calls Try.prog 22 #[.int .u64 x] w fun e w' => e = .returned (.int .i64 (Lib.bitLen x.toNat)) ∧ ∃ n, w' = w.drewN n := by
  have hz := tab_size
  go_enter Try.func22, Try.ntmps22
  go_wp2
  · go_ret
    exact ⟨ret_int (len_close (x / 4294967296 / 65536 / 256) 56 (Lib.bitLen x.toNat) _ (by omega) (by omega) (by rw [Lib.bitLen_shift56 x.toNat (by omega) (by omega), show (x / 4294967296 / 65536 / 256).toNat = x.toNat / 72057594037927936 by omega])), 0, rfl⟩
  · go_ret
    exact ⟨ret_int (len_close (x / 4294967296 / 65536) 48 (Lib.bitLen x.toNat) _ (by omega) (by omega) (by rw [Lib.bitLen_shift48 x.toNat (by omega) (by omega), show (x / 4294967296 / 65536).toNat = x.toNat / 281474976710656 by omega])), 0, rfl⟩
  · go_ret
    exact ⟨ret_int (len_close (x / 4294967296 / 256) 40 (Lib.bitLen x.toNat) _ (by omega) (by omega) (by rw [Lib.bitLen_shift40 x.toNat (by omega) (by omega), show (x / 4294967296 / 256).toNat = x.toNat / 1099511627776 by omega])), 0, rfl⟩
  · go_ret
    exact ⟨ret_int (len_close (x / 4294967296) 32 (Lib.bitLen x.toNat) _ (by omega) (by omega) (by rw [Lib.bitLen_shift32 x.toNat (by omega) (by omega), show (x / 4294967296).toNat = x.toNat / 4294967296 by omega])), 0, rfl⟩
  · go_ret
    exact ⟨ret_int (len_close (x / 65536 / 256) 24 (Lib.bitLen x.toNat) _ (by omega) (by omega) (by rw [Lib.bitLen_shift24 x.toNat (by omega) (by omega), show (x / 65536 / 256).toNat = x.toNat / 16777216 by omega])), 0, rfl⟩
  · go_ret
    exact ⟨ret_int (len_close (x / 65536) 16 (Lib.bitLen x.toNat) _ (by omega) (by omega) (by rw [Lib.bitLen_shift16 x.toNat (by omega) (by omega), show (x / 65536).toNat = x.toNat / 65536 by omega])), 0, rfl⟩
  · go_ret
    exact ⟨ret_int (len_close (x / 256) 8 (Lib.bitLen x.toNat) _ (by omega) (by omega) (by rw [Lib.bitLen_shift8 x.toNat (by omega) (by omega), show (x / 256).toNat = x.toNat / 256 by omega])), 0, rfl⟩
  · go_ret
    exact ⟨ret_int (len_close0 x (Lib.bitLen x.toNat) _ (by omega) rfl), 0, rfl⟩

theorem bitLen_lo (f : Nat) : ∀ x : Nat, x < 2 ^ f → x ≠ 0 → 2 ^ Lib.bitLenAux f x ≤ 2 * x ∧ x < 2 ^ Lib.bitLenAux f x := by
  induction f with
  | zero => intro x h hx; simp at h; exact absurd h hx
  | succ f ih =>
    intro x h hx
    unfold Lib.bitLenAux
    rw [if_neg hx]
    by_cases z : x / 2 = 0
    · have : x = 1 := by omega
      subst this
      have e : Lib.bitLenAux f (1 / 2) = 0 := by cases f <;> simp [Lib.bitLenAux]
      rw [e]; decide
    · have := ih (x / 2) (by rw [Nat.pow_succ] at h; omega) z
      rw [Nat.add_comm, Nat.pow_succ]
      omega

theorem bitLen_spec (x : Nat) (h : x < 18446744073709551616) (hx : x ≠ 0) : 2 ^ Lib.bitLen x ≤ 2 * x ∧ x < 2 ^ Lib.bitLen x := bitLen_lo 64 x h hx

theorem zeros64_any (x : Int) (w : World) (h0 : 0 ≤ x) (h1 : x < 18446744073709551616) :
    Calls Try.prog 21 #[.int .u64 x] w fun e w' => e = .returned (.int .i64 (64 - Lib.bitLen x.toNat)) ∧ ∃ n, w' = w.drewN n := by
  have hl := Lib.bitLen_le x.toNat 64 (by omega) (by omega)
  obtain ⟨n, hn⟩ : ∃ n, Lib.bitLen x.toNat = n := ⟨_, rfl⟩
  have hc := len64_any x w h0 h1
  rw [hn] at hl hc ⊢
  go_enter Try.func21, Try.ntmps21
  go_wp2_with (go_at_call 22; refine hc.mono ?_; rintro e w' ⟨rfl, m, rfl⟩)
  go_ret
  exact ⟨rfl, m, rfl⟩

end Go.Proofs.Ytehlehcbjoideaa

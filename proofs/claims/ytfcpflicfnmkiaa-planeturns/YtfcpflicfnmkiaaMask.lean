/-
  The low bits of a number with a sign: 'n & (2^k - 1)' is what is left over of n, rounded down, by 2^k.
-/
import Derived.WalkKit
import Derived.Laws.BitsLemmas
namespace Go.Proofs.Ytfcpflicfnmkiaa
open Go.RowKit

theorem pow_le62 (k : Nat) (h : k ≤ 62) : (2 : Int) ^ k ≤ 4611686018427387904 := by
  have : 2 ^ k ≤ 2 ^ 62 := Nat.pow_le_pow_right (by omega) h
  have e : ((2 ^ k : Nat) : Int) ≤ ((2 ^ 62 : Nat) : Int) := by exact_mod_cast this
  simpa using e

theorem low_bits (k : Nat) (n m : Int) (h : k ≤ 62) (hm : (BitVec.ofInt 64 m).toNat = 2 ^ k - 1) : bits .and .i64 n m = n % 2 ^ k := by
  have p0 : (0 : Int) < 2 ^ k := Int.pow_pos (by omega)
  have p1 := pow_le62 k h
  have r0 := Int.emod_nonneg n (b := 2 ^ k) (by omega)
  have r1 := Int.emod_lt_of_pos n p0
  have d : (2 : Int) ^ k ∣ 18446744073709551616 := by
    refine ⟨2 ^ (64 - k), ?_⟩
    rw [← Int.pow_add, show k + (64 - k) = 64 by omega]
    rfl
  have x : ((BitVec.ofInt 64 n &&& BitVec.ofInt 64 m).toNat : Int) = n % 2 ^ k := by
    rw [BitVec.toNat_and, hm, Nat.and_two_pow_sub_one_eq_mod, Int.natCast_emod, BitVec.toNat_ofInt, Int.toNat_of_nonneg (by omega)]
    have := Int.emod_emod_of_dvd n d
    simpa using this
  unfold bits
  have y : IntKind.i64.wrap ((BitVec.ofInt 64 n &&& BitVec.ofInt 64 m).toNat : Int) = n % 2 ^ k := by
    rw [x, IntKind.wrap_i64]
    omega
  exact y

theorem low16 (n : Int) : bits .and .i64 n 65535 = n % 65536 := by have := low_bits 16 n 65535 (by omega) (by decide); simpa using this
theorem low24 (n : Int) : bits .and .i64 n 16777215 = n % 16777216 := by have := low_bits 24 n 16777215 (by omega) (by decide); simpa using this

end Go.Proofs.Ytfcpflicfnmkiaa

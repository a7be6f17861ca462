/-
  What Len64 of math/bits and Size, Zig of package wire answer, walked over the program.
-/
import Derived.Test.YtgiicchblbhenaaDoorRows
import Derived.WalkKit
import Derived.WalkSpells
import Derived.WalkLawsBesides
import Derived.Deep.QuietTactic
import Derived.BigQuiet
import Derived.Deep.RegionWith
import Derived.Sort.AtCall
import Derived.Laws.CopyOwn
import Derived.Test.YtgiicchblbhenaaDoorWirePlain
namespace Go.Proofs.YtgiicchblbhenaaDoor
open Go.RowKit

theorem ret_int {k : IntKind} {a b : Int} (h : a = b) : Ending.returned (.int k a) = .returned (.int k b) := by rw [h]
theorem below_drewN {B : Nat} {a w : World} (h : Below B a w) (n : Nat) : Below B a (w.drewN n) := ⟨h.os, h.tape, h.output, h.size, h.block⟩

theorem tab_size : Lib.len8tab.size = 256 := by kernel_rfl

theorem tab_at : ∀ i : Fin 256, (Lib.len8tab[i.val]'(by rw [tab_size]; exact i.2)).toNat = Lib.bitLen i.val := by decide +kernel

theorem tab_at' (i : Nat) (h : i < Lib.len8tab.size) (hi : i < 256) : ((Lib.len8tab[i]'h).toNat : Int) = Lib.bitLen i := by
  have := tab_at ⟨i, hi⟩
  simp only at this
  rw [← this]

theorem len_close (i : Int) (k n : Nat) (h : i.toNat < Lib.len8tab.size) (hi : i.toNat < 256) (hk : k ≤ 56) (e : n = k + Lib.bitLen i.toNat) :
    wrap64 ((k : Int) + wrap64 ((Lib.len8tab[i.toNat]'h).toNat : Int)) = n := by
  have l := Lib.bitLen_le8 ⟨i.toNat, hi⟩
  simp only at l
  rw [tab_at' _ h hi, e]
  unfold wrap64
  omega

theorem len_close0 (i : Int) (n : Nat) (h : i.toNat < Lib.len8tab.size) (hi : i.toNat < 256) (e : n = Lib.bitLen i.toNat) :
    wrap64 (wrap64 ((Lib.len8tab[i.toNat]'h).toNat : Int)) = n := by
  have l := Lib.bitLen_le8 ⟨i.toNat, hi⟩
  simp only at l
  rw [tab_at' _ h hi, e]
  unfold wrap64
  omega

set_option maxHeartbeats 4000000 in
set_option maxRecDepth 100000 in
theorem len64_any (x : Int) (w : World) (h0 : 0 ≤ x) (h1 : x < 18446744073709551616) :
    Calls Tryd.prog 16 #[.int .u64 x] w fun e w' => e = .returned (.int .i64 (Lib.bitLen x.toNat)) ∧ ∃ n, w' = w.drewN n := by
  have hz := tab_size
  go_enter Tryd.func16, Tryd.ntmps16
  go_wp2
  · go_ret
    exact ⟨ret_int (len_close (x / 4294967296 / 65536 / 256) 56 (Lib.bitLen x.toNat) _ (by omega) (by omega) (by rw [Lib.bitLen_shift56 x.toNat (by omega) (by omega), show (x / 4294967296 / 65536 / 256).toNat = x.toNat / 72057594037927936 by omega])), 0, rfl⟩
  · go_ret
    exact ⟨ret_int (len_close (x / 4294967296 / 65536) 48 (Lib.bitLen x.toNat) _ (by omega) (by omega) (by rw [Lib.bitLen_shift48 x.toNat (by omega) (by omega), show (x / 4294967296 / 65536).toNat = x.toNat / 281474976710656 by omega])), 0, rfl⟩
  · go_ret
    exact ⟨ret_int (len_close (x / 4294967296 / 256) 40 (Lib.bitLen x.toNat) _ (by omega) (by omega) (by rw [Lib.bitLen_shift40 x.toNat (by omega) (by omega), show (x / 4294967296 / 256).toNat = x.toNat / 1099511627776 by omega])), 0, rfl⟩
  · go_ret
    exact ⟨ret_int (len_close (x / 4294967296) 32 (Lib.bitLen x.toNat) _ (by omega) (by omega) (by rw [Lib.bitLen_shift32 x.toNat (by omega) (by omega), show (x / 4294967296).toNat = x.toNat / 4294967296 by omega])), 0, rfl⟩
  · go_ret
    exact ⟨ret_int (len_close (x / 65536 / 256) 24 (Lib.bitLen x.toNat) _ (by omega) (by omega) (by rw [Lib.bitLen_shift24 x.toNat (by omega) (by omega), show (x / 65536 / 256).toNat = x.toNat / 16777216 by omega])), 0, rfl⟩
  · go_ret
    exact ⟨ret_int (len_close (x / 65536) 16 (Lib.bitLen x.toNat) _ (by omega) (by omega) (by rw [Lib.bitLen_shift16 x.toNat (by omega) (by omega), show (x / 65536).toNat = x.toNat / 65536 by omega])), 0, rfl⟩
  · go_ret
    exact ⟨ret_int (len_close (x / 256) 8 (Lib.bitLen x.toNat) _ (by omega) (by omega) (by rw [Lib.bitLen_shift8 x.toNat (by omega) (by omega), show (x / 256).toNat = x.toNat / 256 by omega])), 0, rfl⟩
  · go_ret
    exact ⟨ret_int (len_close0 x (Lib.bitLen x.toNat) _ (by omega) rfl), 0, rfl⟩

theorem size_any (n : Nat) (w : World) (h : n < 18446744073709551616) :
    Calls Tryd.prog 9 #[.int .u64 n] w fun e w' => e = .returned (.int .i64 (WP.sz n)) ∧ ∃ m, w' = w.drewN m := by
  have hor := bits_or_u64_nat n 1 h (by decide)
  have e := WP.size_is n h
  have hx : n ||| 1 < 18446744073709551616 := by rw [WP.or_one]; split <;> omega
  obtain ⟨x, hxe⟩ : ∃ x, n ||| 1 = x := ⟨_, rfl⟩
  rw [hxe] at hor e hx
  have hl := Lib.bitLen_le x 64 (by omega) (by omega)
  have hc : Hid (∀ w, Calls Tryd.prog 16 #[.int .u64 x] w fun e w' => e = .returned (.int .i64 (Lib.bitLen x)) ∧ ∃ n, w' = w.drewN n) := fun w => len64_any x w (by omega) (by omega)
  obtain ⟨L, hL⟩ : ∃ L, Lib.bitLen x = L := ⟨_, rfl⟩
  rw [hL] at e hl hc
  have HE : Hid ((L + 6) / 7 = WP.sz n) := e
  clear e hL hxe hx
  have hor' : bits .or .u64 (n : Int) 1 = (x : Int) := hor
  clear hor
  go_enter Tryd.func9, Tryd.ntmps9
  go_wp2_with (go_at_call 16; refine (hc.out _).mono ?_; rintro e w' ⟨rfl, m, rfl⟩)
  go_ret
  exact ⟨ret_int (by rw [← HE.out]; omega), m, rfl⟩

theorem xor_ones (a : Nat) (h : a < 18446744073709551616) : a ^^^ 18446744073709551615 = 18446744073709551615 - a := by
  have e : (BitVec.ofNat 64 a ^^^ BitVec.allOnes 64).toNat = a ^^^ 18446744073709551615 := by
    rw [BitVec.toNat_xor, BitVec.toNat_ofNat, BitVec.toNat_allOnes, Nat.mod_eq_of_lt (by omega)]
  rw [← e, BitVec.xor_allOnes, BitVec.toNat_not, BitVec.toNat_ofNat]
  omega

def zig (z : Int) : Int := if z < 0 then -2 * z - 1 else 2 * z

theorem zig_any (z : Int) (w : World) (h0 : -9223372036854775808 ≤ z) (h1 : z ≤ 9223372036854775807) :
    Calls Tryd.prog 13 #[.int .i64 z] w fun e w' => e = .returned (.int .u64 (zig z)) ∧ ∃ m, w' = w.drewN m := by
  by_cases hz : z < 0
  · have e1 : bits .xor .u64 (2 * z + 18446744073709551616) 18446744073709551615 = -2 * z - 1 := by
      have := bits_xor_u64_nat (2 * z + 18446744073709551616).toNat 18446744073709551615 (by omega) (by decide)
      rw [xor_ones _ (by omega), Int.toNat_of_nonneg (by omega)] at this
      exact this.trans (by omega)
    have HZ : Hid (zig z = -2 * z - 1) := if_pos hz
    have d1 : z / 9223372036854775808 = -1 := by omega
    go_enter Tryd.func13, Tryd.ntmps13
    go_wp2
    go_ret
    refine ⟨ret_int ?_, 0, rfl⟩
    rw [HZ.out, IntKind.wrap_u64, IntKind.wrap_u64, IntKind.wrap_u64]
    rw [show z % 18446744073709551616 * 2 % 18446744073709551616 = 2 * z + 18446744073709551616 by omega, show (-1 : Int) % 18446744073709551616 = 18446744073709551615 by decide]
    exact e1
  · have e1 : bits .xor .u64 (2 * z) 0 = 2 * z := by
      have := bits_xor_u64_nat (2 * z).toNat 0 (by omega) (by decide)
      rw [Nat.xor_zero, Int.toNat_of_nonneg (by omega)] at this
      exact this
    have HZ : Hid (zig z = 2 * z) := if_neg hz
    go_enter Tryd.func13, Tryd.ntmps13
    go_wp2
    go_ret
    refine ⟨ret_int ?_, 0, rfl⟩
    rw [HZ.out, show z * 2 = 2 * z by omega, show z / 9223372036854775808 = 0 by omega]
    exact e1

end Go.Proofs.YtgiicchblbhenaaDoor

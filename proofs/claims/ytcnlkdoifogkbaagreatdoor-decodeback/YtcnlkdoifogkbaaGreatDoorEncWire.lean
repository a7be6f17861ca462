/-
  What Len64 of math/bits and Size, Zig, Put of package wire answer, walked over the program.
-/
import Derived.Test.YtcnlkdoifogkbaaGreatDoorIconBase
import Derived.Deep.RegionWith
import Derived.Laws.CopyOwn
import Derived.Test.YtcnlkdoifogkbaaGreatDoorWirePlain
namespace Go.Proofs.YtcnlkdoifogkbaaGreatDoor
open Go.RowKit

theorem tab_size : Lib.len8tab.size = 256 := by kernel_rfl

theorem tab_at : ∀ i : Fin 256, (Lib.len8tab[i.val]'(by rw [tab_size]; exact i.2)).toNat = Lib.bitLen i.val := by decide +kernel

theorem tab_at' (i : Nat) (h : i < Lib.len8tab.size) (hi : i < 256) : ((Lib.len8tab[i]'h).toNat : Int) = Lib.bitLen i := by
  have := tab_at ⟨i, hi⟩
  simp only at this
  rw [← this]

theorem len_close (i : Int) (k n : Nat) (h : i.toNat < Lib.len8tab.size) (hi : i.toNat < 256) (hk : k ≤ 56) (e : n = k + Lib.bitLen i.toNat) :
    wrap64 ((k : Int) + wrap64 ((Lib.len8tab[i.toNat]'h).toNat : Int)) = n := by
  have l := Lib.bitLen_le8 ⟨i.toNat, hi⟩
  simp only at l
  rw [tab_at' _ h hi, e]
  unfold wrap64
  omega

theorem len_close0 (i : Int) (n : Nat) (h : i.toNat < Lib.len8tab.size) (hi : i.toNat < 256) (e : n = Lib.bitLen i.toNat) :
    wrap64 (wrap64 ((Lib.len8tab[i.toNat]'h).toNat : Int)) = n := by
  have l := Lib.bitLen_le8 ⟨i.toNat, hi⟩
  simp only at l
  rw [tab_at' _ h hi, e]
  unfold wrap64
  omega

set_option maxHeartbeats 4000000 in
set_option maxRecDepth 100000 in
theorem len64_any (x : Int) (w : World) (h0 : 0 ≤ x) (h1 : x < 18446744073709551616) :
    Calls Tryz.prog 123 #[.int .u64 x] w fun e w' => e = .returned (.int .i64 (Lib.bitLen x.toNat)) ∧ ∃ n, w' = w.drewN n := by
  have hz := tab_size
  go_enter Tryz.func123, Tryz.ntmps123
  go_wp2
  · go_ret
    exact ⟨ret_int (len_close (x / 4294967296 / 65536 / 256) 56 (Lib.bitLen x.toNat) _ (by omega) (by omega) (by rw [Lib.bitLen_shift56 x.toNat (by omega) (by omega), show (x / 4294967296 / 65536 / 256).toNat = x.toNat / 72057594037927936 by omega])), 0, rfl⟩
  · go_ret
    exact ⟨ret_int (len_close (x / 4294967296 / 65536) 48 (Lib.bitLen x.toNat) _ (by omega) (by omega) (by rw [Lib.bitLen_shift48 x.toNat (by omega) (by omega), show (x / 4294967296 / 65536).toNat = x.toNat / 281474976710656 by omega])), 0, rfl⟩
  · go_ret
    exact ⟨ret_int (len_close (x / 4294967296 / 256) 40 (Lib.bitLen x.toNat) _ (by omega) (by omega) (by rw [Lib.bitLen_shift40 x.toNat (by omega) (by omega), show (x / 4294967296 / 256).toNat = x.toNat / 1099511627776 by omega])), 0, rfl⟩
  · go_ret
    exact ⟨ret_int (len_close (x / 4294967296) 32 (Lib.bitLen x.toNat) _ (by omega) (by omega) (by rw [Lib.bitLen_shift32 x.toNat (by omega) (by omega), show (x / 4294967296).toNat = x.toNat / 4294967296 by omega])), 0, rfl⟩
  · go_ret
    exact ⟨ret_int (len_close (x / 65536 / 256) 24 (Lib.bitLen x.toNat) _ (by omega) (by omega) (by rw [Lib.bitLen_shift24 x.toNat (by omega) (by omega), show (x / 65536 / 256).toNat = x.toNat / 16777216 by omega])), 0, rfl⟩
  · go_ret
    exact ⟨ret_int (len_close (x / 65536) 16 (Lib.bitLen x.toNat) _ (by omega) (by omega) (by rw [Lib.bitLen_shift16 x.toNat (by omega) (by omega), show (x / 65536).toNat = x.toNat / 65536 by omega])), 0, rfl⟩
  · go_ret
    exact ⟨ret_int (len_close (x / 256) 8 (Lib.bitLen x.toNat) _ (by omega) (by omega) (by rw [Lib.bitLen_shift8 x.toNat (by omega) (by omega), show (x / 256).toNat = x.toNat / 256 by omega])), 0, rfl⟩
  · go_ret
    exact ⟨ret_int (len_close0 x (Lib.bitLen x.toNat) _ (by omega) rfl), 0, rfl⟩

theorem size_any (n : Nat) (w : World) (h : n < 18446744073709551616) :
    Calls Tryz.prog 115 #[.int .u64 n] w fun e w' => e = .returned (.int .i64 (WP.sz n)) ∧ ∃ m, w' = w.drewN m := by
  have hor := bits_or_u64_nat n 1 h (by decide)
  have e := WP.size_is n h
  have hx : n ||| 1 < 18446744073709551616 := by rw [WP.or_one]; split <;> omega
  obtain ⟨x, hxe⟩ : ∃ x, n ||| 1 = x := ⟨_, rfl⟩
  rw [hxe] at hor e hx
  have hl := Lib.bitLen_le x 64 (by omega) (by omega)
  have hc : Hid (∀ w, Calls Tryz.prog 123 #[.int .u64 x] w fun e w' => e = .returned (.int .i64 (Lib.bitLen x)) ∧ ∃ n, w' = w.drewN n) := fun w => len64_any x w (by omega) (by omega)
  obtain ⟨L, hL⟩ : ∃ L, Lib.bitLen x = L := ⟨_, rfl⟩
  rw [hL] at e hl hc
  have HE : Hid ((L + 6) / 7 = WP.sz n) := e
  clear e hL hxe hx
  have hor' : bits .or .u64 (n : Int) 1 = (x : Int) := hor
  clear hor
  go_enter Tryz.func115, Tryz.ntmps115
  go_wp2_with (go_at_call 123; refine (hc.out _).mono ?_; rintro e w' ⟨rfl, m, rfl⟩)
  go_ret
  exact ⟨ret_int (by rw [← HE.out]; omega), m, rfl⟩

theorem xor_ones (a : Nat) (h : a < 18446744073709551616) : a ^^^ 18446744073709551615 = 18446744073709551615 - a := by
  have e : (BitVec.ofNat 64 a ^^^ BitVec.allOnes 64).toNat = a ^^^ 18446744073709551615 := by
    rw [BitVec.toNat_xor, BitVec.toNat_ofNat, BitVec.toNat_allOnes, Nat.mod_eq_of_lt (by omega)]
  rw [← e, BitVec.xor_allOnes, BitVec.toNat_not, BitVec.toNat_ofNat]
  omega

def zig (z : Int) : Int := if z < 0 then -2 * z - 1 else 2 * z

theorem zig_any (z : Int) (w : World) (h0 : -9223372036854775808 ≤ z) (h1 : z ≤ 9223372036854775807) :
    Calls Tryz.prog 116 #[.int .i64 z] w fun e w' => e = .returned (.int .u64 (zig z)) ∧ ∃ m, w' = w.drewN m := by
  by_cases hz : z < 0
  · have e1 : bits .xor .u64 (2 * z + 18446744073709551616) 18446744073709551615 = -2 * z - 1 := by
      have := bits_xor_u64_nat (2 * z + 18446744073709551616).toNat 18446744073709551615 (by omega) (by decide)
      rw [xor_ones _ (by omega), Int.toNat_of_nonneg (by omega)] at this
      exact this.trans (by omega)
    have HZ : Hid (zig z = -2 * z - 1) := if_pos hz
    have d1 : z / 9223372036854775808 = -1 := by omega
    go_enter Tryz.func116, Tryz.ntmps116
    go_wp2
    go_ret
    refine ⟨ret_int ?_, 0, rfl⟩
    rw [HZ.out, IntKind.wrap_u64, IntKind.wrap_u64, IntKind.wrap_u64]
    rw [show z % 18446744073709551616 * 2 % 18446744073709551616 = 2 * z + 18446744073709551616 by omega, show (-1 : Int) % 18446744073709551616 = 18446744073709551615 by decide]
    exact e1
  · have e1 : bits .xor .u64 (2 * z) 0 = 2 * z := by
      have := bits_xor_u64_nat (2 * z).toNat 0 (by omega) (by decide)
      rw [Nat.xor_zero, Int.toNat_of_nonneg (by omega)] at this
      exact this
    have HZ : Hid (zig z = 2 * z) := if_neg hz
    go_enter Tryz.func116, Tryz.ntmps116
    go_wp2
    go_ret
    refine ⟨ret_int ?_, 0, rfl⟩
    rw [HZ.out, show z * 2 = 2 * z by omega, show z / 9223372036854775808 = 0 by omega]
    exact e1

theorem infoByte : (Tryz.prog.info? 5).map (fun i => (i.zero, i.size, i.bytes)) = some (some (.int .u8 0), 1, 1) := by kernel_rfl

/-- Bytes as the program's values. -/
def vals (bs : List Nat) : List Value := bs.map fun (b : Nat) => Value.int .u8 (b : Int)

theorem vals_length (bs : List Nat) : (vals bs).length = bs.length := by simp [vals]
theorem vals_append (a b : List Nat) : vals (a ++ b) = vals a ++ vals b := by simp [vals]
theorem vals_one (bs : List Nat) : ∀ u ∈ vals bs, u.oneCell' = true := by
  intro u hu
  obtain ⟨_, _, rfl⟩ := List.mem_map.1 hu
  rfl
theorem vals_at (bs : List Nat) (j : Nat) (h : j < bs.length) : (vals bs)[j]? = some (.int .u8 (bs[j] : Int)) := by simp [vals, h]

/-- A list's bytes lie where its address says. -/
def Cells (w : World) (ao : Option Addr) (bs : List Nat) : Prop := ∀ j (h : j < bs.length), ∃ b o, ao = some ⟨b, o, none⟩ ∧ b < w.heap.size ∧ w.cell? ⟨b, o + j, none⟩ = some (.int .u8 (bs[j] : Int))

theorem cells_nil (w : World) (ao : Option Addr) : Cells w ao [] := fun j h => absurd h (by simp)

theorem cells_row {w : World} {g : Nat} {e : TypeId} {f : Nat × Nat} {bs : List Nat} {more : List Value} (h : w.heap[g]? = some (.cells (vals bs ++ more).toArray e f)) : Cells w (some ⟨g, 0, none⟩) bs := by
  intro j hj
  refine ⟨g, 0, rfl, (Array.getElem?_eq_some_iff.1 h).1, ?_⟩
  rw [cell_of_row w g (0 + j) _ e f h]
  simp [List.getElem?_append_left, vals, hj]

theorem Cells.below {w w' : World} {ao : Option Addr} {bs : List Nat} (h : Cells w ao bs) (hb : Below w.heap.size w w') : Cells w' ao bs := by
  intro j hj
  obtain ⟨b, o, e, hlt, hc⟩ := h j hj
  exact ⟨b, o, e, Nat.lt_of_lt_of_le hlt hb.size, (hb.cell (p := ⟨b, o + j, none⟩) hlt).trans hc⟩

theorem wpList_make_both {P : Program} (w : World) {ops : Array Oper} {rest : List Oper} {o : Oper} {a : Act} {Q : Exit → Act → World → Prop}
    (hg : o.guard = none) (l c : Operand) (t : TypeId) (hop : o.op = Op.makeSlice t l c)
    (e : TypeId) (i : TypeInfo) (z : Value) (h1 : P.underlying t = some (.slice e)) (h2 : P.info? e = some i) (h3 : i.zero = some z) (h4 : i.size = 1) (h5 : i.bytes = 1)
    (kl kc : IntKind) (L C : Int) (n m : Nat) (hl : a.eval l = .int kl L) (hc : a.eval c = .int kc C) (hL : L = (n : Int)) (hC : C = (m : Int)) (hnm : n ≤ m) (b : m ≤ 281474976710656)
    (hK : ∀ w', Hid (w'.heap[w.heap.size]? = some (.cells (madeCells z.cells m) e (0, 0))) → Below w.heap.size w w' → w'.heap.size = w.heap.size + 1 → wpList P ops Q rest (a.put o.dst (.slice (some ⟨w.heap.size, 0, none⟩) n m)) w') :
    wpList P ops Q (o :: rest) a w := by
  refine wpList_plain hg fun K hK' => ?_
  have hrun := run_make (P := P) w t e i z h1 h2 h3 kl kc L C (by omega) (by omega) (by rw [h5]; omega) (by omega)
  subst hL; subst hC
  simp only [Int.toNat_natCast, h4, Nat.mul_one] at hrun
  unfold Oper.wp
  simp [execOp, hop, hl, hc, hrun, Result.andThen]
  exact hK' _ _ (hK _ (heap_alloc_new w _) ((Below.refl _ _).alloc (Nat.le_refl _) _) (by simp))

theorem or_128 (n : Nat) : bits .or .u8 ((n : Int) % 256) 128 = ((n % 128 + 128 : Nat) : Int) := by
  have e : (n : Int) % 256 = ((n % 256 : Nat) : Int) := by omega
  rw [e]
  have : ∀ x : Fin 256, bits .or .u8 ((x.val : Nat) : Int) 128 = ((x.val % 128 + 128 : Nat) : Int) := by decide +kernel
  rw [this ⟨n % 256, by omega⟩]
  simp only
  omega

theorem new_cell (w : World) (e : TypeId) (c : Int) : ∀ (j : Nat) (u : Value), [Value.int .u8 c][j]? = some u → (w.alloc (Obj.cells #[Value.int .u8 c] e)).cell? ((⟨w.heap.size, 0, none⟩ : Addr).add j) = some u := by
  intro j u hj
  match j, hj with
  | 0, hj => simp at hj; subst hj; simp [Addr.add]

theorem new_one (c : Int) : ∀ u ∈ [Value.int .u8 c], u.oneCell' = true := by
  intro u hu; simp at hu; subst hu; rfl

theorem put_own {w : World} {g len S c : Nat} {bs pre : List Nat} (h : w.ownsRow g 5 1 (.slice (some ⟨g, 0, none⟩) (len + pre.length + 1) (len + S)) (len + pre.length + 1) (vals (bs ++ pre) ++ [.int .u8 (c : Int)])) :
    w.ownsRow g 5 1 (.slice (some ⟨g, 0, none⟩) (len + (pre ++ [c]).length) (len + S)) (len + (pre ++ [c]).length) (vals (bs ++ (pre ++ [c]))) := by
  have e : vals (bs ++ (pre ++ [c])) = vals (bs ++ pre) ++ [.int .u8 (c : Int)] := by simp [vals]
  rw [e, List.length_append, List.length_singleton, ← Nat.add_assoc]
  exact h

theorem put_below {w wr w' : World} {g : Nat} {o : Obj} (hb : Below g w wr) (hg : g < wr.heap.size) (h : (wr.alloc o).grownBy w' (some g)) : Below g w w' ∧ g < w'.heap.size := by
  refine ⟨(hb.alloc (by omega) o).grown h (by simp; omega) (by intro k hk; simp at hk; omega), ?_⟩
  have := h.size
  simp at this
  omega

theorem own_made {w : World} {g m : Nat} {z : Value} {bs : List Nat} (hle : bs.length ≤ m) (hm : m ≤ 281474976710656) (h : w.heap[g]? = some (.cells (splice (madeCells z.cells m).toList 0 (vals bs)).toArray 5 (0, 0))) :
    w.ownsRow g 5 1 (.slice (some ⟨g, 0, none⟩) bs.length m) bs.length (vals bs) := by
  refine ⟨by rw [vals_length]; omega, .inr ⟨g, m, _, rfl, Nat.le_refl _, h, hle, by unfold maxLen; omega, ?_, ?_⟩⟩
  · rw [List.size_toArray, length_splice _ _ _ (by simp [vals_length, size_madeCells]; omega), Array.length_toList, size_madeCells]; omega
  · simp [splice, vals]

theorem own_full {w : World} {g n : Nat} {e : TypeId} {xs : List Value} (h : w.ownsRow g e 1 (.slice (some ⟨g, 0, none⟩) n n) n xs) : w.heap[g]? = some (.cells xs.toArray e (0, 0)) := by
  rcases h.2 with ⟨h', _⟩ | ⟨g', cap', cur, h', _, hg, _, _, hs, htake⟩
  · simp at h'
  · simp only [Value.slice.injEq, Option.some.injEq, Addr.mk.injEq, and_true, true_and] at h'
    obtain ⟨rfl, rfl⟩ := h'
    rw [hg, ← htake, List.take_of_length_le (by rw [Array.length_toList, hs]; omega)]

theorem copy_src {w w1 : World} {ao : Option Addr} {bs : List Nat} (h : Cells w ao bs) (hb : Below w.heap.size w w1) (dp : Option Addr) (hd : dp = some ⟨w.heap.size, 0, none⟩) :
    0 < (vals bs).length → dp = some ⟨w.heap.size, 0, none⟩ ∧ ∃ ad, ao = some ad ∧ ∀ j v, (vals bs)[j]? = some v → w1.cell? (ad.add j) = some v := by
  intro h0
  rw [vals_length] at h0
  obtain ⟨b, o, e, hlt, _⟩ := h 0 h0
  refine ⟨hd, ⟨b, o, none⟩, e, fun j v hv => ?_⟩
  have hj : j < bs.length := by
    have := (List.getElem?_eq_some_iff.1 hv).1
    rwa [vals_length] at this
  obtain ⟨b', o', e', hlt', hc⟩ := h j hj
  rw [e] at e'
  simp only [Option.some.injEq, Addr.mk.injEq, and_true] at e'
  obtain ⟨rfl, rfl⟩ := e'
  rw [vals_at bs j hj] at hv
  rw [Addr.add_lit, hb.cell (p := ⟨b, o + j, none⟩) hlt, hc]
  exact hv

theorem below_drewN' {w w' : World} {m : Nat} (h : Below (w.drewN m).heap.size (w.drewN m) w') : Below w.heap.size w w' := ⟨h.os, h.tape, h.output, h.size, h.block⟩

set_option maxRecDepth 20000 in
set_option maxHeartbeats 1000000 in
theorem put_any (ao : Option Addr) (cap : Nat) (bs : List Nat) (n : Nat) (w : World) (hn : n < 18446744073709551616) (hb : Cells w ao bs) (hl : bs.length ≤ 1000000) :
    Calls Tryz.prog 103 #[.slice ao bs.length cap, .int .u64 n] w fun e w' => ∃ g, e = .returned (.slice (some ⟨g, 0, none⟩) (bs.length + WP.sz n) (bs.length + WP.sz n)) ∧ w.heap.size ≤ g ∧
      w'.heap[g]? = some (.cells (vals (bs ++ WP.enc n)).toArray 5 (0, 0)) ∧ Below w.heap.size w w' := by
  have s10 := WP.sz_le10 hn
  obtain ⟨i0, hi, hz0, hz1, hz2⟩ := info_parts infoByte
  obtain ⟨S, hS⟩ : ∃ S, WP.sz n = S := ⟨_, rfl⟩
  have hsz : Hid (∀ w, Calls Tryz.prog 115 #[.int .u64 n] w fun e w' => e = .returned (.int .i64 S) ∧ ∃ m, w' = w.drewN m) := fun w => by have := size_any n w hn; rw [hS] at this; exact this
  rw [hS] at s10 ⊢
  have HS : Hid (WP.sz n = S) := hS
  clear hS
  obtain ⟨len, hlen⟩ : ∃ len, bs.length = len := ⟨_, rfl⟩
  have HL : Hid (bs.length = len) := hlen
  rw [hlen] at hl ⊢
  clear hlen
  have HB : Hid (Cells w ao bs) := hb
  clear hb
  go_enter Tryz.func103, Tryz.ntmps103
  go_wp2_with (first
    | (go_at_call 115; refine (hsz.out _).mono ?_; rintro e w' ⟨rfl, m, rfl⟩)
    | (at_make; refine wpList_make_both _ rfl (.tmp 7) (.tmp 12) 32 rfl 5 i0 (.int .u8 0) Tryz.underlying32 hi hz0 hz1 hz2 .i64 .i64 _ _ len (len + S) rfl rfl (by omega) (by omega) (by omega) (by omega) ?_; intro w1 hrow hbel hsize)
    | (refine wpList_copy_splice rfl (.tmp 14) (.tmp 15) 32 32 rfl 5 Tryz.underlying32 (by rw [hi]; simp [hz1]) (some ⟨w.heap.size, 0, none⟩) ao len (len + S) len cap rfl rfl w.heap.size 0 (madeCells (Value.int .u8 0).cells (len + S)).toList 5 (by simpa using hrow.out) (vals bs) (by rw [vals_length, HL.out]; simp) (copy_src HB.out (below_drewN' hbel) _ rfl) (by rw [vals_length, HL.out, Array.length_toList, size_madeCells]; omega) (vals_one _) w.heap.size w (below_drewN' hbel) (Nat.le_refl _) ?_; intro w2 hrow2 hbel2))
  have hown2 : w2.ownsRow w.heap.size 5 1 (.slice (some ⟨w.heap.size, 0, none⟩) len (len + S)) len (vals bs) := by
    have := own_made (bs := bs) (by rw [HL.out]; omega) (by omega) hrow2.out
    rw [HL.out] at this
    exact this
  have hsz2 : w.heap.size < w2.heap.size := (hown2.lt w.heap.size rfl).2
  obtain ⟨g, hg⟩ : ∃ g, w.heap.size = g := ⟨_, rfl⟩
  go_simp
  go_loopw [5, 1] (fun out x wr => ∃ (pre : List Nat) (y : Nat), x = .int .u64 y ∧ y < 18446744073709551616 ∧ Hid (pre ++ WP.enc y = WP.enc n) ∧ pre.length + WP.sz y = S ∧ out = .slice (some ⟨g, 0, none⟩) (len + pre.length) (len + S) ∧
      wr.ownsRow g 5 1 (.slice (some ⟨g, 0, none⟩) (len + pre.length) (len + S)) (len + pre.length) (vals (bs ++ pre)) ∧ Below g w wr ∧ g < wr.heap.size) (fun _ x _ => (intOf x).toNat)
  case atStart => exact ⟨[], n, rfl, hn, rfl, by simpa using HS.out, by simp, by simpa [hg] using hown2, by rw [← hg]; exact hbel2, by omega⟩
  case round =>
    obtain ⟨pre, y, rfl, hy, hpre, hps, rfl, hown, hbr, hgr⟩ := hrel
    have hor := or_128 y
    obtain ⟨c, hc⟩ : ∃ c, y % 128 + 128 = c := ⟨_, rfl⟩
    rw [hc] at hor
    have HC : Hid (y % 128 + 128 = c) := hc
    clear hc
    by_cases hlt : y < 128
    · have hs : Hid _ := WP.sz_lt hlt
      have he : Hid _ := WP.enc_lt hlt
      clear hor
      go_wp2_with (at_builtin; refine wpList_append_fits _ rfl (.tmp 27) (.tmp 30) 32 rfl g 5 i0 1 Tryz.underlying32 hi hz1 g (len + pre.length) (len + S) (vals (bs ++ pre)) rfl (hown.alloc _) ⟨wr.heap.size, 0, none⟩ 1 1 [.int .u8 y] rfl rfl (new_cell _ _ _) (new_one _) (by rw [← hps, hs.out]; omega) ?_; intro w' hown' hgrow)
      go_ret
      have P := put_below hbr hgr hgrow
      have O := put_own hown'
      have L : (pre ++ [y]).length = S := by rw [← hps, hs.out]; simp
      rw [L] at O
      have E : pre ++ [y] = WP.enc n := by rw [← hpre.out, he.out]
      rw [E] at O
      refine ⟨g, ?_, by omega, own_full O, by rw [hg]; exact P.1⟩
      rw [← hps, hs.out]
      rfl
    · have hs : Hid _ := WP.sz_ge hlt
      have he : Hid _ := WP.enc_ge hlt
      go_wp2_with (at_builtin; refine wpList_append_fits _ rfl (.tmp 21) (.tmp 25) 32 rfl g 5 i0 1 Tryz.underlying32 hi hz1 g (len + pre.length) (len + S) (vals (bs ++ pre)) rfl (hown.alloc _) ⟨wr.heap.size, 0, none⟩ 1 1 [.int .u8 c] rfl rfl (new_cell _ _ _) (new_one _) (by rw [← hps, hs.out]; omega) ?_; intro w' hown' hgrow)
      have P := put_below hbr hgr hgrow
      have O := put_own hown'
      go_roundw
      case rel => exact ⟨pre ++ [c], y / 128, by go_num, by omega, by show _ = _; rw [← hpre.out, he.out, HC.out]; simp, by rw [← hps, hs.out]; simp; omega, by simp; omega, O, P.1, P.2⟩
      case measure => simp [intOf]; omega

end Go.Proofs.YtcnlkdoifogkbaaGreatDoor

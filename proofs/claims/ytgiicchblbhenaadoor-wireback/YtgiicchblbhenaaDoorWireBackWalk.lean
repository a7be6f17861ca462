/-
  The road of WireBack.
-/
import Derived.Test.YtgiicchblbhenaaDoorWireLaw
namespace Go.Proofs.YtgiicchblbhenaaDoor
open Go.RowKit

theorem back_long (a0 : Option Addr) (len0 cap0 n : Nat) (a2 : Option Addr) (len2 cap2 : Nat) (z : Int) (w : World) (h : 30 < len0 ∨ 30 < len2) (h0 : len0 ≤ 9223372036854775807) (h2 : len2 ≤ 9223372036854775807) :
    Calls Tryd.prog 3 #[.slice a0 len0 cap0, .int .u64 n, .slice a2 len2 cap2, .int .i64 z] w fun e w' => e = .returned (.bool true) ∧ Below w.heap.size w w' := by
  by_cases c : 30 < len0
  · go_enter Tryd.func3, Tryd.ntmps3
    go_wp2_with (go_at_call 6; refine (first_any _).mono ?_; rintro e w1 ⟨rfl, hb⟩)
    go_ret
    exact ⟨rfl, hb⟩
  · have c2 : 30 < len2 := by omega
    go_enter Tryd.func3, Tryd.ntmps3
    go_wp2_with (go_at_call 6; refine (first_any _).mono ?_; rintro e w1 ⟨rfl, hb⟩)
    go_ret
    exact ⟨rfl, hb⟩

theorem take_cut (bs : List Nat) (n : Nat) (more : List Nat) : ((bs ++ WP.enc n ++ more).take (bs.length + WP.sz n - 1)).drop bs.length = (WP.enc n).dropLast := by
  have p := WP.sz_pos n
  rw [List.append_assoc, show bs.length + WP.sz n - 1 = bs.length + (WP.sz n - 1) by omega, List.take_length_add_append, List.drop_left, List.dropLast_eq_take, List.take_append_of_le_length (by show WP.sz n - 1 ≤ WP.sz n; omega)]
  rfl

set_option maxRecDepth 20000 in
set_option maxHeartbeats 2000000 in
theorem back_at (a0 : Option Addr) (len0 cap0 n : Nat) (a2 : Option Addr) (len2 cap2 : Nat) (z : Int) (w : World) (bs0 bs2 : List Nat) (A : Nat → Addr)
    (l0 : bs0.length = len0) (l2 : bs2.length = len2) (b0 : len0 ≤ 30) (b2 : len2 ≤ 30) (hn : n < 18446744073709551616) (z0 : -9223372036854775808 ≤ z) (z1 : z ≤ 9223372036854775807)
    (hc0 : Cells w a0 bs0) (hc2 : Cells w a2 bs2) (s0 : ∀ c ∈ bs0, c < 256) (s2 : ∀ c ∈ bs2, c < 256) (n0 : a0 = none → len0 = 0 ∧ cap0 = 0) (n2 : a2 = none → len2 = 0 ∧ cap2 = 0) (hE : Errs w A) :
    Calls Tryd.prog 3 #[.slice a0 len0 cap0, .int .u64 n, .slice a2 len2 cap2, .int .i64 z] w fun e w' => e = .returned (.bool true) ∧ Below w.heap.size w w' := by
  obtain ⟨i0, hi, hz0, hz1, hz2⟩ := info_parts infoByte
  have s10 := WP.sz_le10 hn
  have sp := WP.sz_pos n
  have tc := take_cut bs0 n bs2
  obtain ⟨S, hS⟩ : ∃ S, WP.sz n = S := ⟨_, rfl⟩
  rw [hS] at s10 sp tc
  have HS : Hid (WP.sz n = S) := hS
  obtain ⟨E, hEe⟩ : ∃ E, len0 + S = E := ⟨_, rfl⟩
  have HEe : Hid (len0 + S = E) := hEe
  obtain ⟨L, hL⟩ : ∃ L, E + len2 = L := ⟨_, rfl⟩
  have HLe : Hid (E + len2 = L) := hL
  have bE : 1 ≤ E ∧ E ≤ 40 ∧ len0 < E := by omega
  have bL : L ≤ 70 ∧ E ≤ L := by omega
  have L0 : Hid (bs0.length = len0) := l0
  have L2 : Hid (bs2.length = len2) := l2
  have HC0 : Hid (Cells w a0 bs0) := hc0
  have HC2 : Hid (Cells w a2 bs2) := hc2
  have HE : Hid (Errs w A) := hE
  have N0 : Hid (a0 = none → len0 = 0 ∧ cap0 = 0) := n0
  have N2 : Hid (a2 = none → len2 = 0 ∧ cap2 = 0) := n2
  have H256 : Hid (∀ c ∈ bs0 ++ WP.enc n ++ bs2, c < 256) := by
    show ∀ c ∈ bs0 ++ WP.enc n ++ bs2, c < 256
    intro c hc
    rcases List.mem_append.1 hc with h | h
    · rcases List.mem_append.1 h with h | h
      · exact s0 c h
      · exact WP.enc_lt256 n c h
    · exact s2 c h
  have D1 : Hid (WP.dec 0 0 ((bs0 ++ WP.enc n ++ bs2).drop len0) = .ok (n, S)) := by
    show _ = _
    rw [List.append_assoc, ← l0, List.drop_left, WP.dec_enc n 0 0 bs2 (by rw [hS]; omega) (by simpa using hn) (by simp), hS]
    simp
  have D2 : Hid (WP.dec 0 0 (((bs0 ++ WP.enc n ++ bs2).take (E - 1)).drop len0) = .error false) := by
    show _ = _
    rw [← hEe, ← l0, tc]
    exact WP.dec_cut n 0 0 (by rw [hS]; omega)
  have HLen : Hid ((bs0 ++ WP.enc n ++ bs2).length = L) := by
    show _ = _
    rw [List.length_append, List.length_append, l0, l2, show (WP.enc n).length = S from hS]
    omega
  have D3 : Hid (WP.dec 0 0 ((bs0 ++ WP.enc n ++ bs2).drop L) = .error false) := by
    show _ = _
    rw [List.drop_eq_nil_of_le (by rw [HLen.out]; exact Nat.le_refl _)]
    rfl
  obtain ⟨Z, hZ, hZ1⟩ : ∃ Z : Nat, zig z = (Z : Int) ∧ Z < 18446744073709551616 := by
    refine ⟨(zig z).toNat, ?_, ?_⟩ <;> unfold zig <;> split <;> omega
  have kZ : Hid (∀ w, Calls Tryd.prog 13 #[.int .i64 z] w fun e w' => e = .returned (.int .u64 Z) ∧ ∃ m, w' = w.drewN m) := fun w => by have := zig_any z w z0 z1; rw [hZ] at this; exact this
  have kZZ : Hid (∀ w, Calls Tryd.prog 12 #[.int .u64 Z] w fun e w' => e = .returned (.int .i64 z) ∧ ∃ m, w' = w.drewN m) := fun w => by have := zag_any Z w hZ1; rw [zag_zig z Z hZ] at this; exact this
  obtain ⟨y, hy⟩ : ∃ y, zag n = y := ⟨_, rfl⟩
  have yb := zag_bounds n hn
  have yz := zig_zag n
  rw [hy] at yb yz
  have kY : Hid (∀ w, Calls Tryd.prog 12 #[.int .u64 n] w fun e w' => e = .returned (.int .i64 y) ∧ ∃ m, w' = w.drewN m) := fun w => by have := zag_any n w hn; rw [hy] at this; exact this
  have kYY : Hid (∀ w, Calls Tryd.prog 13 #[.int .i64 y] w fun e w' => e = .returned (.int .u64 n) ∧ ∃ m, w' = w.drewN m) := fun w => by have := zig_any y w yb.1 yb.2; rw [yz] at this; exact this
  have kS : Hid (∀ w, Calls Tryd.prog 9 #[.int .u64 n] w fun e w' => e = .returned (.int .i64 S) ∧ ∃ m, w' = w.drewN m) := fun w => by have := size_any n w hn; rw [hS] at this; exact this
  have hES : (E : Int) - (len0 : Int) = (S : Int) := by omega
  clear hS hEe hL l0 l2 hc0 hc2 hE n0 n2 s0 s2 tc hZ hy yz
  go_enter Tryd.func3, Tryd.ntmps3
  go_wp2_with (first
    | (go_at_call 6; refine (first_any _).mono ?_; rintro e w1 ⟨rfl, hb1⟩)
    | (at_builtin; refine wpList_append_bytes _ rfl (.tmp 33) (.tmp 34) 22 rfl i0 Tryd.underlying22 hi hz0 hz1 hz2 w.heap.size w (hb1.alloc hb1.size _) w1.heap.size 0 0 [] rfl (World.ownsRow_lit w1 #[] 0 hb1.size (by unfold maxLen; omega) rfl) a0 len0 cap0 bs0 rfl L0.out ((HC0.out.below hb1).below ((Below.refl _ _).alloc (Nat.le_refl _) _)) N0.out len0 (by omega) (by omega) (by have := hb1.size; simp; omega) ?_; intro g2 cap2' w2 hg2 hcap2 hcap2' hown2 hb2 hsz2 hsz2')
    | (go_at_call 7; refine (put_at (some ⟨g2, 0, none⟩) cap2' bs0 len0 n E _ L0.out hn (cells_own (xs := bs0) hown2.out) (by omega) (by rw [HS.out]; exact HEe.out) w.heap.size hsz2).mono ?_; rintro e w3 ⟨g3, rfl, hg3, hrow3, hown3, hb3⟩; have hb3' : Below w.heap.size w w3 := hb2.trans (hb3.mono hsz2))
    | (at_builtin; refine wpList_append_bytes _ rfl (.tmp 40) (.tmp 41) 22 rfl i0 Tryd.underlying22 hi hz0 hz1 hz2 w.heap.size w hb3' g3 E E (bs0 ++ WP.enc n) rfl hown3.out a2 len2 cap2 bs2 rfl L2.out (HC2.out.below hb3') N2.out L HLe.out (by omega) (by have := hb3'.size; omega) ?_; intro g4 cap4 w4 hg4 hcap4 hcap4' hown4 hb4 hsz4 hsz4')
    | (go_at_call_has 8 (Value.int .i64 (L : Int)); refine (get_err (some ⟨g4, 0, none⟩) cap4 (bs0 ++ WP.enc n ++ bs2) L L A _ HLen.out ((cells_own hown4.out).below hb45) H256.out (by omega) (by omega) (HE.out.below hb6') false D3.out (A 0) rfl).mono ?_; rintro e w7 ⟨g7, rfl, hg7, hrow7, hb7⟩; have hb7' : Below w.heap.size w w7 := hb6'.trans (hb7.mono hb6'.size))
    | (go_at_call 8; refine (get_err (some ⟨g4, 0, none⟩) cap4 ((bs0 ++ WP.enc n ++ bs2).take (E - 1)) (E - 1) len0 A _ (by rw [List.length_take, HLen.out]; omega) (cells_take ((cells_own hown4.out).below hb5) _) (fun c hc => H256.out c (List.mem_of_mem_take hc)) (by omega) (by omega) (HE.out.below hb5') false D2.out (A 0) rfl).mono ?_; rintro e w6 ⟨g6, rfl, hg6, hrow6, hb6⟩; have hb6' : Below w.heap.size w w6 := hb5'.trans (hb6.mono hb5'.size); have hb45 : Below w4.heap.size w4 w6 := hb5.trans (hb6.mono hb5.size))
    | (go_at_call 8; refine (get_num (some ⟨g4, 0, none⟩) cap4 (bs0 ++ WP.enc n ++ bs2) L len0 A _ HLen.out (cells_own hown4.out) H256.out (by omega) (by omega) (HE.out.below hb4) n S E D1.out HEe.out).mono ?_; rintro e w5 ⟨rfl, hb5⟩; have hb5' : Below w.heap.size w w5 := hb4.trans (hb5.mono hsz4))
    | (go_at_call 9; refine (kS.out _).mono ?_; rintro e w8 ⟨rfl, m8, rfl⟩)
    | (go_at_call_has 11 (Value.int .i64 (L : Int)); refine (placed_any _ _ _ (by decide)).mono ?_; rintro e w11 ⟨rfl, hb11⟩; have hb11' : Below w7.heap.size w7 w11 := hb10'.trans (hb11.mono hb10'.size))
    | (go_at_call 11; refine (placed_any _ _ _ (by decide)).mono ?_; rintro e w9 ⟨rfl, hb9⟩; have hb9' : Below w7.heap.size w7 w9 := (below_drewN (Below.refl _ _) m8).trans hb9)
    | (go_at_call 10; refine (same_any A _ ((HE.out.below hb7').below hb11') 6 (by omega) (A 0) rfl g7 L 107 (by omega) (row_below hrow7 hb11').out).mono ?_; rintro e w12 ⟨rfl, hb12⟩; have hb12' : Below w7.heap.size w7 w12 := hb11'.trans (hb12.mono hb11'.size))
    | (go_at_call 10; refine (same_any A _ ((HE.out.below hb7').below hb9') 6 (by omega) (A 0) rfl g6 len0 107 (by omega) (row_below (row_below hrow6 hb7) hb9').out).mono ?_; rintro e w10 ⟨rfl, hb10⟩; have hb10' : Below w7.heap.size w7 w10 := hb9'.trans (hb10.mono hb9'.size))
    | (go_at_call_has 13 (Value.int .i64 z); refine (kZ.out _).mono ?_; rintro e w13 ⟨rfl, m13, rfl⟩)
    | (go_at_call_has 12 (Value.int .u64 (Z : Int)); refine (kZZ.out _).mono ?_; rintro e w14 ⟨rfl, m14, rfl⟩)
    | (go_at_call_has 12 (Value.int .u64 (n : Int)); refine (kY.out _).mono ?_; rintro e w15 ⟨rfl, m15, rfl⟩)
    | (go_at_call_has 13 (Value.int .i64 y); refine (kYY.out _).mono ?_; rintro e w16 ⟨rfl, m16, rfl⟩))
  go_ret
  exact ⟨rfl, below_drewN (hb7'.trans (hb12'.mono hb7'.size)) _⟩

end Go.Proofs.YtgiicchblbhenaaDoor

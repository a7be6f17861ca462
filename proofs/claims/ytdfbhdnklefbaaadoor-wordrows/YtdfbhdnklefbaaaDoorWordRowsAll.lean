/-
  The road of the statement WordRows, at lists of whatever length: walked over the program.
-/
import Derived.Test.YtdfbhdnklefbaaaDoorWordRowsWalk
namespace Go.Proofs.YtdfbhdnklefbaaaDoor
open Go.RowKit

set_option maxRecDepth 20000 in
theorem wrows_long (ea : Addr) (a0 a1 : Option Addr) (n len1 cap0 cap1 : Nat) (w : World) (hE : ErrT w ea) (hn : 30 < n) :
    Calls Tryd.prog 4 #[.slice a0 n cap0, .slice a1 len1 cap1] w fun e w' => e = .returned (.bool true) ∧ Below w.heap.size w w' := by
  have HE := hid'' hE
  clear hE
  have hi : (30 : Int) < (n : Int) := by omega
  go_enter Tryd.func4, Tryd.ntmps4
  go_wp2_with (go_at_call 7; refine (first8_any _ w HE.out).mono ?_; rintro e w1 ⟨rfl, hb1⟩; have HB1 := hid'' hb1; clear hb1)
  all_goals go_ret
  all_goals exact ⟨rfl, HB1.out⟩

set_option maxRecDepth 20000 in
theorem wrows_short (ea : Addr) (a0 a1 : Option Addr) (n len1 cap0 cap1 : Nat) (w : World) (hE : ErrT w ea) (hn : n ≤ 30) (h1 : len1 < n) :
    Calls Tryd.prog 4 #[.slice a0 n cap0, .slice a1 len1 cap1] w fun e w' => e = .returned (.bool true) ∧ Below w.heap.size w w' := by
  have HE := hid'' hE
  clear hE
  have hi : ¬ ((30 : Int) < (n : Int)) := by omega
  have hj : (len1 : Int) < (n : Int) := by omega
  go_enter Tryd.func4, Tryd.ntmps4
  go_wp2_with (go_at_call 7; refine (first8_any _ w HE.out).mono ?_; rintro e w1 ⟨rfl, hb1⟩; have HB1 := hid'' hb1; clear hb1)
  all_goals go_ret
  all_goals exact ⟨rfl, HB1.out⟩

theorem wrows_any (ea : Addr) (a0 a1 : Option Addr) (len0 len1 cap0 cap1 : Nat) (z0 z1 : List Int) (w : World) (hE : ErrT w ea) (r0 : IsRow .i64 w a0 len0 cap0 z0) (r1 : IsRow .i64 w a1 len1 cap1 z1) :
    Calls Tryd.prog 4 #[.slice a0 len0 cap0, .slice a1 len1 cap1] w fun e w' => e = .returned (.bool true) ∧ Below w.heap.size w w' := by
  rcases Nat.lt_or_ge 30 len0 with h | h
  · exact wrows_long ea a0 a1 len0 len1 cap0 cap1 w hE h
  · rcases Nat.lt_or_ge len1 len0 with h1 | h1
    · exact wrows_short ea a0 a1 len0 len1 cap0 cap1 w hE h h1
    · refine wrows_few ea a0 a1 len0 len1 cap0 cap1 z0 z1 w hE h h1 (fun i hi => ?_)
      rcases r0 with ⟨-, e, -⟩ | ⟨x0, e0, l0, -, m0, c0, -⟩
      · omega
      · rcases r1 with ⟨-, e, -⟩ | ⟨x1, e1, l1, -, m1, c1, -⟩
        · omega
        · have k0 := c0 i (by omega)
          have k1 := c1 i (by omega)
          have b0 := World.block_lt_of_cell? w _ k0
          have b1 := World.block_lt_of_cell? w _ k1
          rw [add_block] at b0 b1
          exact ⟨x0, x1, e0, e1, b0, b1, k0, k1⟩

end Go.Proofs.YtdfbhdnklefbaaaDoor

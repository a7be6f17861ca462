/-
  The leaves of Check of package icon, walked over the program: within, isSegKind, isPlace, reaches, sized, Greatest, headed, and the paints.
-/
import Derived.Test.YtcnlkdoifogkbaaGreatDoorIconBase
namespace Go.Proofs.YtcnlkdoifogkbaaGreatDoor
open Go.RowKit

theorem within_any (n lo hi : Int) (w : World) :
    Calls Tryz.prog 71 #[.int .i64 n, .int .i64 lo, .int .i64 hi] w fun e w' => e = .returned (.bool (IC.within n lo hi)) ∧ w' = w := by
  go_enter Tryz.func71, Tryz.ntmps71
  go_wp2
  all_goals
    go_ret
    exact ⟨ret_bool (by simp [IC.within]; try omega), rfl⟩

theorem within64_any (n lo hi : Int) (w : World) :
    Calls Tryz.prog 95 #[.int .i64 n, .int .i64 lo, .int .i64 hi] w fun e w' => e = .returned (.bool (IC.within n lo hi)) ∧ w' = w := by
  go_enter Tryz.func95, Tryz.ntmps95
  go_wp2
  all_goals
    go_ret
    exact ⟨ret_bool (by simp [IC.within]; try omega), rfl⟩

theorem segkind_any (n : Int) (w : World) :
    Calls Tryz.prog 101 #[.int .i64 n] w fun e w' => e = .returned (.bool (IC.within n 1 3)) ∧ w' = w := by
  have k : Hid (∀ w, Calls Tryz.prog 71 #[.int .i64 n, .int .i64 1, .int .i64 3] w fun e w' => e = .returned (.bool (IC.within n 1 3)) ∧ w' = w) := fun w => within_any n 1 3 w
  generalize IC.within n 1 3 = b at k ⊢
  go_enter Tryz.func101, Tryz.ntmps101
  go_wp2_with (go_at_call 71; refine (k.out _).mono ?_; rintro e w1 ⟨rfl, rfl⟩)
  go_ret
  exact ⟨rfl, rfl⟩

theorem isplace_any (far n p : Int) (w : World) (h : 0 ≤ n ∧ n ≤ 1000000) :
    Calls Tryz.prog 114 #[.agg #[.int .i64 far, .int .i64 n], .int .i64 p] w fun e w' => e = .returned (.bool (IC.within p 0 (n - 1))) ∧ Below w.heap.size w w' := by
  have k : Hid (∀ w, Calls Tryz.prog 71 #[.int .i64 p, .int .i64 0, .int .i64 (n - 1)] w fun e w' => e = .returned (.bool (IC.within p 0 (n - 1))) ∧ w' = w) := fun w => within_any p 0 (n - 1) w
  generalize IC.within p 0 (n - 1) = b at k ⊢
  go_enter Tryz.func114, Tryz.ntmps114
  go_wp2_with (go_at_call 71; refine (k.out _).mono ?_; rintro e w1 ⟨rfl, rfl⟩)
  go_ret
  exact ⟨rfl, (Below.refl _ _).alloc (by omega) _⟩

theorem reaches_any (far n x y : Int) (w : World) (h : 0 ≤ far ∧ far ≤ 1099511627776) :
    Calls Tryz.prog 99 #[.agg #[.int .i64 far, .int .i64 n], .agg #[.int .i64 x, .int .i64 y]] w fun e w' => e = .returned (.bool (IC.reach far ⟨x, y⟩)) ∧ Below w.heap.size w w' := by
  have k1 : Hid (∀ w, Calls Tryz.prog 95 #[.int .i64 x, .int .i64 (-far), .int .i64 far] w fun e w' => e = .returned (.bool (IC.within x (-far) far)) ∧ w' = w) := fun w => within64_any x (-far) far w
  have k2 : Hid (∀ w, Calls Tryz.prog 95 #[.int .i64 y, .int .i64 (-far), .int .i64 far] w fun e w' => e = .returned (.bool (IC.within y (-far) far)) ∧ w' = w) := fun w => within64_any y (-far) far w
  have e : IC.reach far ⟨x, y⟩ = (IC.within x (-far) far && IC.within y (-far) far) := rfl
  rw [e]; clear e
  generalize IC.within x (-far) far = b1 at k1 ⊢
  generalize IC.within y (-far) far = b2 at k2 ⊢
  go_enter Tryz.func99, Tryz.ntmps99
  cases b1 <;>
  · go_wp2_with (go_at_call 95; first | ((with_reducible refine (k1.out _).mono ?_); rintro e w1 ⟨rfl, rfl⟩) | ((with_reducible refine (k2.out _).mono ?_); rintro e w1 ⟨rfl, rfl⟩))
    go_ret
    exact ⟨rfl, ((Below.refl _ _).alloc (by omega) _).alloc (by simp) _⟩

theorem sized_any (i : IC.Icon) (w : World) :
    Calls Tryz.prog 43 #[.agg i.cells.toArray] w fun e w' => e = .returned (.bool (IC.sized i)) ∧ Below w.heap.size w w' := by
  obtain ⟨W, H, S, vc, cols, vm, cmds⟩ := i
  have k1 : Hid (∀ w, Calls Tryz.prog 71 #[.int .i64 W, .int .i64 1, .int .i64 4096] w fun e w' => e = .returned (.bool (IC.within W 1 4096)) ∧ w' = w) := fun w => within_any W 1 4096 w
  have k2 : Hid (∀ w, Calls Tryz.prog 71 #[.int .i64 H, .int .i64 1, .int .i64 4096] w fun e w' => e = .returned (.bool (IC.within H 1 4096)) ∧ w' = w) := fun w => within_any H 1 4096 w
  have k3 : Hid (∀ w, Calls Tryz.prog 71 #[.int .i64 S, .int .i64 0, .int .i64 6] w fun e w' => e = .returned (.bool (IC.within S 0 6)) ∧ w' = w) := fun w => within_any S 0 6 w
  have e : IC.sized ⟨W, H, S, vc, cols, vm, cmds⟩ = (IC.within W 1 4096 && (IC.within H 1 4096 && IC.within S 0 6)) := rfl
  rw [e]; clear e
  generalize IC.within W 1 4096 = b1 at k1 ⊢
  generalize IC.within H 1 4096 = b2 at k2 ⊢
  generalize IC.within S 0 6 = b3 at k3 ⊢
  simp only [IC.Icon.cells]
  go_enter Tryz.func43, Tryz.ntmps43
  cases b1 <;> cases b2 <;>
  · go_wp2_with (go_at_call 71; first | ((with_reducible refine (k1.out _).mono ?_); rintro e w1 ⟨rfl, rfl⟩) | ((with_reducible refine (k2.out _).mono ?_); rintro e w1 ⟨rfl, rfl⟩) | ((with_reducible refine (k3.out _).mono ?_); rintro e w1 ⟨rfl, rfl⟩))
    go_ret
    exact ⟨rfl, (Below.refl _ _).alloc (by omega) _⟩

end Go.Proofs.YtcnlkdoifogkbaaGreatDoor

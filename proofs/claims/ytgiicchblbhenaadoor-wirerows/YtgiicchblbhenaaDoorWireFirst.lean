/-
  The chapter's examples, walked over the program: Put of 300, Zig of -1.
-/
import Derived.Test.YtgiicchblbhenaaDoorWirePut
namespace Go.Proofs.YtgiicchblbhenaaDoor
open Go.RowKit

theorem enc_300 : WP.enc 300 = [172, 2] := by rw [WP.enc_ge (by omega), WP.enc_lt (by omega)]
theorem sz_300 : WP.sz 300 = 2 := by rw [WP.sz, enc_300]; rfl

theorem put_300 (w : World) : Calls Tryd.prog 7 #[.slice none 0 0, .int .u64 300] w fun e w' => ∃ g, e = .returned (.slice (some ⟨g, 0, none⟩) 2 2) ∧ w'.cell? ⟨g, 0, none⟩ = some (.int .u8 172) ∧ w'.cell? ⟨g, 1, none⟩ = some (.int .u8 2) ∧ Below w.heap.size w w' := by
  refine (put_any none 0 [] 300 w (by decide) (cells_nil _ _) (by simp)).mono ?_
  rintro e w' ⟨g, rfl, hg, hrow, hb⟩
  rw [enc_300] at hrow
  refine ⟨g, by rw [sz_300]; rfl, ?_, ?_, hb⟩
  · rw [cell_of_row w' g 0 _ _ _ hrow]; simp [vals]
  · rw [cell_of_row w' g 1 _ _ _ hrow]; simp [vals]

theorem zig_m1 (w : World) : Calls Tryd.prog 13 #[.int .i64 (-1)] w fun e w' => e = .returned (.int .u64 1) ∧ ∃ m, w' = w.drewN m := zig_any (-1) w (by decide) (by decide)

set_option maxRecDepth 20000 in
set_option maxHeartbeats 400000 in
theorem first_any (w : World) : Calls Tryd.prog 6 #[] w fun e w' => e = .returned (.bool true) ∧ Below w.heap.size w w' := by
  go_enter Tryd.func6, Tryd.ntmps6
  go_wp2_with (first
    | (go_at_call 7; refine (put_300 _).mono ?_; rintro e w1 ⟨g, rfl, c0, c1, hb⟩)
    | (go_at_call 13; refine (zig_m1 _).mono ?_; rintro e w2 ⟨rfl, m, rfl⟩))
  go_ret
  exact ⟨rfl, below_drewN hb _⟩

end Go.Proofs.YtgiicchblbhenaaDoor

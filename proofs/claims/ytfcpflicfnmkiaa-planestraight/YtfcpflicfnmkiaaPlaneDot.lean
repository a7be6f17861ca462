/-
  What Cross, Dot and Len2 of package plane answer, walked over the program.
-/
import Derived.Test.YtfcpflicfnmkiaaPlaneCross
namespace Go.Proofs.Ytfcpflicfnmkiaa
open Go.RowKit

theorem below_allocs11 (w : World) (a b c d e f g h i j k : Obj) : Below w.heap.size w (((((((((((w.alloc a).alloc b).alloc c).alloc d).alloc e).alloc f).alloc g).alloc h).alloc i).alloc j).alloc k) := by
  repeat refine Below.alloc ?_ (by simp only [size_alloc]; omega) _
  exact (Below.refl _ _).alloc (Nat.le_refl _) _

set_option maxRecDepth 20000 in
set_option maxHeartbeats 4000000 in
theorem cross_any (ax ay bx bY px py : Int) (w : World) (h1 : PL.In ax) (h2 : PL.In ay) (h3 : PL.In bx) (h4 : PL.In bY) (h5 : PL.In px) (h6 : PL.In py) :
    Calls Try.prog 10 #[.agg #[.int .i64 ax, .int .i64 ay], .agg #[.int .i64 bx, .int .i64 bY], .agg #[.int .i64 px, .int .i64 py]] w fun e w' => e = .returned (.int .i64 (PL.cross ax ay bx bY px py)) ∧ Below w.heap.size w w' := by
  have k1 := PL.prod_bound (bx - ax) (py - ay) (by unfold PL.In at *; omega) (by unfold PL.In at *; omega)
  have k2 := PL.prod_bound (bY - ay) (px - ax) (by unfold PL.In at *; omega) (by unfold PL.In at *; omega)
  have e : PL.cross ax ay bx bY px py = (bx - ax) * (py - ay) - (bY - ay) * (px - ax) := rfl
  rw [e]; clear e
  have s1 : Hid (∀ w, Calls Try.prog 20 #[.agg #[.int .i64 bx, .int .i64 bY], .agg #[.int .i64 ax, .int .i64 ay]] w fun e w' => e = .returned (.agg #[.int .i64 (bx - ax), .int .i64 (bY - ay)]) ∧
      w' = ((w.alloc (.cells #[.int .i64 bx, .int .i64 bY] 23)).alloc (.cells #[.int .i64 ax, .int .i64 ay] 23)).alloc (.cells #[.int .i64 (bx - ax), .int .i64 (bY - ay)] 23)) := fun w => sub_any bx bY ax ay w (by unfold PL.In at *; omega) (by unfold PL.In at *; omega)
  have s2 : Hid (∀ w, Calls Try.prog 20 #[.agg #[.int .i64 px, .int .i64 py], .agg #[.int .i64 ax, .int .i64 ay]] w fun e w' => e = .returned (.agg #[.int .i64 (px - ax), .int .i64 (py - ay)]) ∧
      w' = ((w.alloc (.cells #[.int .i64 px, .int .i64 py] 23)).alloc (.cells #[.int .i64 ax, .int .i64 ay] 23)).alloc (.cells #[.int .i64 (px - ax), .int .i64 (py - ay)] 23)) := fun w => sub_any px py ax ay w (by unfold PL.In at *; omega) (by unfold PL.In at *; omega)
  clear h1 h2 h3 h4 h5 h6
  generalize bx - ax = dx at *
  generalize bY - ay = dy at *
  generalize px - ax = ex at *
  generalize py - ay = ey at *
  obtain ⟨M, hM⟩ : ∃ u, dx * ey = u := ⟨_, rfl⟩
  obtain ⟨N, hN⟩ : ∃ u, dy * ex = u := ⟨_, rfl⟩
  rw [hM] at k1; rw [hN] at k2; rw [hM, hN]
  go_enter Try.func10, Try.ntmps10
  go_wp2
  go_region_held3 (fun W => W.cell? ⟨w.heap.size, 0, none⟩ = some (.int .i64 ax) ∧ W.cell? ⟨w.heap.size, 1, none⟩ = some (.int .i64 ay) ∧ W.cell? ⟨w.heap.size + 1, 0, none⟩ = some (.int .i64 bx) ∧ W.cell? ⟨w.heap.size + 1, 1, none⟩ = some (.int .i64 bY) ∧ W.cell? ⟨w.heap.size + 1 + 1, 0, none⟩ = some (.int .i64 px) ∧ W.cell? ⟨w.heap.size + 1 + 1, 1, none⟩ = some (.int .i64 py))
    (first | simp [go_sem] | go_keep)
    (first
    | (go_at_call_has 20 (Value.int IntKind.i64 px); refine (s2.out _).mono ?_; rintro e w2 ⟨rfl, rfl⟩)
    | (go_at_call_has 20 (Value.int IntKind.i64 bx); refine (s1.out _).mono ?_; rintro e w1 ⟨rfl, rfl⟩))
  all_goals
    rename_i hS
    clear hS
    go_wp2
    go_ret
    refine ⟨rfl, ?_⟩
    refine Below.drew ?_
    exact below_allocs11 w _ _ _ _ _ _ _ _ _ _ _

set_option maxRecDepth 20000 in
set_option maxHeartbeats 4000000 in
theorem dot_any (ax ay bx bY px py : Int) (w : World) (h1 : PL.In ax) (h2 : PL.In ay) (h3 : PL.In bx) (h4 : PL.In bY) (h5 : PL.In px) (h6 : PL.In py) :
    Calls Try.prog 12 #[.agg #[.int .i64 ax, .int .i64 ay], .agg #[.int .i64 bx, .int .i64 bY], .agg #[.int .i64 px, .int .i64 py]] w fun e w' => e = .returned (.int .i64 (PL.dot ax ay bx bY px py)) ∧ Below w.heap.size w w' := by
  have k1 := PL.prod_bound (bx - ax) (px - ax) (by unfold PL.In at *; omega) (by unfold PL.In at *; omega)
  have k2 := PL.prod_bound (bY - ay) (py - ay) (by unfold PL.In at *; omega) (by unfold PL.In at *; omega)
  have e : PL.dot ax ay bx bY px py = (bx - ax) * (px - ax) + (bY - ay) * (py - ay) := rfl
  rw [e]; clear e
  have s1 : Hid (∀ w, Calls Try.prog 20 #[.agg #[.int .i64 bx, .int .i64 bY], .agg #[.int .i64 ax, .int .i64 ay]] w fun e w' => e = .returned (.agg #[.int .i64 (bx - ax), .int .i64 (bY - ay)]) ∧
      w' = ((w.alloc (.cells #[.int .i64 bx, .int .i64 bY] 23)).alloc (.cells #[.int .i64 ax, .int .i64 ay] 23)).alloc (.cells #[.int .i64 (bx - ax), .int .i64 (bY - ay)] 23)) := fun w => sub_any bx bY ax ay w (by unfold PL.In at *; omega) (by unfold PL.In at *; omega)
  have s2 : Hid (∀ w, Calls Try.prog 20 #[.agg #[.int .i64 px, .int .i64 py], .agg #[.int .i64 ax, .int .i64 ay]] w fun e w' => e = .returned (.agg #[.int .i64 (px - ax), .int .i64 (py - ay)]) ∧
      w' = ((w.alloc (.cells #[.int .i64 px, .int .i64 py] 23)).alloc (.cells #[.int .i64 ax, .int .i64 ay] 23)).alloc (.cells #[.int .i64 (px - ax), .int .i64 (py - ay)] 23)) := fun w => sub_any px py ax ay w (by unfold PL.In at *; omega) (by unfold PL.In at *; omega)
  clear h1 h2 h3 h4 h5 h6
  generalize bx - ax = dx at *
  generalize bY - ay = dy at *
  generalize px - ax = ex at *
  generalize py - ay = ey at *
  obtain ⟨M, hM⟩ : ∃ u, dx * ex = u := ⟨_, rfl⟩
  obtain ⟨N, hN⟩ : ∃ u, dy * ey = u := ⟨_, rfl⟩
  rw [hM] at k1; rw [hN] at k2; rw [hM, hN]
  go_enter Try.func12, Try.ntmps12
  go_wp2
  go_region_held3 (fun W => W.cell? ⟨w.heap.size, 0, none⟩ = some (.int .i64 ax) ∧ W.cell? ⟨w.heap.size, 1, none⟩ = some (.int .i64 ay) ∧ W.cell? ⟨w.heap.size + 1, 0, none⟩ = some (.int .i64 bx) ∧ W.cell? ⟨w.heap.size + 1, 1, none⟩ = some (.int .i64 bY) ∧ W.cell? ⟨w.heap.size + 1 + 1, 0, none⟩ = some (.int .i64 px) ∧ W.cell? ⟨w.heap.size + 1 + 1, 1, none⟩ = some (.int .i64 py))
    (first | simp [go_sem] | go_keep)
    (first
    | (go_at_call_has 20 (Value.int IntKind.i64 px); refine (s2.out _).mono ?_; rintro e w2 ⟨rfl, rfl⟩)
    | (go_at_call_has 20 (Value.int IntKind.i64 bx); refine (s1.out _).mono ?_; rintro e w1 ⟨rfl, rfl⟩))
  all_goals
    rename_i hS
    clear hS
    go_wp2
    go_ret
    refine ⟨rfl, ?_⟩
    refine Below.drew ?_
    exact below_allocs11 w _ _ _ _ _ _ _ _ _ _ _

theorem len2_any (ax ay bx bY : Int) (w : World) (h1 : PL.In ax) (h2 : PL.In ay) (h3 : PL.In bx) (h4 : PL.In bY) :
    Calls Try.prog 14 #[.agg #[.int .i64 ax, .int .i64 ay], .agg #[.int .i64 bx, .int .i64 bY]] w fun e w' => e = .returned (.int .i64 (PL.len2 ax ay bx bY)) ∧ Below w.heap.size w w' := by
  have k : Hid (∀ w, Calls Try.prog 12 #[.agg #[.int .i64 ax, .int .i64 ay], .agg #[.int .i64 bx, .int .i64 bY], .agg #[.int .i64 bx, .int .i64 bY]] w fun e w' => e = .returned (.int .i64 (PL.len2 ax ay bx bY)) ∧ Below w.heap.size w w') := fun w => dot_any ax ay bx bY bx bY w h1 h2 h3 h4 h3 h4
  clear h1 h2 h3 h4
  generalize PL.len2 ax ay bx bY = L at k ⊢
  go_enter Try.func14, Try.ntmps14
  go_wp2_with (go_at_call 12; refine (k.out _).mono ?_; rintro e w1 ⟨rfl, hb⟩)
  go_ret
  exact ⟨rfl, (((Below.refl _ _).alloc (by omega) _).alloc (by simp) _).trans (hb.mono (by simp; omega))⟩

end Go.Proofs.Ytfcpflicfnmkiaa

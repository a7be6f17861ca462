/-
  PlaneTurns, walked over the program.
-/
import Derived.Test.YtfcpflicfnmkiaaPlaneGrow
import Derived.Test.YtfcpflicfnmkiaaMask
namespace Go.Proofs.Ytfcpflicfnmkiaa
open Go.RowKit

/-- A quarter of what is within the chapter's bounds. -/
def Q4 (x : Int) : Prop := -33554432 ≤ x ∧ x ≤ 33554432

theorem q4_in (x : Int) (h : PL.In x) : Q4 (x.tdiv 4) := by
  unfold PL.In at h
  have e := Int.mul_tdiv_add_tmod x 4
  have t := tmod_in x 4 (by omega)
  exact ⟨by omega, by omega⟩

theorem q4_of {x : Int} (h : Q4 x) : PL.In x := by unfold Q4 at h; exact ⟨by omega, by omega⟩
theorem q4_neg {x : Int} (h : Q4 x) : PL.In (-x) := by unfold Q4 at h; exact ⟨by omega, by omega⟩
theorem q4_add {x y : Int} (h : Q4 x) (g : Q4 y) : PL.In (x + y) := by unfold Q4 at h g; exact ⟨by omega, by omega⟩

set_option maxRecDepth 100000 in
set_option maxHeartbeats 8000000 in
theorem turns_walk (ax ay bx bY px py yx yy c m : Int) (w : World) (n k : Int) (hn : c < 0 ∧ -9223372036854775808 ≤ c ∧ -(c + 1) = n ∨ 0 ≤ c ∧ c = n) (hk : n.tmod 67108864 = k) (k0 : 0 ≤ k) (k1 : k ≤ 67108863) :
    Calls Try.prog 4 #[.agg #[.int .i64 ax, .int .i64 ay], .agg #[.int .i64 bx, .int .i64 bY], .agg #[.int .i64 px, .int .i64 py], .agg #[.int .i64 yx, .int .i64 yy], .int .i64 c, .int .i64 m] w fun e w' => e = .returned (.bool true) ∧ Below w.heap.size w w' := by
  have qa : Hid (∀ w, Calls Try.prog 9 #[.agg #[.int .i64 ax, .int .i64 ay]] w fun e w' => e = .returned (.agg #[.int .i64 (ax.tmod 134217729), .int .i64 (ay.tmod 134217729)]) ∧ Below w.heap.size w w') := fun w => cut_any ax ay w
  have qb : Hid (∀ w, Calls Try.prog 9 #[.agg #[.int .i64 bx, .int .i64 bY]] w fun e w' => e = .returned (.agg #[.int .i64 (bx.tmod 134217729), .int .i64 (bY.tmod 134217729)]) ∧ Below w.heap.size w w') := fun w => cut_any bx bY w
  have qp : Hid (∀ w, Calls Try.prog 9 #[.agg #[.int .i64 px, .int .i64 py]] w fun e w' => e = .returned (.agg #[.int .i64 (px.tmod 134217729), .int .i64 (py.tmod 134217729)]) ∧ Below w.heap.size w w') := fun w => cut_any px py w
  have qy : Hid (∀ w, Calls Try.prog 9 #[.agg #[.int .i64 yx, .int .i64 yy]] w fun e w' => e = .returned (.agg #[.int .i64 (yx.tmod 134217729), .int .i64 (yy.tmod 134217729)]) ∧ Below w.heap.size w w') := fun w => cut_any yx yy w
  have i1 : Hid (Q4 _) := q4_in _ (in_tmod ax)
  have i2 : Hid (Q4 _) := q4_in _ (in_tmod ay)
  have i3 : Hid (Q4 _) := q4_in _ (in_tmod bx)
  have i4 : Hid (Q4 _) := q4_in _ (in_tmod bY)
  have i5 : Hid (Q4 _) := q4_in _ (in_tmod px)
  have i6 : Hid (Q4 _) := q4_in _ (in_tmod py)
  have i7 : Hid (Q4 _) := q4_in _ (in_tmod yx)
  have i8 : Hid (Q4 _) := q4_in _ (in_tmod yy)
  generalize ax.tmod 134217729 = Ax at qa i1
  obtain ⟨A0, e1⟩ : ∃ u, Ax.tdiv 4 = u := ⟨_, rfl⟩
  rw [e1] at i1
  generalize ay.tmod 134217729 = Ay at qa i2
  obtain ⟨A1, e2⟩ : ∃ u, Ay.tdiv 4 = u := ⟨_, rfl⟩
  rw [e2] at i2
  generalize bx.tmod 134217729 = Bx at qb i3
  obtain ⟨B0, e3⟩ : ∃ u, Bx.tdiv 4 = u := ⟨_, rfl⟩
  rw [e3] at i3
  generalize bY.tmod 134217729 = By at qb i4
  obtain ⟨B1, e4⟩ : ∃ u, By.tdiv 4 = u := ⟨_, rfl⟩
  rw [e4] at i4
  generalize px.tmod 134217729 = Px at qp i5
  obtain ⟨P0, e5⟩ : ∃ u, Px.tdiv 4 = u := ⟨_, rfl⟩
  rw [e5] at i5
  generalize py.tmod 134217729 = Py at qp i6
  obtain ⟨P1, e6⟩ : ∃ u, Py.tdiv 4 = u := ⟨_, rfl⟩
  rw [e6] at i6
  generalize yx.tmod 134217729 = Yx at qy i7
  obtain ⟨Y0, e7⟩ : ∃ u, Yx.tdiv 4 = u := ⟨_, rfl⟩
  rw [e7] at i7
  generalize yy.tmod 134217729 = Yy at qy i8
  obtain ⟨Y1, e8⟩ : ∃ u, Yy.tdiv 4 = u := ⟨_, rfl⟩
  rw [e8] at i8
  have em : Hid (0 ≤ bits .and .i64 m 16777215) := by show 0 ≤ _; rw [low24]; omega
  obtain ⟨M, hM⟩ : ∃ u, bits .and .i64 m 16777215 = u := ⟨_, rfl⟩
  rw [hM] at em
  have kq : Hid (∀ w, Calls Try.prog 21 #[.int .i64 M, .int .i64 16777216] w fun e w' => e = .returned (.int .i64 (M % 16777216)) ∧ w = w') := fun w => (number_any M 16777216 w em.out (by omega)).mono fun _ _ h => ⟨h.1, h.2.symm⟩
  have q0 : 0 ≤ M % 16777216 := by omega
  have q1 : M % 16777216 ≤ 16777215 := by omega
  generalize M % 16777216 = q at kq q0 q1
  have kn : Hid (∀ w, Calls Try.prog 16 #[.agg #[.int .i64 A0, .int .i64 A1], .agg #[.int .i64 B0, .int .i64 B1], .agg #[.int .i64 P0, .int .i64 P1], .int .i64 k] w fun e w' => e = .returned (.bool (PL.near A0 A1 B0 B1 P0 P1 k)) ∧ Below w.heap.size w w') := fun w => by
    have := near_any A0 A1 B0 B1 P0 P1 k w (q4_of i1.out) (q4_of i2.out) (q4_of i3.out) (q4_of i4.out) (q4_of i5.out) (q4_of i6.out) (by omega) (by omega)
    exact this
  have knt : Hid (∀ w, Calls Try.prog 16 #[.agg #[.int .i64 (-A1), .int .i64 A0], .agg #[.int .i64 (-B1), .int .i64 B0], .agg #[.int .i64 (-P1), .int .i64 P0], .int .i64 k] w fun e w' => e = .returned (.bool (PL.near A0 A1 B0 B1 P0 P1 k)) ∧ Below w.heap.size w w') := fun w => by
    have := near_any (-A1) A0 (-B1) B0 (-P1) P0 k w (q4_neg i2.out) (q4_of i1.out) (q4_neg i4.out) (q4_of i3.out) (q4_neg i6.out) (q4_of i5.out) (by omega) (by omega)
    rw [PL.near_turn] at this
    exact this
  have knm : Hid (∀ w, Calls Try.prog 16 #[.agg #[.int .i64 (A0 + Y0), .int .i64 (A1 + Y1)], .agg #[.int .i64 (B0 + Y0), .int .i64 (B1 + Y1)], .agg #[.int .i64 (P0 + Y0), .int .i64 (P1 + Y1)], .int .i64 k] w fun e w' => e = .returned (.bool (PL.near A0 A1 B0 B1 P0 P1 k)) ∧ Below w.heap.size w w') := fun w => by
    have := near_any (A0 + Y0) (A1 + Y1) (B0 + Y0) (B1 + Y1) (P0 + Y0) (P1 + Y1) k w (q4_add i1.out i7.out) (q4_add i2.out i8.out) (q4_add i3.out i7.out) (q4_add i4.out i8.out) (q4_add i5.out i7.out) (q4_add i6.out i8.out) (by omega) (by omega)
    rw [PL.near_move] at this
    exact this
  have kns : Hid (∀ w, Calls Try.prog 16 #[.agg #[.int .i64 B0, .int .i64 B1], .agg #[.int .i64 A0, .int .i64 A1], .agg #[.int .i64 P0, .int .i64 P1], .int .i64 k] w fun e w' => e = .returned (.bool (PL.near A0 A1 B0 B1 P0 P1 k)) ∧ Below w.heap.size w w') := fun w => by
    have := near_any B0 B1 A0 A1 P0 P1 k w (q4_of i3.out) (q4_of i4.out) (q4_of i1.out) (q4_of i2.out) (q4_of i5.out) (q4_of i6.out) (by omega) (by omega)
    rw [PL.near_swap] at this
    exact this
  have kna : Hid (∀ w, Calls Try.prog 16 #[.agg #[.int .i64 A0, .int .i64 A1], .agg #[.int .i64 B0, .int .i64 B1], .agg #[.int .i64 A0, .int .i64 A1], .int .i64 k] w fun e w' => e = .returned (.bool true) ∧ Below w.heap.size w w') := fun w => by
    have := near_any A0 A1 B0 B1 A0 A1 k w (q4_of i1.out) (q4_of i2.out) (q4_of i3.out) (q4_of i4.out) (q4_of i1.out) (q4_of i2.out) (by omega) (by omega)
    rw [PL.near_a] at this
    exact this
  have knb : Hid (∀ w, Calls Try.prog 16 #[.agg #[.int .i64 A0, .int .i64 A1], .agg #[.int .i64 B0, .int .i64 B1], .agg #[.int .i64 B0, .int .i64 B1], .int .i64 k] w fun e w' => e = .returned (.bool true) ∧ Below w.heap.size w w') := fun w => by
    have := near_any A0 A1 B0 B1 B0 B1 k w (q4_of i1.out) (q4_of i2.out) (q4_of i3.out) (q4_of i4.out) (q4_of i3.out) (q4_of i4.out) (by omega) (by omega)
    rw [PL.near_b] at this
    exact this
  have knw : Hid (∀ w, Calls Try.prog 16 #[.agg #[.int .i64 A0, .int .i64 A1], .agg #[.int .i64 B0, .int .i64 B1], .agg #[.int .i64 P0, .int .i64 P1], .int .i64 (k + q)] w fun e w' => e = .returned (.bool (PL.near A0 A1 B0 B1 P0 P1 (k + q))) ∧ Below w.heap.size w w') := fun w => near_any A0 A1 B0 B1 P0 P1 (k + q) w (q4_of i1.out) (q4_of i2.out) (q4_of i3.out) (q4_of i4.out) (q4_of i5.out) (q4_of i6.out) (by omega) (by omega)
  have HR : Hid (PL.near A0 A1 B0 B1 P0 P1 k = true → PL.near A0 A1 B0 B1 P0 P1 (k + q) = true) := fun h => PL.near_more _ _ _ _ _ _ k q k0 q0 h
  generalize PL.near A0 A1 B0 B1 P0 P1 (k + q) = R2 at knw HR
  have kx : Hid (∀ w, Calls Try.prog 10 #[.agg #[.int .i64 A0, .int .i64 A1], .agg #[.int .i64 B0, .int .i64 B1], .agg #[.int .i64 P0, .int .i64 P1]] w fun e w' => e = .returned (.int .i64 (PL.cross A0 A1 B0 B1 P0 P1)) ∧ Below w.heap.size w w') := fun w => by
    have := cross_any A0 A1 B0 B1 P0 P1 w (q4_of i1.out) (q4_of i2.out) (q4_of i3.out) (q4_of i4.out) (q4_of i5.out) (q4_of i6.out)
    exact this
  have kxs : Hid (∀ w, Calls Try.prog 10 #[.agg #[.int .i64 B0, .int .i64 B1], .agg #[.int .i64 A0, .int .i64 A1], .agg #[.int .i64 P0, .int .i64 P1]] w fun e w' => e = .returned (.int .i64 (-PL.cross A0 A1 B0 B1 P0 P1)) ∧ Below w.heap.size w w') := fun w => by
    have := cross_any B0 B1 A0 A1 P0 P1 w (q4_of i3.out) (q4_of i4.out) (q4_of i1.out) (q4_of i2.out) (q4_of i5.out) (q4_of i6.out)
    rw [PL.cross_swap] at this
    exact this
  have kxt : Hid (∀ w, Calls Try.prog 10 #[.agg #[.int .i64 (-A1), .int .i64 A0], .agg #[.int .i64 (-B1), .int .i64 B0], .agg #[.int .i64 (-P1), .int .i64 P0]] w fun e w' => e = .returned (.int .i64 (PL.cross A0 A1 B0 B1 P0 P1)) ∧ Below w.heap.size w w') := fun w => by
    have := cross_any (-A1) A0 (-B1) B0 (-P1) P0 w (q4_neg i2.out) (q4_of i1.out) (q4_neg i4.out) (q4_of i3.out) (q4_neg i6.out) (q4_of i5.out)
    rw [PL.cross_turn] at this
    exact this
  have xb := PL.cross_bound A0 A1 B0 B1 P0 P1 (q4_of i1.out) (q4_of i2.out) (q4_of i3.out) (q4_of i4.out) (q4_of i5.out) (q4_of i6.out)
  have kl : Hid (∀ w, Calls Try.prog 14 #[.agg #[.int .i64 A0, .int .i64 A1], .agg #[.int .i64 B0, .int .i64 B1]] w fun e w' => e = .returned (.int .i64 (PL.len2 A0 A1 B0 B1)) ∧ Below w.heap.size w w') := fun w => len2_any A0 A1 B0 B1 w (q4_of i1.out) (q4_of i2.out) (q4_of i3.out) (q4_of i4.out)
  have kls : Hid (∀ w, Calls Try.prog 14 #[.agg #[.int .i64 B0, .int .i64 B1], .agg #[.int .i64 A0, .int .i64 A1]] w fun e w' => e = .returned (.int .i64 (PL.len2 A0 A1 B0 B1)) ∧ Below w.heap.size w w') := fun w => by
    have := len2_any B0 B1 A0 A1 w (q4_of i3.out) (q4_of i4.out) (q4_of i1.out) (q4_of i2.out)
    rw [PL.len2_swap] at this
    exact this
  have ta : Hid (∀ w, Calls Try.prog 22 #[.agg #[.int .i64 A0, .int .i64 A1]] w fun e w' => e = .returned (.agg #[.int .i64 (-A1), .int .i64 A0]) ∧ Below w.heap.size w w') := fun w => turn_any A0 A1 w (by have := i2.out; unfold Q4 at this; omega)
  have tb : Hid (∀ w, Calls Try.prog 22 #[.agg #[.int .i64 B0, .int .i64 B1]] w fun e w' => e = .returned (.agg #[.int .i64 (-B1), .int .i64 B0]) ∧ Below w.heap.size w w') := fun w => turn_any B0 B1 w (by have := i4.out; unfold Q4 at this; omega)
  have tp : Hid (∀ w, Calls Try.prog 22 #[.agg #[.int .i64 P0, .int .i64 P1]] w fun e w' => e = .returned (.agg #[.int .i64 (-P1), .int .i64 P0]) ∧ Below w.heap.size w w') := fun w => turn_any P0 P1 w (by have := i6.out; unfold Q4 at this; omega)
  have ma : Hid (∀ w, Calls Try.prog 19 #[.agg #[.int .i64 A0, .int .i64 A1], .agg #[.int .i64 Y0, .int .i64 Y1]] w fun e w' => e = .returned (.agg #[.int .i64 (A0 + Y0), .int .i64 (A1 + Y1)]) ∧ Below w.heap.size w w') := fun w => add_any A0 A1 Y0 Y1 w (by have := i1.out; have := i7.out; unfold Q4 at *; omega) (by have := i2.out; have := i8.out; unfold Q4 at *; omega)
  have mb : Hid (∀ w, Calls Try.prog 19 #[.agg #[.int .i64 B0, .int .i64 B1], .agg #[.int .i64 Y0, .int .i64 Y1]] w fun e w' => e = .returned (.agg #[.int .i64 (B0 + Y0), .int .i64 (B1 + Y1)]) ∧ Below w.heap.size w w') := fun w => add_any B0 B1 Y0 Y1 w (by have := i3.out; have := i7.out; unfold Q4 at *; omega) (by have := i4.out; have := i8.out; unfold Q4 at *; omega)
  have mp : Hid (∀ w, Calls Try.prog 19 #[.agg #[.int .i64 P0, .int .i64 P1], .agg #[.int .i64 Y0, .int .i64 Y1]] w fun e w' => e = .returned (.agg #[.int .i64 (P0 + Y0), .int .i64 (P1 + Y1)]) ∧ Below w.heap.size w w') := fun w => add_any P0 P1 Y0 Y1 w (by have := i5.out; have := i7.out; unfold Q4 at *; omega) (by have := i6.out; have := i8.out; unfold Q4 at *; omega)
  have z1 : wrap64 A0 = A0 := by have := i1.out; unfold Q4 at this; unfold wrap64; omega
  have z2 : wrap64 A1 = A1 := by have := i2.out; unfold Q4 at this; unfold wrap64; omega
  have z3 : wrap64 B0 = B0 := by have := i3.out; unfold Q4 at this; unfold wrap64; omega
  have z4 : wrap64 B1 = B1 := by have := i4.out; unfold Q4 at this; unfold wrap64; omega
  have z5 : wrap64 P0 = P0 := by have := i5.out; unfold Q4 at this; unfold wrap64; omega
  have z6 : wrap64 P1 = P1 := by have := i6.out; unfold Q4 at this; unfold wrap64; omega
  have z7 : wrap64 Y0 = Y0 := by have := i7.out; unfold Q4 at this; unfold wrap64; omega
  have z8 : wrap64 Y1 = Y1 := by have := i8.out; unfold Q4 at this; unfold wrap64; omega
  generalize PL.near A0 A1 B0 B1 P0 P1 k = R at kn knt knm kns HR
  generalize PL.cross A0 A1 B0 B1 P0 P1 = X at kx kxs kxt xb
  generalize PL.len2 A0 A1 B0 B1 = L at kl kls
  clear i1 i2 i3 i4 i5 i6 i7 i8 em
  obtain ⟨W0, hW0⟩ : ∃ W, ((((w.alloc (.cells #[.int .i64 ax, .int .i64 ay] 23)).alloc (.cells #[.int .i64 bx, .int .i64 bY] 23)).alloc (.cells #[.int .i64 px, .int .i64 py] 23)).alloc (.cells #[.int .i64 yx, .int .i64 yy] 23)) = W := ⟨_, rfl⟩
  have HA : Hid (Box W0 w.heap.size (.int .i64 ax) (.int .i64 ay)) := by rw [← hW0]; exact (((box_new w _ _ 23).alloc _).alloc _).alloc _
  have HB : Hid (Box W0 (w.heap.size + 1) (.int .i64 bx) (.int .i64 bY)) := by have := ((box_new (w.alloc (.cells #[.int .i64 ax, .int .i64 ay] 23)) (.int .i64 bx) (.int .i64 bY) 23).alloc (.cells #[.int .i64 px, .int .i64 py] 23)).alloc (.cells #[.int .i64 yx, .int .i64 yy] 23); rw [hW0, size_alloc] at this; exact this
  have HP : Hid (Box W0 (w.heap.size + 1 + 1) (.int .i64 px) (.int .i64 py)) := by have := (box_new ((w.alloc (.cells #[.int .i64 ax, .int .i64 ay] 23)).alloc (.cells #[.int .i64 bx, .int .i64 bY] 23)) (.int .i64 px) (.int .i64 py) 23).alloc (.cells #[.int .i64 yx, .int .i64 yy] 23); rw [hW0, size_alloc, size_alloc] at this; exact this
  have HY : Hid (Box W0 (w.heap.size + 1 + 1 + 1) (.int .i64 yx) (.int .i64 yy)) := by have := box_new (((w.alloc (.cells #[.int .i64 ax, .int .i64 ay] 23)).alloc (.cells #[.int .i64 bx, .int .i64 bY] 23)).alloc (.cells #[.int .i64 px, .int .i64 py] 23)) (.int .i64 yx) (.int .i64 yy) 23; rw [hW0, size_alloc, size_alloc, size_alloc] at this; exact this
  have BW : Hid (Below w.heap.size w W0) := by rw [← hW0]; exact ((((Below.refl _ _).alloc (by omega) _).alloc (by simp) _).alloc (by simp; omega) _).alloc (by simp; omega) _
  have HE : Hid (_ = W0) := hW0
  have HN : Hid (_ ∨ _) := hn
  clear hW0 hn
  go_enter Try.func4, Try.ntmps4
  go_upto_region 7 with (first
    | (go_at_call 9; refine (qp.out (set2 w3 (w.heap.size + 1) (.int .i64 Bx) (.int .i64 By))).mono ?_; rintro e w4 ⟨rfl, hb4⟩
       have B4 : Hid (Below w.heap.size w w4) := chain (below_set2 B3.out (by omega) _ _) hb4
       have HA4 : Hid (Box w4 (w.heap.size) (.int .i64 Ax) (.int .i64 Ay)) := (HA3.out.far (by omega) _ _).below hb4
       have HB4 : Hid (Box w4 (w.heap.size + 1) (.int .i64 Bx) (.int .i64 By)) := (HB3.out.set _ _).below hb4
       have HP4 : Hid (Box w4 (w.heap.size + 1 + 1) (.int .i64 px) (.int .i64 py)) := (HP3.out.far (by omega) _ _).below hb4
       have HY4 : Hid (Box w4 (w.heap.size + 1 + 1 + 1) (.int .i64 yx) (.int .i64 yy)) := (HY3.out.far (by omega) _ _).below hb4
       clear hb4
       obtain ⟨⟨_, a0, a1⟩, f0, f1⟩ := HP4.out)
    | (go_at_call 9; refine (qb.out (set2 w2 w.heap.size (.int .i64 Ax) (.int .i64 Ay))).mono ?_; rintro e w3 ⟨rfl, hb3⟩
       have B3 : Hid (Below w.heap.size w w3) := chain (below_set2 B2.out (by omega) _ _) hb3
       have HA3 : Hid (Box w3 (w.heap.size) (.int .i64 Ax) (.int .i64 Ay)) := (HA2.out.set _ _).below hb3
       have HB3 : Hid (Box w3 (w.heap.size + 1) (.int .i64 bx) (.int .i64 bY)) := (HB2.out.far (by omega) _ _).below hb3
       have HP3 : Hid (Box w3 (w.heap.size + 1 + 1) (.int .i64 px) (.int .i64 py)) := (HP2.out.far (by omega) _ _).below hb3
       have HY3 : Hid (Box w3 (w.heap.size + 1 + 1 + 1) (.int .i64 yx) (.int .i64 yy)) := (HY2.out.far (by omega) _ _).below hb3
       clear hb3
       obtain ⟨⟨_, a0, a1⟩, f0, f1⟩ := HB3.out
       obtain ⟨⟨_, b0, b1⟩, g0, g1⟩ := HP3.out)
    | (go_at_call 9; refine (qa.out w1).mono ?_; rintro e w2 ⟨rfl, hb2⟩
       have B2 : Hid (Below w.heap.size w w2) := chain B1.out hb2
       have HA2 : Hid (Box w2 (w.heap.size) (.int .i64 ax) (.int .i64 ay)) := HA1.out.below hb2
       have HB2 : Hid (Box w2 (w.heap.size + 1) (.int .i64 bx) (.int .i64 bY)) := HB1.out.below hb2
       have HP2 : Hid (Box w2 (w.heap.size + 1 + 1) (.int .i64 px) (.int .i64 py)) := HP1.out.below hb2
       have HY2 : Hid (Box w2 (w.heap.size + 1 + 1 + 1) (.int .i64 yx) (.int .i64 yy)) := HY1.out.below hb2
       clear hb2
       obtain ⟨⟨_, a0, a1⟩, f0, f1⟩ := HA2.out
       obtain ⟨⟨_, b0, b1⟩, g0, g1⟩ := HB2.out)
    | (go_at_call 8; rw [HE.out]; refine (first_any W0).mono ?_; rintro e w1 ⟨rfl, hb1⟩
       have B1 : Hid (Below w.heap.size w w1) := chain BW.out hb1
       have HA1 : Hid (Box w1 (w.heap.size) (.int .i64 ax) (.int .i64 ay)) := HA.out.below hb1
       have HB1 : Hid (Box w1 (w.heap.size + 1) (.int .i64 bx) (.int .i64 bY)) := HB.out.below hb1
       have HP1 : Hid (Box w1 (w.heap.size + 1 + 1) (.int .i64 px) (.int .i64 py)) := HP.out.below hb1
       have HY1 : Hid (Box w1 (w.heap.size + 1 + 1 + 1) (.int .i64 yx) (.int .i64 yy)) := HY.out.below hb1
       clear hb1
       obtain ⟨⟨_, a0, a1⟩, f0, f1⟩ := HA1.out))
  clear B1 B2 B3 HA1 HB1 HP1 HY1 HA2 HB2 HP2 HY2 HA3 HB3 HP3 HY3 qa qb qp HA HB HP HY HE BW
  obtain ⟨W4, hW4⟩ : ∃ W, set2 w4 (w.heap.size + 1 + 1) (.int .i64 Px) (.int .i64 Py) = W := ⟨_, rfl⟩
  have HA : Hid (Box W4 (w.heap.size) (.int .i64 Ax) (.int .i64 Ay)) := by rw [← hW4]; exact HA4.out.far (by omega) _ _
  have HB : Hid (Box W4 (w.heap.size + 1) (.int .i64 Bx) (.int .i64 By)) := by rw [← hW4]; exact HB4.out.far (by omega) _ _
  have HP : Hid (Box W4 (w.heap.size + 1 + 1) (.int .i64 Px) (.int .i64 Py)) := by rw [← hW4]; exact HP4.out.set _ _
  have HY : Hid (Box W4 (w.heap.size + 1 + 1 + 1) (.int .i64 yx) (.int .i64 yy)) := by rw [← hW4]; exact HY4.out.far (by omega) _ _
  have BW : Hid (Below w.heap.size w W4) := by rw [← hW4]; exact below_set2 B4.out (by omega) _ _
  unfold set2 at hW4
  rw [hW4]
  clear hW4
  clear HA4 HB4 HP4 HY4 B4 a0 a1 f0 f1
  obtain ⟨⟨_, a0, a1⟩, fa0, fa1⟩ := HA.out
  obtain ⟨⟨_, b0, b1⟩, fb0, fb1⟩ := HB.out
  obtain ⟨⟨_, c0, c1⟩, fc0, fc1⟩ := HP.out
  go_upto_region 10 with fail
  have HA4 := HA
  have HB4 := HB
  have HP4 := HP
  have HY4 := HY
  have B4 := BW
  clear HA HB HP HY BW a0 a1 fa0 fa1 b0 b1 fb0 fb1 c0 c1 fc0 fc1
  obtain ⟨W5, hW5⟩ : ∃ W, set2 (set2 (set2 W4 w.heap.size (.int .i64 A0) (.int .i64 A1)) (w.heap.size + 1) (.int .i64 B0) (.int .i64 B1)) (w.heap.size + 1 + 1) (.int .i64 P0) (.int .i64 P1) = W := ⟨_, rfl⟩
  have HA : Hid (Box W5 (w.heap.size) (.int .i64 A0) (.int .i64 A1)) := by rw [← hW5]; exact ((HA4.out.set _ _).far (by omega) _ _).far (by omega) _ _
  have HB : Hid (Box W5 (w.heap.size + 1) (.int .i64 B0) (.int .i64 B1)) := by rw [← hW5]; exact ((HB4.out.far (by omega) _ _).set _ _).far (by omega) _ _
  have HP : Hid (Box W5 (w.heap.size + 1 + 1) (.int .i64 P0) (.int .i64 P1)) := by rw [← hW5]; exact ((HP4.out.far (by omega) _ _).far (by omega) _ _).set _ _
  have HY : Hid (Box W5 (w.heap.size + 1 + 1 + 1) (.int .i64 yx) (.int .i64 yy)) := by rw [← hW5]; exact ((HY4.out.far (by omega) _ _).far (by omega) _ _).far (by omega) _ _
  have BW : Hid (Below w.heap.size w W5) := by rw [← hW5]; exact below_set2 (below_set2 (below_set2 B4.out (by omega) _ _) (by omega) _ _) (by omega) _ _
  unfold set2 at hW5
  rw [hW5]
  clear hW5
  clear HA4 HB4 HP4 HY4 B4
  obtain ⟨⟨_, a0, a1⟩, f0, f1⟩ := HY.out
  go_upto_region 11 with (first
    | (go_at_call 9; refine (qy.out W5).mono ?_; rintro e w6 ⟨rfl, hb6⟩
       have B6 : Hid (Below w.heap.size w w6) := chain BW.out hb6
       have HA6 : Hid (Box w6 (w.heap.size) (.int .i64 A0) (.int .i64 A1)) := HA.out.below hb6
       have HB6 : Hid (Box w6 (w.heap.size + 1) (.int .i64 B0) (.int .i64 B1)) := HB.out.below hb6
       have HP6 : Hid (Box w6 (w.heap.size + 1 + 1) (.int .i64 P0) (.int .i64 P1)) := HP.out.below hb6
       have HY6 : Hid (Box w6 (w.heap.size + 1 + 1 + 1) (.int .i64 yx) (.int .i64 yy)) := HY.out.below hb6
       clear hb6
       obtain ⟨⟨_, b0, b1⟩, g0, g1⟩ := HY6.out))
  clear HA HB HP HY BW a0 a1 f0 f1 b0 b1 g0 g1 qy
  obtain ⟨W7, hW7⟩ : ∃ W, set2 w6 (w.heap.size + 1 + 1 + 1) (.int .i64 Yx) (.int .i64 Yy) = W := ⟨_, rfl⟩
  have HA : Hid (Box W7 (w.heap.size) (.int .i64 A0) (.int .i64 A1)) := by rw [← hW7]; exact HA6.out.far (by omega) _ _
  have HB : Hid (Box W7 (w.heap.size + 1) (.int .i64 B0) (.int .i64 B1)) := by rw [← hW7]; exact HB6.out.far (by omega) _ _
  have HP : Hid (Box W7 (w.heap.size + 1 + 1) (.int .i64 P0) (.int .i64 P1)) := by rw [← hW7]; exact HP6.out.far (by omega) _ _
  have HY : Hid (Box W7 (w.heap.size + 1 + 1 + 1) (.int .i64 Yx) (.int .i64 Yy)) := by rw [← hW7]; exact HY6.out.set _ _
  have BW : Hid (Below w.heap.size w W7) := by rw [← hW7]; exact below_set2 B6.out (by omega) _ _
  unfold set2 at hW7
  rw [hW7]
  clear hW7
  clear HA6 HB6 HP6 HY6 B6
  obtain ⟨⟨_, a0, a1⟩, f0, f1⟩ := HY.out
  go_upto_region 12 with fail
  have HA7 := HA
  have HB7 := HB
  have HP7 := HP
  have HY7 := HY
  have B7 := BW
  clear HA HB HP HY BW a0 a1 f0 f1
  obtain ⟨W8, hW8⟩ : ∃ W, set2 W7 (w.heap.size + 1 + 1 + 1) (.int .i64 Y0) (.int .i64 Y1) = W := ⟨_, rfl⟩
  have HA : Hid (Box W8 (w.heap.size) (.int .i64 A0) (.int .i64 A1)) := by rw [← hW8]; exact HA7.out.far (by omega) _ _
  have HB : Hid (Box W8 (w.heap.size + 1) (.int .i64 B0) (.int .i64 B1)) := by rw [← hW8]; exact HB7.out.far (by omega) _ _
  have HP : Hid (Box W8 (w.heap.size + 1 + 1) (.int .i64 P0) (.int .i64 P1)) := by rw [← hW8]; exact HP7.out.far (by omega) _ _
  have HY : Hid (Box W8 (w.heap.size + 1 + 1 + 1) (.int .i64 Y0) (.int .i64 Y1)) := by rw [← hW8]; exact HY7.out.set _ _
  have BW : Hid (Below w.heap.size w W8) := by rw [← hW8]; exact below_set2 B7.out (by omega) _ _
  unfold set2 at hW8
  rw [hW8]
  clear hW8
  clear HA7 HB7 HP7 HY7 B7
  clear e1 e2 e3 e4 e5 e6 e7 e8 z1 z2 z3 z4 z5 z6 z7 z8
  go_upto_if 57 with fail
  go_cut [4] from 58 (fun s x => s = .int .i64 n ∧ W8 = x)
  case first =>
    rcases HN.out with ⟨n0, n1, hn⟩ | ⟨n0, rfl⟩
    · go_wp2_with fail
      go_meet
      case rel => exact ⟨rfl, rfl⟩
    · go_wp2_with fail
      go_meet
      case rel => exact ⟨rfl, rfl⟩
  case rest =>
    obtain ⟨rfl, rfl⟩ := hcut
    clear HN
    obtain ⟨⟨_, a0, a1⟩, -, -⟩ := HA.out
    obtain ⟨⟨_, b0, b1⟩, -, -⟩ := HB.out
    obtain ⟨⟨_, c0, c1⟩, -, -⟩ := HP.out
    go_upto_region 17 with (first
      | (go_at_call 21; refine (kq.out _).mono ?_; rintro e w9 ⟨rfl, rfl⟩)
      | (go_at_call 16; refine (kn.out W8).mono ?_; rintro e w9 ⟨rfl, hb9⟩))
    clear a0 a1 b0 b1 c0 c1
    obtain ⟨ca0, ca1⟩ := Grown.two (HA.out.below hb9).1
    obtain ⟨cb0, cb1⟩ := Grown.two (HB.out.below hb9).1
    obtain ⟨cp0, cp1⟩ := Grown.two (HP.out.below hb9).1
    obtain ⟨cy0, cy1⟩ := Grown.two (HY.out.below hb9).1
    have hne := Grown.some w9
    refine wp_region_grow (by kernel_rfl) (by kernel_rfl) ?_
    repeat (go_big_quiet_step (first
      | (with_reducible exact grow_of (ta.out _))
      | (with_reducible exact grow_of (tb.out _))
      | (with_reducible exact grow_of (tp.out _))
      | (with_reducible exact grow_of (knt.out _))))
    refine wpQuiet_nil ?_
    rintro _ ⟨g1, rfl⟩
    clear ca0 ca1 cb0 cb1 cp0 cp1 cy0 cy1 hne
    have hb10 : Hid (Below W8.heap.size W8 g1.w) := chain hb9 g1.below
    go_wp2
    obtain ⟨ca0, ca1⟩ := Grown.two (HA.out.below hb10.out).1
    obtain ⟨cb0, cb1⟩ := Grown.two (HB.out.below hb10.out).1
    obtain ⟨cp0, cp1⟩ := Grown.two (HP.out.below hb10.out).1
    obtain ⟨cy0, cy1⟩ := Grown.two (HY.out.below hb10.out).1
    have hne := Grown.some g1.w
    refine wp_region_grow (by kernel_rfl) (by kernel_rfl) ?_
    repeat (go_big_quiet_step (first
      | (with_reducible exact grow_of (ma.out _))
      | (with_reducible exact grow_of (mb.out _))
      | (with_reducible exact grow_of (mp.out _))
      | (with_reducible exact grow_of (knm.out _))))
    refine wpQuiet_nil ?_
    rintro _ ⟨g2, rfl⟩
    clear ca0 ca1 cb0 cb1 cp0 cp1 cy0 cy1 hne
    have hb11 : Hid (Below W8.heap.size W8 g2.w) := chain hb10.out g2.below
    clear hb9 hb10 kn knt knm ma mb mp
    go_wp2
    dsimp only [List.append]
    cases R
    · clear HR knw
      obtain ⟨ca0, ca1⟩ := Grown.two (HA.out.below hb11.out).1
      obtain ⟨cb0, cb1⟩ := Grown.two (HB.out.below hb11.out).1
      obtain ⟨cp0, cp1⟩ := Grown.two (HP.out.below hb11.out).1
      obtain ⟨cy0, cy1⟩ := Grown.two (HY.out.below hb11.out).1
      have hne := Grown.some g2.w
      refine wp_region_grow (by kernel_rfl) (by kernel_rfl) ?_
      repeat (go_big_quiet_step (first
        | (with_reducible exact grow_of (kns.out _))
        | (with_reducible exact grow_of (kna.out _))
        | (with_reducible exact grow_of (knb.out _))
              | (with_reducible exact grow_of (kx.out _))
        | (with_reducible exact grow_of (kxs.out _))
        | (with_reducible exact grow_of (kxt.out _))
        | (with_reducible exact grow_of (ta.out _))
        | (with_reducible exact grow_of (tb.out _))
        | (with_reducible exact grow_of (tp.out _))
        | (with_reducible exact grow_of (kl.out _))
        | (with_reducible exact grow_of (kls.out _))))
      refine wpQuiet_nil ?_
      rintro _ ⟨g3, rfl⟩
      clear ca0 ca1 cb0 cb1 cp0 cp1 cy0 cy1 hne
      go_wp2
      go_ret
      exact ⟨by simp, chain BW.out (chain hb11.out g3.below)⟩
    · obtain rfl : R2 = true := HR.out rfl
      clear HR
      obtain ⟨ca0, ca1⟩ := Grown.two (HA.out.below hb11.out).1
      obtain ⟨cb0, cb1⟩ := Grown.two (HB.out.below hb11.out).1
      obtain ⟨cp0, cp1⟩ := Grown.two (HP.out.below hb11.out).1
      obtain ⟨cy0, cy1⟩ := Grown.two (HY.out.below hb11.out).1
      have hne := Grown.some g2.w
      refine wp_region_grow (by kernel_rfl) (by kernel_rfl) ?_
      repeat (go_big_quiet_step (first
        | (with_reducible exact grow_of (kns.out _))
        | (with_reducible exact grow_of (kna.out _))
        | (with_reducible exact grow_of (knb.out _))
        | (with_reducible exact grow_of (knw.out _))
        | (with_reducible exact grow_of (kx.out _))
        | (with_reducible exact grow_of (kxs.out _))
        | (with_reducible exact grow_of (kxt.out _))
        | (with_reducible exact grow_of (ta.out _))
        | (with_reducible exact grow_of (tb.out _))
        | (with_reducible exact grow_of (tp.out _))
        | (with_reducible exact grow_of (kl.out _))
        | (with_reducible exact grow_of (kls.out _))))
      refine wpQuiet_nil ?_
      rintro _ ⟨g3, rfl⟩
      clear ca0 ca1 cb0 cb1 cp0 cp1 cy0 cy1 hne
      go_wp2
      go_ret
      exact ⟨by simp, chain BW.out (chain hb11.out g3.below)⟩

end Go.Proofs.Ytfcpflicfnmkiaa

/-
  What Check says of a segment, walked over the program: one road for each kind.
-/
import Derived.Test.YtcnlkdoifogkbaaGreatDoorIconPaint2
namespace Go.Proofs.YtcnlkdoifogkbaaGreatDoor
open Go.RowKit

set_option maxRecDepth 20000 in
set_option maxHeartbeats 1000000 in
theorem seg1 (A : Nat → Addr) (far n ax ay bx b_y cx cy : Int) (ta : Bool) (w : World) (hE : Errs3 w A)
    (ka : Hid (∀ w, Calls Tryz.prog 99 #[.agg #[.int .i64 far, .int .i64 n], .agg #[.int .i64 ax, .int .i64 ay]] w fun e w' => e = .returned (.bool ta) ∧ Below w.heap.size w w'))
    : Calls Tryz.prog 100 #[.agg #[.int .i64 far, .int .i64 n], .agg #[.int .i64 1, .int .i64 ax, .int .i64 ay, .int .i64 bx, .int .i64 b_y, .int .i64 cx, .int .i64 cy]] w fun e w' => e = .returned (errv A (if !(ta) then 1 else if !(((bx == 0) && (b_y == 0)) && ((cx == 0) && (cy == 0))) then 3 else 0)) ∧ Below w.heap.size w w' := by
  have kk : Hid (∀ w, Calls Tryz.prog 101 #[.int .i64 1] w fun e w' => e = .returned (.bool true) ∧ w' = w) := fun w => segkind_any 1 w
  have e0 := hE.c0
  have s0 := hE.s0
  have p0 := hE.pos
  have e2 := hE.c2
  have s2 := hE.s2
  clear hE
  have B0 : Hid (Below w.heap.size w ((w.alloc (.cells #[.int .i64 far, .int .i64 n] 107)).alloc (.cells #[.int .i64 1, .int .i64 ax, .int .i64 ay, .int .i64 bx, .int .i64 b_y, .int .i64 cx, .int .i64 cy] 103))) := ((Below.refl _ _).alloc (by omega) _).alloc (by simp) _
  go_enter Tryz.func100, Tryz.ntmps100
  go_wp2_with (go_at_call 101; refine (kk.out _).mono ?_; rintro e w1 ⟨rfl, rfl⟩)
  go_loopw [19] (fun i wr => ∃ j : Nat, j ≤ 1 ∧ i = .int .i64 j ∧ (0 < j → ta = true) ∧ Hid (Below ((w.alloc (.cells #[.int .i64 far, .int .i64 n] 107)).alloc (.cells #[.int .i64 1, .int .i64 ax, .int .i64 ay, .int .i64 bx, .int .i64 b_y, .int .i64 cx, .int .i64 cy] 103)).heap.size ((w.alloc (.cells #[.int .i64 far, .int .i64 n] 107)).alloc (.cells #[.int .i64 1, .int .i64 ax, .int .i64 ay, .int .i64 bx, .int .i64 b_y, .int .i64 cx, .int .i64 cy] 103)) wr)) (fun i _ => 1 - (intOf i).toNat)
  case atStart => exact ⟨0, by omega, rfl, (by omega), Below.refl _ _⟩
  case round =>
    obtain ⟨j, hj, rfl, ga, HB⟩ := hrel
    obtain ⟨p, q, r⟩ := boxes2 HB.out
    obtain ⟨z1, z2⟩ := sizes2 HB.out
    have y0 : 0 < wr.heap.size := by omega
    have y1 : 1 < wr.heap.size := by omega
    have hcase : j = 0 ∨ j = 1 := by omega
    rcases hcase with rfl | rfl
    · cases ta
      · go_wp2_with (go_at_call 99; refine (ka.out _).mono ?_; rintro e w1 ⟨rfl, hb1⟩; obtain ⟨_, r1⟩ := boxes1 hb1)
        all_goals
          go_ret
          exact ⟨ret_v (by simp [errv]), chain (chain (chain B0.out HB.out) ((Below.refl _ _).alloc (by omega) _)) hb1⟩
      · go_wp2_with (go_at_call 99; refine (ka.out _).mono ?_; rintro e w1 ⟨rfl, hb1⟩)
        go_roundw
        case rel => exact ⟨1, by omega, by go_num, (fun _ => by first | trivial | rfl | exact ga (by omega) | omega), chain (chain HB.out ((Below.refl _ _).alloc (by omega) _)) hb1⟩
        case measure => simp [intOf]
    · have ha := ga (by omega)
      subst ha
      clear ga
      go_wp2
      rename World => wa
      go_loopw [34] (fun i wr => ∃ j : Nat, j ≤ 2 ∧ i = .int .i64 j ∧ (0 < j → (bx == 0) = true ∧ (b_y == 0) = true) ∧ (1 < j → (cx == 0) = true ∧ (cy == 0) = true) ∧ Hid (Below ((w.alloc (.cells #[.int .i64 far, .int .i64 n] 107)).alloc (.cells #[.int .i64 1, .int .i64 ax, .int .i64 ay, .int .i64 bx, .int .i64 b_y, .int .i64 cx, .int .i64 cy] 103)).heap.size ((w.alloc (.cells #[.int .i64 far, .int .i64 n] 107)).alloc (.cells #[.int .i64 1, .int .i64 ax, .int .i64 ay, .int .i64 bx, .int .i64 b_y, .int .i64 cx, .int .i64 cy] 103)) wr)) (fun i _ => 2 - (intOf i).toNat)
      case atStart => exact ⟨0, by omega, rfl, (by omega), (by omega), HB⟩
      case round =>
        obtain ⟨j, hj, rfl, zb, zc, HC⟩ := hrel
        clear p q r z1 z2 y0
        obtain ⟨p, q, r⟩ := boxes2 HC.out
        obtain ⟨z1, z2⟩ := sizes2 HC.out
        have y2 : 2 < wr.heap.size := by omega
        have hcase : j = 0 ∨ j = 1 ∨ j = 2 := by omega
        rcases hcase with rfl | rfl | rfl
        · cases hx : (bx == 0) <;> cases hy : (b_y == 0)
          case true.true =>
            go_wp2
            go_roundw
            case rel => exact ⟨1, by omega, by go_num, (fun _ => by first | exact ⟨hx, hy⟩ | simp | exact zb (by omega)), (fun _ => by first | exact zc (by omega) | simp | omega), chain HC.out ((Below.refl _ _).alloc (by omega) _)⟩
            case measure => simp [intOf]
          all_goals
            go_wp2
            go_ret
            exact ⟨ret_v (by simp [errv]), chain (chain B0.out HC.out) ((Below.refl _ _).alloc (by omega) _)⟩
        · cases hx : (cx == 0) <;> cases hy : (cy == 0)
          case true.true =>
            go_wp2
            go_roundw
            case rel => exact ⟨2, by omega, by go_num, (fun _ => by first | exact zb (by omega) | simp | omega), (fun _ => by first | exact ⟨hx, hy⟩ | simp | exact zc (by omega)), chain HC.out ((Below.refl _ _).alloc (by omega) _)⟩
            case measure => simp [intOf]
          all_goals
            go_wp2
            go_ret
            exact ⟨ret_v (by simp [errv]), chain (chain B0.out HC.out) ((Below.refl _ _).alloc (by omega) _)⟩
        · obtain ⟨ub, vb⟩ := zb (by omega)
          obtain ⟨uc, vc⟩ := zc (by omega)
          go_wp2
          go_ret
          exact ⟨ret_v (by simp [errv]), chain B0.out HC.out⟩

set_option maxRecDepth 20000 in
set_option maxHeartbeats 1000000 in
theorem seg2 (A : Nat → Addr) (far n ax ay bx b_y cx cy : Int) (ta tb : Bool) (w : World) (hE : Errs3 w A)
    (ka : Hid (∀ w, Calls Tryz.prog 99 #[.agg #[.int .i64 far, .int .i64 n], .agg #[.int .i64 ax, .int .i64 ay]] w fun e w' => e = .returned (.bool ta) ∧ Below w.heap.size w w'))
    (kb : Hid (∀ w, Calls Tryz.prog 99 #[.agg #[.int .i64 far, .int .i64 n], .agg #[.int .i64 bx, .int .i64 b_y]] w fun e w' => e = .returned (.bool tb) ∧ Below w.heap.size w w'))
    : Calls Tryz.prog 100 #[.agg #[.int .i64 far, .int .i64 n], .agg #[.int .i64 2, .int .i64 ax, .int .i64 ay, .int .i64 bx, .int .i64 b_y, .int .i64 cx, .int .i64 cy]] w fun e w' => e = .returned (errv A (if !(ta && tb) then 1 else if !(((cx == 0) && (cy == 0))) then 3 else 0)) ∧ Below w.heap.size w w' := by
  have kk : Hid (∀ w, Calls Tryz.prog 101 #[.int .i64 2] w fun e w' => e = .returned (.bool true) ∧ w' = w) := fun w => segkind_any 2 w
  have e0 := hE.c0
  have s0 := hE.s0
  have p0 := hE.pos
  have e2 := hE.c2
  have s2 := hE.s2
  clear hE
  have B0 : Hid (Below w.heap.size w ((w.alloc (.cells #[.int .i64 far, .int .i64 n] 107)).alloc (.cells #[.int .i64 2, .int .i64 ax, .int .i64 ay, .int .i64 bx, .int .i64 b_y, .int .i64 cx, .int .i64 cy] 103))) := ((Below.refl _ _).alloc (by omega) _).alloc (by simp) _
  go_enter Tryz.func100, Tryz.ntmps100
  go_wp2_with (go_at_call 101; refine (kk.out _).mono ?_; rintro e w1 ⟨rfl, rfl⟩)
  go_loopw [19] (fun i wr => ∃ j : Nat, j ≤ 2 ∧ i = .int .i64 j ∧ (0 < j → ta = true) ∧ (1 < j → tb = true) ∧ Hid (Below ((w.alloc (.cells #[.int .i64 far, .int .i64 n] 107)).alloc (.cells #[.int .i64 2, .int .i64 ax, .int .i64 ay, .int .i64 bx, .int .i64 b_y, .int .i64 cx, .int .i64 cy] 103)).heap.size ((w.alloc (.cells #[.int .i64 far, .int .i64 n] 107)).alloc (.cells #[.int .i64 2, .int .i64 ax, .int .i64 ay, .int .i64 bx, .int .i64 b_y, .int .i64 cx, .int .i64 cy] 103)) wr)) (fun i _ => 2 - (intOf i).toNat)
  case atStart => exact ⟨0, by omega, rfl, (by omega), (by omega), Below.refl _ _⟩
  case round =>
    obtain ⟨j, hj, rfl, ga, gb, HB⟩ := hrel
    obtain ⟨p, q, r⟩ := boxes2 HB.out
    obtain ⟨z1, z2⟩ := sizes2 HB.out
    have y0 : 0 < wr.heap.size := by omega
    have y1 : 1 < wr.heap.size := by omega
    have hcase : j = 0 ∨ j = 1 ∨ j = 2 := by omega
    rcases hcase with rfl | rfl | rfl
    · cases ta
      · go_wp2_with (go_at_call 99; refine (ka.out _).mono ?_; rintro e w1 ⟨rfl, hb1⟩; obtain ⟨_, r1⟩ := boxes1 hb1)
        all_goals
          go_ret
          exact ⟨ret_v (by simp [errv]), chain (chain (chain B0.out HB.out) ((Below.refl _ _).alloc (by omega) _)) hb1⟩
      · go_wp2_with (go_at_call 99; refine (ka.out _).mono ?_; rintro e w1 ⟨rfl, hb1⟩)
        go_roundw
        case rel => exact ⟨1, by omega, by go_num, (fun _ => by first | trivial | rfl | exact ga (by omega) | omega), (fun _ => by first | trivial | rfl | exact gb (by omega) | omega), chain (chain HB.out ((Below.refl _ _).alloc (by omega) _)) hb1⟩
        case measure => simp [intOf]
    · cases tb
      · go_wp2_with (go_at_call 99; refine (kb.out _).mono ?_; rintro e w1 ⟨rfl, hb1⟩; obtain ⟨_, r1⟩ := boxes1 hb1)
        all_goals
          go_ret
          exact ⟨ret_v (by simp [errv]), chain (chain (chain B0.out HB.out) ((Below.refl _ _).alloc (by omega) _)) hb1⟩
      · go_wp2_with (go_at_call 99; refine (kb.out _).mono ?_; rintro e w1 ⟨rfl, hb1⟩)
        go_roundw
        case rel => exact ⟨2, by omega, by go_num, (fun _ => by first | trivial | rfl | exact ga (by omega) | omega), (fun _ => by first | trivial | rfl | exact gb (by omega) | omega), chain (chain HB.out ((Below.refl _ _).alloc (by omega) _)) hb1⟩
        case measure => simp [intOf]
    · have ha := ga (by omega)
      have hb := gb (by omega)
      subst ha hb
      clear ga gb
      go_wp2
      rename World => wa
      go_loopw [34] (fun i wr => ∃ j : Nat, j ≤ 1 ∧ i = .int .i64 j ∧ (0 < j → (cx == 0) = true ∧ (cy == 0) = true) ∧ Hid (Below ((w.alloc (.cells #[.int .i64 far, .int .i64 n] 107)).alloc (.cells #[.int .i64 2, .int .i64 ax, .int .i64 ay, .int .i64 bx, .int .i64 b_y, .int .i64 cx, .int .i64 cy] 103)).heap.size ((w.alloc (.cells #[.int .i64 far, .int .i64 n] 107)).alloc (.cells #[.int .i64 2, .int .i64 ax, .int .i64 ay, .int .i64 bx, .int .i64 b_y, .int .i64 cx, .int .i64 cy] 103)) wr)) (fun i _ => 1 - (intOf i).toNat)
      case atStart => exact ⟨0, by omega, rfl, (by omega), HB⟩
      case round =>
        obtain ⟨j, hj, rfl, zc, HC⟩ := hrel
        clear p q r z1 z2 y0
        obtain ⟨p, q, r⟩ := boxes2 HC.out
        obtain ⟨z1, z2⟩ := sizes2 HC.out
        have y2 : 2 < wr.heap.size := by omega
        have hcase : j = 0 ∨ j = 1 := by omega
        rcases hcase with rfl | rfl
        · cases hx : (cx == 0) <;> cases hy : (cy == 0)
          case true.true =>
            go_wp2
            go_roundw
            case rel => exact ⟨1, by omega, by go_num, (fun _ => by first | exact ⟨hx, hy⟩ | simp | exact zc (by omega)), chain HC.out ((Below.refl _ _).alloc (by omega) _)⟩
            case measure => simp [intOf]
          all_goals
            go_wp2
            go_ret
            exact ⟨ret_v (by simp [errv]), chain (chain B0.out HC.out) ((Below.refl _ _).alloc (by omega) _)⟩
        · obtain ⟨uc, vc⟩ := zc (by omega)
          go_wp2
          go_ret
          exact ⟨ret_v (by simp [errv]), chain B0.out HC.out⟩

set_option maxRecDepth 20000 in
set_option maxHeartbeats 1000000 in
theorem seg3 (A : Nat → Addr) (far n ax ay bx b_y cx cy : Int) (ta tb tc : Bool) (w : World) (hE : Errs3 w A)
    (ka : Hid (∀ w, Calls Tryz.prog 99 #[.agg #[.int .i64 far, .int .i64 n], .agg #[.int .i64 ax, .int .i64 ay]] w fun e w' => e = .returned (.bool ta) ∧ Below w.heap.size w w'))
    (kb : Hid (∀ w, Calls Tryz.prog 99 #[.agg #[.int .i64 far, .int .i64 n], .agg #[.int .i64 bx, .int .i64 b_y]] w fun e w' => e = .returned (.bool tb) ∧ Below w.heap.size w w'))
    (kc : Hid (∀ w, Calls Tryz.prog 99 #[.agg #[.int .i64 far, .int .i64 n], .agg #[.int .i64 cx, .int .i64 cy]] w fun e w' => e = .returned (.bool tc) ∧ Below w.heap.size w w'))
    : Calls Tryz.prog 100 #[.agg #[.int .i64 far, .int .i64 n], .agg #[.int .i64 3, .int .i64 ax, .int .i64 ay, .int .i64 bx, .int .i64 b_y, .int .i64 cx, .int .i64 cy]] w fun e w' => e = .returned (errv A (if !(ta && tb && tc) then 1 else if !(true) then 3 else 0)) ∧ Below w.heap.size w w' := by
  have kk : Hid (∀ w, Calls Tryz.prog 101 #[.int .i64 3] w fun e w' => e = .returned (.bool true) ∧ w' = w) := fun w => segkind_any 3 w
  have e0 := hE.c0
  have s0 := hE.s0
  have p0 := hE.pos
  have e2 := hE.c2
  have s2 := hE.s2
  clear hE
  have B0 : Hid (Below w.heap.size w ((w.alloc (.cells #[.int .i64 far, .int .i64 n] 107)).alloc (.cells #[.int .i64 3, .int .i64 ax, .int .i64 ay, .int .i64 bx, .int .i64 b_y, .int .i64 cx, .int .i64 cy] 103))) := ((Below.refl _ _).alloc (by omega) _).alloc (by simp) _
  go_enter Tryz.func100, Tryz.ntmps100
  go_wp2_with (go_at_call 101; refine (kk.out _).mono ?_; rintro e w1 ⟨rfl, rfl⟩)
  go_loopw [19] (fun i wr => ∃ j : Nat, j ≤ 3 ∧ i = .int .i64 j ∧ (0 < j → ta = true) ∧ (1 < j → tb = true) ∧ (2 < j → tc = true) ∧ Hid (Below ((w.alloc (.cells #[.int .i64 far, .int .i64 n] 107)).alloc (.cells #[.int .i64 3, .int .i64 ax, .int .i64 ay, .int .i64 bx, .int .i64 b_y, .int .i64 cx, .int .i64 cy] 103)).heap.size ((w.alloc (.cells #[.int .i64 far, .int .i64 n] 107)).alloc (.cells #[.int .i64 3, .int .i64 ax, .int .i64 ay, .int .i64 bx, .int .i64 b_y, .int .i64 cx, .int .i64 cy] 103)) wr)) (fun i _ => 3 - (intOf i).toNat)
  case atStart => exact ⟨0, by omega, rfl, (by omega), (by omega), (by omega), Below.refl _ _⟩
  case round =>
    obtain ⟨j, hj, rfl, ga, gb, gc, HB⟩ := hrel
    obtain ⟨p, q, r⟩ := boxes2 HB.out
    obtain ⟨z1, z2⟩ := sizes2 HB.out
    have y0 : 0 < wr.heap.size := by omega
    have y1 : 1 < wr.heap.size := by omega
    have hcase : j = 0 ∨ j = 1 ∨ j = 2 ∨ j = 3 := by omega
    rcases hcase with rfl | rfl | rfl | rfl
    · cases ta
      · go_wp2_with (go_at_call 99; refine (ka.out _).mono ?_; rintro e w1 ⟨rfl, hb1⟩; obtain ⟨_, r1⟩ := boxes1 hb1)
        all_goals
          go_ret
          exact ⟨ret_v (by simp [errv]), chain (chain (chain B0.out HB.out) ((Below.refl _ _).alloc (by omega) _)) hb1⟩
      · go_wp2_with (go_at_call 99; refine (ka.out _).mono ?_; rintro e w1 ⟨rfl, hb1⟩)
        go_roundw
        case rel => exact ⟨1, by omega, by go_num, (fun _ => by first | trivial | rfl | exact ga (by omega) | omega), (fun _ => by first | trivial | rfl | exact gb (by omega) | omega), (fun _ => by first | trivial | rfl | exact gc (by omega) | omega), chain (chain HB.out ((Below.refl _ _).alloc (by omega) _)) hb1⟩
        case measure => simp [intOf]
    · cases tb
      · go_wp2_with (go_at_call 99; refine (kb.out _).mono ?_; rintro e w1 ⟨rfl, hb1⟩; obtain ⟨_, r1⟩ := boxes1 hb1)
        all_goals
          go_ret
          exact ⟨ret_v (by simp [errv]), chain (chain (chain B0.out HB.out) ((Below.refl _ _).alloc (by omega) _)) hb1⟩
      · go_wp2_with (go_at_call 99; refine (kb.out _).mono ?_; rintro e w1 ⟨rfl, hb1⟩)
        go_roundw
        case rel => exact ⟨2, by omega, by go_num, (fun _ => by first | trivial | rfl | exact ga (by omega) | omega), (fun _ => by first | trivial | rfl | exact gb (by omega) | omega), (fun _ => by first | trivial | rfl | exact gc (by omega) | omega), chain (chain HB.out ((Below.refl _ _).alloc (by omega) _)) hb1⟩
        case measure => simp [intOf]
    · cases tc
      · go_wp2_with (go_at_call 99; refine (kc.out _).mono ?_; rintro e w1 ⟨rfl, hb1⟩; obtain ⟨_, r1⟩ := boxes1 hb1)
        all_goals
          go_ret
          exact ⟨ret_v (by simp [errv]), chain (chain (chain B0.out HB.out) ((Below.refl _ _).alloc (by omega) _)) hb1⟩
      · go_wp2_with (go_at_call 99; refine (kc.out _).mono ?_; rintro e w1 ⟨rfl, hb1⟩)
        go_roundw
        case rel => exact ⟨3, by omega, by go_num, (fun _ => by first | trivial | rfl | exact ga (by omega) | omega), (fun _ => by first | trivial | rfl | exact gb (by omega) | omega), (fun _ => by first | trivial | rfl | exact gc (by omega) | omega), chain (chain HB.out ((Below.refl _ _).alloc (by omega) _)) hb1⟩
        case measure => simp [intOf]
    · have ha := ga (by omega)
      have hb := gb (by omega)
      have hc := gc (by omega)
      subst ha hb hc
      clear ga gb gc
      go_wp2
      rename World => wa
      go_loopw [34] (fun i wr => ∃ j : Nat, j ≤ 0 ∧ i = .int .i64 j ∧ Hid (Below ((w.alloc (.cells #[.int .i64 far, .int .i64 n] 107)).alloc (.cells #[.int .i64 3, .int .i64 ax, .int .i64 ay, .int .i64 bx, .int .i64 b_y, .int .i64 cx, .int .i64 cy] 103)).heap.size ((w.alloc (.cells #[.int .i64 far, .int .i64 n] 107)).alloc (.cells #[.int .i64 3, .int .i64 ax, .int .i64 ay, .int .i64 bx, .int .i64 b_y, .int .i64 cx, .int .i64 cy] 103)) wr)) (fun i _ => 0 - (intOf i).toNat)
      case atStart => exact ⟨0, by omega, rfl,  HB⟩
      case round =>
        obtain ⟨j, hj, rfl, HC⟩ := hrel
        clear p q r z1 z2 y0
        obtain ⟨p, q, r⟩ := boxes2 HC.out
        obtain ⟨z1, z2⟩ := sizes2 HC.out
        have y2 : 2 < wr.heap.size := by omega
        have hcase : j = 0 := by omega
        rcases hcase with rfl
        · go_wp2
          go_ret
          exact ⟨ret_v (by simp [errv]), chain B0.out HC.out⟩

theorem seg_any (A : Nat → Addr) (far n : Int) (s : IC.Seg) (w : World) (hE : Errs3 w A) (hf : 0 ≤ far ∧ far ≤ 1099511627776) :
    Calls Tryz.prog 100 #[.agg #[.int .i64 far, .int .i64 n], .agg s.cells.toArray] w fun e w' => e = .returned (errv A (IC.chkSeg far s)) ∧ Below w.heap.size w w' := by
  obtain ⟨k, ⟨ax, ay⟩, ⟨bx, b_y⟩, ⟨cx, cy⟩⟩ := s
  cases hk : IC.within k 1 3
  · have kk : Hid (∀ w, Calls Tryz.prog 101 #[.int .i64 k] w fun e w' => e = .returned (.bool (IC.within k 1 3)) ∧ w' = w) := fun w => segkind_any k w
    rw [hk] at kk
    have e : IC.chkSeg far ⟨k, ⟨ax, ay⟩, ⟨bx, b_y⟩, ⟨cx, cy⟩⟩ = 1 := by unfold IC.chkSeg; simp only [hk]; rfl
    rw [e]
    have e0 := hE.c0
    have s0 := hE.s0
    have p0 := hE.pos
    clear hE hk e hf
    simp only [IC.Seg.cells]
    go_enter Tryz.func100, Tryz.ntmps100
    go_wp2_with (go_at_call 101; refine (kk.out _).mono ?_; rintro e w1 ⟨rfl, rfl⟩)
    go_ret
    exact ⟨rfl, ((Below.refl _ _).alloc (by omega) _).alloc (by simp) _⟩
  · have h3 : k = 1 ∨ k = 2 ∨ k = 3 := by simp [IC.within] at hk; omega
    rcases h3 with rfl | rfl | rfl
    · refine (seg1 A far n ax ay bx b_y cx cy _ w hE (fun w => reaches_any far n ax ay w hf)).mono fun e w' h => ?_
      have e1 : IC.chkSeg far ⟨1, ⟨ax, ay⟩, ⟨bx, b_y⟩, ⟨cx, cy⟩⟩ = (if !(IC.reach far ⟨ax, ay⟩) then 1 else if !(((bx == 0) && (b_y == 0)) && ((cx == 0) && (cy == 0))) then 3 else 0) := by
        unfold IC.chkSeg; simp only [hk]; simp [IC.Seg.pts, IC.zero]
      rw [e1]; exact h
    · refine (seg2 A far n ax ay bx b_y cx cy _ _ w hE (fun w => reaches_any far n ax ay w hf) (fun w => reaches_any far n bx b_y w hf)).mono fun e w' h => ?_
      have e1 : IC.chkSeg far ⟨2, ⟨ax, ay⟩, ⟨bx, b_y⟩, ⟨cx, cy⟩⟩ = (if !(IC.reach far ⟨ax, ay⟩ && IC.reach far ⟨bx, b_y⟩) then 1 else if !((cx == 0) && (cy == 0)) then 3 else 0) := by
        unfold IC.chkSeg; simp only [hk]; simp [IC.Seg.pts, IC.zero]
      rw [e1]; exact h
    · refine (seg3 A far n ax ay bx b_y cx cy _ _ _ w hE (fun w => reaches_any far n ax ay w hf) (fun w => reaches_any far n bx b_y w hf) (fun w => reaches_any far n cx cy w hf)).mono fun e w' h => ?_
      have e1 : IC.chkSeg far ⟨3, ⟨ax, ay⟩, ⟨bx, b_y⟩, ⟨cx, cy⟩⟩ = (if !(IC.reach far ⟨ax, ay⟩ && IC.reach far ⟨bx, b_y⟩ && IC.reach far ⟨cx, cy⟩) then 1 else if !true then 3 else 0) := by
        unfold IC.chkSeg; simp only [hk]; simp [IC.Seg.pts, Bool.and_assoc]
      rw [e1]; exact h

end Go.Proofs.YtcnlkdoifogkbaaGreatDoor

/-
  What Check says of a linear and a radial paint, and of any paint, walked over the program.
-/
import Derived.Test.YtcnlkdoifogkbaaGreatDoorIconPaint
namespace Go.Proofs.YtcnlkdoifogkbaaGreatDoor
open Go.RowKit

theorem errv_pos (A : Nat → Addr) {c : Nat} (h : c ≠ 0) : errv A c = .iface 173 (.pointer (some (A (c - 1)))) := by unfold errv; rw [if_neg h]

theorem seg_len (s : IC.Seg) : s.cells.length = 7 := rfl
theorem path_len (s : IC.Path) : s.cells.length = 4 := rfl
theorem cmd_len (s : IC.Cmd) : s.cells.length = 11 := rfl
theorem col_len (s : IC.Col) : s.cells.length = 4 := rfl

set_option maxRecDepth 20000 in
set_option maxHeartbeats 1000000 in
theorem linear_any (A : Nat → Addr) (far n : Int) (p : IC.Paint) (w : World) (hE : Errs3 w A) (hn : 0 ≤ n ∧ n ≤ 1000000) (hf : 0 ≤ far ∧ far ≤ 1099511627776) :
    Calls Tryz.prog 97 #[.agg #[.int .i64 far, .int .i64 n], .agg p.cells.toArray] w fun e w' => e = .returned (errv A (IC.chkLinear far n p)) ∧ Below w.heap.size w w' := by
  obtain ⟨k, a, b, ⟨px, py⟩, ⟨qx, qy⟩⟩ := p
  have k1 : Hid (∀ w, Calls Tryz.prog 114 #[.agg #[.int .i64 far, .int .i64 n], .int .i64 a] w fun e w' => e = .returned (.bool (IC.within a 0 (n - 1))) ∧ Below w.heap.size w w') := fun w => isplace_any far n a w hn
  have k2 : Hid (∀ w, Calls Tryz.prog 114 #[.agg #[.int .i64 far, .int .i64 n], .int .i64 b] w fun e w' => e = .returned (.bool (IC.within b 0 (n - 1))) ∧ Below w.heap.size w w') := fun w => isplace_any far n b w hn
  have k3 : Hid (∀ w, Calls Tryz.prog 99 #[.agg #[.int .i64 far, .int .i64 n], .agg #[.int .i64 px, .int .i64 py]] w fun e w' => e = .returned (.bool (IC.reach far ⟨px, py⟩)) ∧ Below w.heap.size w w') := fun w => reaches_any far n px py w hf
  have k4 : Hid (∀ w, Calls Tryz.prog 99 #[.agg #[.int .i64 far, .int .i64 n], .agg #[.int .i64 qx, .int .i64 qy]] w fun e w' => e = .returned (.bool (IC.reach far ⟨qx, qy⟩)) ∧ Below w.heap.size w w') := fun w => reaches_any far n qx qy w hf
  have e : IC.chkLinear far n ⟨k, a, b, ⟨px, py⟩, ⟨qx, qy⟩⟩ = (if !IC.within a 0 (n - 1) || !IC.within b 0 (n - 1) || !IC.reach far ⟨px, py⟩ || !IC.reach far ⟨qx, qy⟩ || ((px == qx) && (py == qy)) then 1 else 0) := rfl
  rw [e]; clear e
  generalize IC.within a 0 (n - 1) = t1 at k1 ⊢
  generalize IC.within b 0 (n - 1) = t2 at k2 ⊢
  generalize IC.reach far ⟨px, py⟩ = t3 at k3 ⊢
  generalize IC.reach far ⟨qx, qy⟩ = t4 at k4 ⊢
  have e0 := hE.c0
  have s0 := hE.s0
  have p0 := hE.pos
  clear hE hn hf
  simp only [IC.Paint.cells]
  go_enter Tryz.func97, Tryz.ntmps97
  cases t1
  · go_wp2_with (go_at_call 114; refine (k1.out _).mono ?_; rintro e w1 ⟨rfl, hb1⟩; have B1 : Hid (Below _ _ w1) := hb1; obtain ⟨p1, q1, r1⟩ := boxes2 hb1; clear hb1)
    go_ret
    exact ⟨rfl, chain (((Below.refl _ _).alloc (by omega) _).alloc (by simp) _) B1.out⟩
  cases t2
  · go_wp2_with (first
      | (go_at_call 114; (with_reducible refine (k1.out _).mono ?_); rintro e w1 ⟨rfl, hb1⟩; have B1 : Hid (Below _ _ w1) := hb1; obtain ⟨p1, q1, r1⟩ := boxes2 hb1; clear hb1)
      | (go_at_call 114; (with_reducible refine (k2.out _).mono ?_); rintro e w2 ⟨rfl, hb2⟩; have B2 : Hid (Below _ _ w2) := chain B1.out hb2; obtain ⟨p2, q2, r2⟩ := boxes2 B2.out; clear hb2))
    go_ret
    exact ⟨rfl, chain (((Below.refl _ _).alloc (by omega) _).alloc (by simp) _) B2.out⟩
  cases t3
  · go_wp2_with (first
      | (go_at_call 114; (with_reducible refine (k1.out _).mono ?_); rintro e w1 ⟨rfl, hb1⟩; have B1 : Hid (Below _ _ w1) := hb1; obtain ⟨p1, q1, r1⟩ := boxes2 hb1; clear hb1)
      | (go_at_call 114; (with_reducible refine (k2.out _).mono ?_); rintro e w2 ⟨rfl, hb2⟩; have B2 : Hid (Below _ _ w2) := chain B1.out hb2; obtain ⟨p2, q2, r2⟩ := boxes2 B2.out; clear hb2)
      | (go_at_call 99; (with_reducible refine (k3.out _).mono ?_); rintro e w3 ⟨rfl, hb3⟩; have B3 : Hid (Below _ _ w3) := chain B2.out hb3; obtain ⟨p3, q3, r3⟩ := boxes2 B3.out; clear hb3))
    go_ret
    exact ⟨rfl, chain (((Below.refl _ _).alloc (by omega) _).alloc (by simp) _) B3.out⟩
  cases t4 <;>
  · go_wp2_with (first
      | (go_at_call 114; (with_reducible refine (k1.out _).mono ?_); rintro e w1 ⟨rfl, hb1⟩; have B1 : Hid (Below _ _ w1) := hb1; obtain ⟨p1, q1, r1⟩ := boxes2 hb1; clear hb1)
      | (go_at_call 114; (with_reducible refine (k2.out _).mono ?_); rintro e w2 ⟨rfl, hb2⟩; have B2 : Hid (Below _ _ w2) := chain B1.out hb2; obtain ⟨p2, q2, r2⟩ := boxes2 B2.out; clear hb2)
      | (go_at_call 99; (with_reducible refine (k3.out _).mono ?_); rintro e w3 ⟨rfl, hb3⟩; have B3 : Hid (Below _ _ w3) := chain B2.out hb3; obtain ⟨p3, q3, r3⟩ := boxes2 B3.out; clear hb3)
      | (go_at_call 99; (with_reducible refine (k4.out _).mono ?_); rintro e w4 ⟨rfl, hb4⟩; have B4 : Hid (Below _ _ w4) := chain B3.out hb4; obtain ⟨p4, q4, r4⟩ := boxes2 B4.out; clear hb4))
    all_goals
      go_ret
      exact ⟨ret_v (by simp [errv, *]), chain (((Below.refl _ _).alloc (by omega) _).alloc (by simp) _) B4.out⟩

set_option maxRecDepth 20000 in
set_option maxHeartbeats 1000000 in
theorem radial_any (A : Nat → Addr) (far n : Int) (p : IC.Paint) (w : World) (hE : Errs3 w A) (hn : 0 ≤ n ∧ n ≤ 1000000) (hf : 0 ≤ far ∧ far ≤ 1099511627776) :
    Calls Tryz.prog 98 #[.agg #[.int .i64 far, .int .i64 n], .agg p.cells.toArray] w fun e w' => e = .returned (errv A (IC.chkRadial far n p)) ∧ Below w.heap.size w w' := by
  obtain ⟨k, a, b, ⟨px, py⟩, ⟨qx, qy⟩⟩ := p
  have k1 : Hid (∀ w, Calls Tryz.prog 114 #[.agg #[.int .i64 far, .int .i64 n], .int .i64 a] w fun e w' => e = .returned (.bool (IC.within a 0 (n - 1))) ∧ Below w.heap.size w w') := fun w => isplace_any far n a w hn
  have k2 : Hid (∀ w, Calls Tryz.prog 114 #[.agg #[.int .i64 far, .int .i64 n], .int .i64 b] w fun e w' => e = .returned (.bool (IC.within b 0 (n - 1))) ∧ Below w.heap.size w w') := fun w => isplace_any far n b w hn
  have k3 : Hid (∀ w, Calls Tryz.prog 99 #[.agg #[.int .i64 far, .int .i64 n], .agg #[.int .i64 px, .int .i64 py]] w fun e w' => e = .returned (.bool (IC.reach far ⟨px, py⟩)) ∧ Below w.heap.size w w') := fun w => reaches_any far n px py w hf
  have k4 : Hid (∀ w, Calls Tryz.prog 95 #[.int .i64 qx, .int .i64 1, .int .i64 far] w fun e w' => e = .returned (.bool (IC.within qx 1 far)) ∧ w' = w) := fun w => within64_any qx 1 far w
  have e : IC.chkRadial far n ⟨k, a, b, ⟨px, py⟩, ⟨qx, qy⟩⟩ = (if !IC.within a 0 (n - 1) || !IC.within b 0 (n - 1) || !IC.reach far ⟨px, py⟩ || !IC.within qx 1 far then 1 else if qy != 0 then 3 else 0) := rfl
  rw [e]; clear e
  generalize IC.within a 0 (n - 1) = t1 at k1 ⊢
  generalize IC.within b 0 (n - 1) = t2 at k2 ⊢
  generalize IC.reach far ⟨px, py⟩ = t3 at k3 ⊢
  generalize IC.within qx 1 far = t4 at k4 ⊢
  have e0 := hE.c0
  have s0 := hE.s0
  have p0 := hE.pos
  have e2 := hE.c2
  have s2 := hE.s2
  clear hE hn hf
  simp only [IC.Paint.cells]
  go_enter Tryz.func98, Tryz.ntmps98
  cases t1
  · go_wp2_with (go_at_call 114; refine (k1.out _).mono ?_; rintro e w1 ⟨rfl, hb1⟩; have B1 : Hid (Below _ _ w1) := hb1; obtain ⟨p1, q1, r1⟩ := boxes2 hb1; clear hb1)
    go_ret
    exact ⟨rfl, chain (((Below.refl _ _).alloc (by omega) _).alloc (by simp) _) B1.out⟩
  cases t2
  · go_wp2_with (first
      | (go_at_call 114; (with_reducible refine (k1.out _).mono ?_); rintro e w1 ⟨rfl, hb1⟩; have B1 : Hid (Below _ _ w1) := hb1; obtain ⟨p1, q1, r1⟩ := boxes2 hb1; clear hb1)
      | (go_at_call 114; (with_reducible refine (k2.out _).mono ?_); rintro e w2 ⟨rfl, hb2⟩; have B2 : Hid (Below _ _ w2) := chain B1.out hb2; obtain ⟨p2, q2, r2⟩ := boxes2 B2.out; clear hb2))
    go_ret
    exact ⟨rfl, chain (((Below.refl _ _).alloc (by omega) _).alloc (by simp) _) B2.out⟩
  cases t3
  · go_wp2_with (first
      | (go_at_call 114; (with_reducible refine (k1.out _).mono ?_); rintro e w1 ⟨rfl, hb1⟩; have B1 : Hid (Below _ _ w1) := hb1; obtain ⟨p1, q1, r1⟩ := boxes2 hb1; clear hb1)
      | (go_at_call 114; (with_reducible refine (k2.out _).mono ?_); rintro e w2 ⟨rfl, hb2⟩; have B2 : Hid (Below _ _ w2) := chain B1.out hb2; obtain ⟨p2, q2, r2⟩ := boxes2 B2.out; clear hb2)
      | (go_at_call 99; (with_reducible refine (k3.out _).mono ?_); rintro e w3 ⟨rfl, hb3⟩; have B3 : Hid (Below _ _ w3) := chain B2.out hb3; obtain ⟨p3, q3, r3⟩ := boxes2 B3.out; clear hb3))
    go_ret
    exact ⟨rfl, chain (((Below.refl _ _).alloc (by omega) _).alloc (by simp) _) B3.out⟩
  cases t4 <;>
  · go_wp2_with (first
      | (go_at_call 114; (with_reducible refine (k1.out _).mono ?_); rintro e w1 ⟨rfl, hb1⟩; have B1 : Hid (Below _ _ w1) := hb1; obtain ⟨p1, q1, r1⟩ := boxes2 hb1; clear hb1)
      | (go_at_call 114; (with_reducible refine (k2.out _).mono ?_); rintro e w2 ⟨rfl, hb2⟩; have B2 : Hid (Below _ _ w2) := chain B1.out hb2; obtain ⟨p2, q2, r2⟩ := boxes2 B2.out; clear hb2)
      | (go_at_call 99; (with_reducible refine (k3.out _).mono ?_); rintro e w3 ⟨rfl, hb3⟩; have B3 : Hid (Below _ _ w3) := chain B2.out hb3; obtain ⟨p3, q3, r3⟩ := boxes2 B3.out; clear hb3)
      | (go_at_call 95; (with_reducible refine (k4.out _).mono ?_); rintro e w4 ⟨rfl, rfl⟩))
    all_goals
      go_ret
      exact ⟨ret_v (by simp [errv, *]), chain (((Below.refl _ _).alloc (by omega) _).alloc (by simp) _) B3.out⟩

set_option maxRecDepth 20000 in
theorem paint_any (A : Nat → Addr) (far n : Int) (p : IC.Paint) (w : World) (hE : Errs3 w A) (hn : 0 ≤ n ∧ n ≤ 1000000) (hf : 0 ≤ far ∧ far ≤ 1099511627776) :
    Calls Tryz.prog 73 #[.agg #[.int .i64 far, .int .i64 n], .agg p.cells.toArray] w fun e w' => e = .returned (errv A (IC.chkPaint far n p)) ∧ Below w.heap.size w w' := by
  have k1 : Hid (∀ W, Below w.heap.size w W → Calls Tryz.prog 96 #[.agg #[.int .i64 far, .int .i64 n], .agg p.cells.toArray] W fun e w' => e = .returned (errv A (IC.chkFlat n p)) ∧ Below W.heap.size W w') := fun W hb => flat_any A far n p W (hE.below hb) hn
  have k2 : Hid (∀ W, Below w.heap.size w W → Calls Tryz.prog 97 #[.agg #[.int .i64 far, .int .i64 n], .agg p.cells.toArray] W fun e w' => e = .returned (errv A (IC.chkLinear far n p)) ∧ Below W.heap.size W w') := fun W hb => linear_any A far n p W (hE.below hb) hn hf
  have k3 : Hid (∀ W, Below w.heap.size w W → Calls Tryz.prog 98 #[.agg #[.int .i64 far, .int .i64 n], .agg p.cells.toArray] W fun e w' => e = .returned (errv A (IC.chkRadial far n p)) ∧ Below W.heap.size W w') := fun W hb => radial_any A far n p W (hE.below hb) hn hf
  have e : IC.chkPaint far n p = (if p.k == 0 then IC.chkFlat n p else if p.k == 1 then IC.chkLinear far n p else if p.k == 2 then IC.chkRadial far n p else 1) := rfl
  rw [e]; clear e
  generalize IC.chkFlat n p = c1 at k1 ⊢
  generalize IC.chkLinear far n p = c2 at k2 ⊢
  generalize IC.chkRadial far n p = c3 at k3 ⊢
  obtain ⟨k, a, b, ⟨px, py⟩, ⟨qx, qy⟩⟩ := p
  have e0 := hE.c0
  have s0 := hE.s0
  have p0 := hE.pos
  clear hE hn hf
  simp only [IC.Paint.cells] at k1 k2 k3 ⊢
  have B0 : Hid (∀ o o', Below w.heap.size w ((w.alloc o).alloc o')) := fun o o' => ((Below.refl _ _).alloc (by omega) _).alloc (by simp) _
  go_enter Tryz.func73, Tryz.ntmps73
  cases h0 : (k == 0) <;> cases h1 : (k == 1) <;> cases h2 : (k == 2) <;>
  · go_wp2_with (first
      | (go_at_call 96; refine (k1.out _ (B0.out _ _)).mono ?_; rintro e w1 ⟨rfl, hb1⟩)
      | (go_at_call 97; refine (k2.out _ (B0.out _ _)).mono ?_; rintro e w1 ⟨rfl, hb1⟩)
      | (go_at_call 98; refine (k3.out _ (B0.out _ _)).mono ?_; rintro e w1 ⟨rfl, hb1⟩))
    all_goals
      go_ret
      exact ⟨rfl, by first | exact chain (B0.out _ _) hb1 | exact B0.out _ _⟩

end Go.Proofs.YtcnlkdoifogkbaaGreatDoor

/-
  PlaneSides, walked over the program.
-/
import Derived.Test.YtfcpflicfnmkiaaPlaneGrow
namespace Go.Proofs.Ytfcpflicfnmkiaa
open Go.RowKit

theorem side_on (A0 A1 D0 D1 N : Int) : PL.cross A0 A1 (A0 + D0) (A1 + D1) (A0 + N * D0) (A1 + N * D1) = 0 := by unfold PL.cross; grind
theorem side_off (A0 A1 D0 D1 N S : Int) : PL.cross A0 A1 (A0 + D0) (A1 + D1) (A0 + N * D0 - S * D1) (A1 + N * D1 + S * D0) = S * PL.len2 A0 A1 (A0 + D0) (A1 + D1) := by unfold PL.cross PL.len2 PL.dot; grind
theorem side_along (A0 A1 D0 D1 N S : Int) : PL.dot A0 A1 (A0 + D0) (A1 + D1) (A0 + N * D0 - S * D1) (A1 + N * D1 + S * D0) = N * PL.len2 A0 A1 (A0 + D0) (A1 + D1) := by unfold PL.len2 PL.dot; grind
theorem len_self (A0 A1 : Int) : PL.len2 A0 A1 A0 A1 = 0 := by unfold PL.len2 PL.dot; grind

set_option maxRecDepth 100000 in
set_option maxHeartbeats 4000000 in
theorem sides_walk (ax ay dx dy n s : Int) (w : World) :
    Calls Try.prog 6 #[.agg #[.int .i64 ax, .int .i64 ay], .agg #[.int .i64 dx, .int .i64 dy], .int .i64 n, .int .i64 s] w fun e w' => e = .returned (.bool true) ∧ Below w.heap.size w w' := by
  have j1 := tmod_in ax 1000000 (by omega)
  obtain ⟨A0, t1⟩ : ∃ u, ax.tmod 1000000 = u := ⟨_, rfl⟩
  rw [t1] at j1
  have j2 := tmod_in ay 1000000 (by omega)
  obtain ⟨A1, t2⟩ : ∃ u, ay.tmod 1000000 = u := ⟨_, rfl⟩
  rw [t2] at j2
  have j3 := tmod_in dx 10000 (by omega)
  obtain ⟨D0, t3⟩ : ∃ u, dx.tmod 10000 = u := ⟨_, rfl⟩
  rw [t3] at j3
  have j4 := tmod_in dy 10000 (by omega)
  obtain ⟨D1, t4⟩ : ∃ u, dy.tmod 10000 = u := ⟨_, rfl⟩
  rw [t4] at j4
  have j5 := tmod_in n 100 (by omega)
  obtain ⟨N, t5⟩ : ∃ u, n.tmod 100 = u := ⟨_, rfl⟩
  rw [t5] at j5
  have j6 := tmod_in s 1000 (by omega)
  obtain ⟨S, t6⟩ : ∃ u, s.tmod 1000 = u := ⟨_, rfl⟩
  rw [t6] at j6
  have mE0 := PL.mulb N D0 99 9999 (by omega) (by omega)
  have mE1 := PL.mulb N D1 99 9999 (by omega) (by omega)
  have mF0 := PL.mulb S D1 999 9999 (by omega) (by omega)
  have mF1 := PL.mulb S D0 999 9999 (by omega) (by omega)
  have x1 := side_on A0 A1 D0 D1 N
  have x2 := side_off A0 A1 D0 D1 N S
  have x3 := side_along A0 A1 D0 D1 N S
  obtain ⟨E0, hE0⟩ : ∃ u, N * D0 = u := ⟨_, rfl⟩
  obtain ⟨E1, hE1⟩ : ∃ u, N * D1 = u := ⟨_, rfl⟩
  obtain ⟨F0, hF0⟩ : ∃ u, S * D1 = u := ⟨_, rfl⟩
  obtain ⟨F1, hF1⟩ : ∃ u, S * D0 = u := ⟨_, rfl⟩
  rw [hE0] at mE0
  rw [hE1] at mE1
  rw [hF0] at mF0
  rw [hF1] at mF1
  rw [hE0, hE1] at x1
  rw [hE0, hE1, hF0, hF1] at x2 x3
  have iA0 : PL.In A0 := ⟨by omega, by omega⟩
  have iA1 : PL.In A1 := ⟨by omega, by omega⟩
  have iB0 : PL.In (A0 + D0) := ⟨by omega, by omega⟩
  have iB1 : PL.In (A1 + D1) := ⟨by omega, by omega⟩
  have iO0 : PL.In (A0 + E0) := ⟨by omega, by omega⟩
  have iO1 : PL.In (A1 + E1) := ⟨by omega, by omega⟩
  have iP0 : PL.In (A0 + E0 - F0) := ⟨by omega, by omega⟩
  have iP1 : PL.In (A1 + E1 + F1) := ⟨by omega, by omega⟩
  have kx0 : Hid (∀ w, Calls Try.prog 10 #[.agg #[.int .i64 A0, .int .i64 A1], .agg #[.int .i64 (A0 + D0), .int .i64 (A1 + D1)], .agg #[.int .i64 (A0 + E0), .int .i64 (A1 + E1)]] w fun e w' => e = .returned (.int .i64 0) ∧ Below w.heap.size w w') := fun w => by
    have := cross_any A0 A1 (A0 + D0) (A1 + D1) (A0 + E0) (A1 + E1) w iA0 iA1 iB0 iB1 iO0 iO1
    rw [x1] at this
    exact this
  have kx1 : Hid (∀ w, Calls Try.prog 10 #[.agg #[.int .i64 A0, .int .i64 A1], .agg #[.int .i64 (A0 + D0), .int .i64 (A1 + D1)], .agg #[.int .i64 (A0 + E0 - F0), .int .i64 (A1 + E1 + F1)]] w fun e w' => e = .returned (.int .i64 (S * (PL.len2 A0 A1 (A0 + D0) (A1 + D1)))) ∧ Below w.heap.size w w') := fun w => by
    have := cross_any A0 A1 (A0 + D0) (A1 + D1) (A0 + E0 - F0) (A1 + E1 + F1) w iA0 iA1 iB0 iB1 iP0 iP1
    rw [x2] at this
    exact this
  have kd : Hid (∀ w, Calls Try.prog 12 #[.agg #[.int .i64 A0, .int .i64 A1], .agg #[.int .i64 (A0 + D0), .int .i64 (A1 + D1)], .agg #[.int .i64 (A0 + E0 - F0), .int .i64 (A1 + E1 + F1)]] w fun e w' => e = .returned (.int .i64 (N * (PL.len2 A0 A1 (A0 + D0) (A1 + D1)))) ∧ Below w.heap.size w w') := fun w => by
    have := dot_any A0 A1 (A0 + D0) (A1 + D1) (A0 + E0 - F0) (A1 + E1 + F1) w iA0 iA1 iB0 iB1 iP0 iP1
    rw [x3] at this
    exact this
  have kl : Hid (∀ w, Calls Try.prog 14 #[.agg #[.int .i64 A0, .int .i64 A1], .agg #[.int .i64 (A0 + D0), .int .i64 (A1 + D1)]] w fun e w' => e = .returned (.int .i64 (PL.len2 A0 A1 (A0 + D0) (A1 + D1))) ∧ Below w.heap.size w w') := fun w => by
    have := len2_any A0 A1 (A0 + D0) (A1 + D1) w iA0 iA1 iB0 iB1
    exact this
  have kla : Hid (∀ w, Calls Try.prog 14 #[.agg #[.int .i64 A0, .int .i64 A1], .agg #[.int .i64 A0, .int .i64 A1]] w fun e w' => e = .returned (.int .i64 0) ∧ Below w.heap.size w w') := fun w => by
    have := len2_any A0 A1 A0 A1 w iA0 iA1 iA0 iA1
    rw [len_self] at this
    exact this
  have ks : Hid (∀ w, Calls Try.prog 20 #[.agg #[.int .i64 (A0 + D0), .int .i64 (A1 + D1)], .agg #[.int .i64 A0, .int .i64 A1]] w fun e w' => e = .returned (.agg #[.int .i64 D0, .int .i64 D1]) ∧ Below w.heap.size w w') := fun w => by
    have := sub_below (A0 + D0) (A1 + D1) A0 A1 w (by omega) (by omega)
    rw [show A0 + D0 - A0 = D0 by omega, show A1 + D1 - A1 = D1 by omega] at this
    exact this
  have ka : Hid (∀ w, Calls Try.prog 19 #[.agg #[.int .i64 A0, .int .i64 A1], .agg #[.int .i64 D0, .int .i64 D1]] w fun e w' => e = .returned (.agg #[.int .i64 (A0 + D0), .int .i64 (A1 + D1)]) ∧ Below w.heap.size w w') := fun w => add_any A0 A1 D0 D1 w (by omega) (by omega)
  have c1 := PL.cross_bound A0 A1 (A0 + D0) (A1 + D1) (A0 + E0 - F0) (A1 + E1 + F1) iA0 iA1 iB0 iB1 iP0 iP1
  have c2 := PL.dot_bound A0 A1 (A0 + D0) (A1 + D1) (A0 + E0 - F0) (A1 + E1 + F1) iA0 iA1 iB0 iB1 iP0 iP1
  rw [x2] at c1
  rw [x3] at c2
  clear x1 x2 x3 iA0 iA1 iB0 iB1 iO0 iO1 iP0 iP1
  generalize PL.len2 A0 A1 (A0 + D0) (A1 + D1) = L at kx1 kd kl c1 c2
  obtain ⟨SL, hSL⟩ : ∃ u, S * L = u := ⟨_, rfl⟩
  obtain ⟨NL, hNL⟩ : ∃ u, N * L = u := ⟨_, rfl⟩
  rw [hSL] at c1 kx1
  rw [hNL] at c2 kd
  obtain ⟨W0, hW0⟩ : ∃ W, (w.alloc (.cells #[.int .i64 ax, .int .i64 ay] 23)).alloc (.cells #[.int .i64 dx, .int .i64 dy] 23) = W := ⟨_, rfl⟩
  have HA : Hid (Box W0 w.heap.size (.int .i64 ax) (.int .i64 ay)) := by rw [← hW0]; exact (box_new w _ _ 23).alloc _
  have HD : Hid (Box W0 (w.heap.size + 1) (.int .i64 dx) (.int .i64 dy)) := by have := box_new (w.alloc (.cells #[.int .i64 ax, .int .i64 ay] 23)) (.int .i64 dx) (.int .i64 dy) 23; rw [hW0, size_alloc] at this; exact this
  have BW : Hid (Below w.heap.size w W0) := by rw [← hW0]; exact ((Below.refl _ _).alloc (by omega) _).alloc (by simp) _
  have HE : Hid (_ = W0) := hW0
  clear hW0
  go_enter Try.func6, Try.ntmps6
  go_upto_region 8 with (first
    | (go_at_call 8; rw [HE.out]; refine (first_any W0).mono ?_; rintro e w1 ⟨rfl, hb1⟩
       have B1 : Hid (Below w.heap.size w w1) := chain BW.out hb1
       have HA1 : Hid (Box w1 w.heap.size (.int .i64 ax) (.int .i64 ay)) := HA.out.below hb1
       have HD1 : Hid (Box w1 (w.heap.size + 1) (.int .i64 dx) (.int .i64 dy)) := HD.out.below hb1
       clear hb1
       obtain ⟨⟨_, a0, a1⟩, f0, f1⟩ := HA1.out
       obtain ⟨⟨_, b0, b1⟩, g0, g1⟩ := HD1.out))
  clear HA HD HE BW a0 a1 f0 f1 b0 b1 g0 g1
  obtain ⟨W1, hW1⟩ : ∃ W, set2 (set2 w1 w.heap.size (.int .i64 A0) (.int .i64 A1)) (w.heap.size + 1) (.int .i64 D0) (.int .i64 D1) = W := ⟨_, rfl⟩
  have HA : Hid (Box W1 w.heap.size (.int .i64 A0) (.int .i64 A1)) := by rw [← hW1]; exact (HA1.out.set _ _).far (by omega) _ _
  have HD : Hid (Box W1 (w.heap.size + 1) (.int .i64 D0) (.int .i64 D1)) := by rw [← hW1]; exact (HD1.out.far (by omega) _ _).set _ _
  have BW : Hid (Below w.heap.size w W1) := by rw [← hW1]; exact below_set2 (below_set2 B1.out (by omega) _ _) (by omega) _ _
  unfold set2 at hW1
  rw [hW1]
  clear hW1 HA1 HD1 B1 t1 t2 t3 t4 t5 t6
  obtain ⟨⟨_, a0, a1⟩, -, -⟩ := HA.out
  obtain ⟨⟨_, b0, b1⟩, -, -⟩ := HD.out
  go_upto_region 11 with (first
    | (go_at_call 19; refine (ka.out W1).mono ?_; rintro e w2 ⟨rfl, hb2⟩
       have B2 : Hid (Below w.heap.size w w2) := chain BW.out hb2
       have HA2 : Hid (Two w2 w.heap.size (.int .i64 A0) (.int .i64 A1)) := (HA.out.below hb2).1
       have HD2 : Hid (Two w2 (w.heap.size + 1) (.int .i64 D0) (.int .i64 D1)) := (HD.out.below hb2).1
       clear hb2
       obtain ⟨hl0, a0, a1⟩ := HA2.out
       obtain ⟨hl1, b0, b1⟩ := HD2.out))
  clear HA HD BW a0 a1 b0 b1 ka
  obtain ⟨W3, hW3⟩ : ∃ W, ((w2.alloc (.cells #[.int .i64 (A0 + D0), .int .i64 (A1 + D1)] 23)).alloc (.cells #[.int .i64 (A0 + E0), .int .i64 (A1 + E1)] 23)).alloc (.cells #[.int .i64 (A0 + E0 - F0), .int .i64 (A1 + E1 + F1)] 23) = W := ⟨_, rfl⟩
  have HA : Hid (Two W3 w.heap.size (.int .i64 A0) (.int .i64 A1)) := by rw [← hW3]; exact ((HA2.out.alloc _).alloc _).alloc _
  have HD : Hid (Two W3 (w.heap.size + 1) (.int .i64 D0) (.int .i64 D1)) := by rw [← hW3]; exact ((HD2.out.alloc _).alloc _).alloc _
  have HB : Hid (Two W3 w2.heap.size (.int .i64 (A0 + D0)) (.int .i64 (A1 + D1))) := by rw [← hW3]; exact ((two_new w2 _ _ 23 (0, 0)).alloc _).alloc _
  have HO : Hid (Two W3 (w2.heap.size + 1) (.int .i64 (A0 + E0)) (.int .i64 (A1 + E1))) := by have := (two_new (w2.alloc (.cells #[.int .i64 (A0 + D0), .int .i64 (A1 + D1)] 23)) (.int .i64 (A0 + E0)) (.int .i64 (A1 + E1)) 23 (0, 0)).alloc (.cells #[.int .i64 (A0 + E0 - F0), .int .i64 (A1 + E1 + F1)] 23); rw [hW3, size_alloc] at this; exact this
  have HP : Hid (Two W3 (w2.heap.size + 1 + 1) (.int .i64 (A0 + E0 - F0)) (.int .i64 (A1 + E1 + F1))) := by have := two_new ((w2.alloc (.cells #[.int .i64 (A0 + D0), .int .i64 (A1 + D1)] 23)).alloc (.cells #[.int .i64 (A0 + E0), .int .i64 (A1 + E1)] 23)) (.int .i64 (A0 + E0 - F0)) (.int .i64 (A1 + E1 + F1)) 23 (0, 0); rw [hW3, size_alloc, size_alloc] at this; exact this
  have BW : Hid (Below w.heap.size w W3) := by rw [← hW3]; exact ((B2.out.alloc B2.out.size _).alloc (by simp; have := B2.out.size; omega) _).alloc (by simp; have := B2.out.size; omega) _
  rw [hW3]
  clear hW3 HA2 HD2 B2 hE0 hE1 hF0 hF1
  obtain ⟨ca0, ca1⟩ := Grown.two HA.out
  obtain ⟨cd0, cd1⟩ := Grown.two HD.out
  obtain ⟨cb0, cb1⟩ := Grown.two HB.out
  obtain ⟨co0, co1⟩ := Grown.two HO.out
  obtain ⟨cp0, cp1⟩ := Grown.two HP.out
  have hne := Grown.some W3
  refine wp_region_grow (by kernel_rfl) (by kernel_rfl) ?_
  repeat (go_big_quiet_step (first
    | (with_reducible exact grow_of (kx0.out _))
    | (with_reducible exact grow_of (kx1.out _))
    | (with_reducible exact grow_of (kl.out _))
    | (with_reducible exact grow_of (kd.out _))
    | (with_reducible exact grow_of (kla.out _))
    | (with_reducible exact grow_of (ks.out _))))
  refine wpQuiet_nil ?_
  rintro _ ⟨g, rfl⟩
  go_wp2
  go_ret
  exact ⟨by simp, chain BW.out g.below⟩

end Go.Proofs.Ytfcpflicfnmkiaa

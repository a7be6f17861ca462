/-
  What the document's own Near answers, walked over the program.
-/
import Derived.Test.YtfcpflicfnmkiaaPlaneNear
namespace Go.Proofs.Ytfcpflicfnmkiaa
open Go.RowKit

theorem size_any (a A : Int) (w : World) (h0 : -9223372036854775808 ≤ a) (h1 : a ≤ 9223372036854775807) (hA : a < 0 ∧ A = -a ∨ 0 ≤ a ∧ A = a) :
    Calls Try.prog 25 #[.int .i64 a] w fun e w' => e = .returned (.int .u64 A) ∧ w' = w := by
  rcases hA with ⟨h, rfl⟩ | ⟨h, rfl⟩
  · go_enter Try.func25, Try.ntmps25
    go_wp2
    go_ret
    exact ⟨ret_int (by omega), rfl⟩
  · go_enter Try.func25, Try.ntmps25
    go_wp2
    go_ret
    exact ⟨rfl, rfl⟩

set_option maxRecDepth 100000 in
set_option maxHeartbeats 4000000 in
theorem rnear_any (ax ay bx bY px py c : Int) (w : World) (h1 : PL.In ax) (h2 : PL.In ay) (h3 : PL.In bx) (h4 : PL.In bY) (h5 : PL.In px) (h6 : PL.In py) (c0 : 0 ≤ c) (c1 : c ≤ 268435456) :
    Calls Try.prog 17 #[.agg #[.int .i64 ax, .int .i64 ay], .agg #[.int .i64 bx, .int .i64 bY], .agg #[.int .i64 px, .int .i64 py], .int .i64 c] w fun e w' => e = .returned (.bool (PL.near ax ay bx bY px py c)) ∧ Below w.heap.size w w' := by
  have kd : Hid (∀ w, Calls Try.prog 13 #[.agg #[.int .i64 ax, .int .i64 ay], .agg #[.int .i64 bx, .int .i64 bY], .agg #[.int .i64 px, .int .i64 py]] w fun e w' => e = .returned (.int .i64 (PL.dot ax ay bx bY px py)) ∧ Below w.heap.size w w') := fun w => rdot_any ax ay bx bY px py w h1 h2 h3 h4 h5 h6
  have kx : Hid (∀ w, Calls Try.prog 11 #[.agg #[.int .i64 ax, .int .i64 ay], .agg #[.int .i64 bx, .int .i64 bY], .agg #[.int .i64 px, .int .i64 py]] w fun e w' => e = .returned (.int .i64 (PL.cross ax ay bx bY px py)) ∧ Below w.heap.size w w') := fun w => rcross_any ax ay bx bY px py w h1 h2 h3 h4 h5 h6
  have kl : Hid (∀ w, Calls Try.prog 15 #[.agg #[.int .i64 ax, .int .i64 ay], .agg #[.int .i64 bx, .int .i64 bY]] w fun e w' => e = .returned (.int .i64 (PL.len2 ax ay bx bY)) ∧ Below w.heap.size w w') := fun w => rlen2_any ax ay bx bY w h1 h2 h3 h4
  have ka : Hid (∀ w, Calls Try.prog 15 #[.agg #[.int .i64 ax, .int .i64 ay], .agg #[.int .i64 px, .int .i64 py]] w fun e w' => e = .returned (.int .i64 (PL.len2 ax ay px py)) ∧ Below w.heap.size w w') := fun w => rlen2_any ax ay px py w h1 h2 h5 h6
  have kb : Hid (∀ w, Calls Try.prog 15 #[.agg #[.int .i64 bx, .int .i64 bY], .agg #[.int .i64 px, .int .i64 py]] w fun e w' => e = .returned (.int .i64 (PL.len2 bx bY px py)) ∧ Below w.heap.size w w') := fun w => rlen2_any bx bY px py w h3 h4 h5 h6
  have hx := PL.cross_bound ax ay bx bY px py h1 h2 h3 h4 h5 h6
  have hl := PL.len2_bound ax ay bx bY h1 h2 h3 h4
  have hc := PL.w_bound c c0 c1
  obtain ⟨C, hC⟩ : ∃ C : Int, PL.cross ax ay bx bY px py < 0 ∧ C = -PL.cross ax ay bx bY px py ∨ 0 ≤ PL.cross ax ay bx bY px py ∧ C = PL.cross ax ay bx bY px py := ⟨(PL.cross ax ay bx bY px py).natAbs, by omega⟩
  have ks : Hid (∀ w, Calls Try.prog 25 #[.int .i64 (PL.cross ax ay bx bY px py)] w fun e w' => e = .returned (.int .u64 C) ∧ w' = w) := fun w => size_any _ C w (by omega) (by omega) hC
  have C0 : 0 ≤ C := by omega
  have C1 : C ≤ 144115188075855872 := by omega
  have eN : 4 * (PL.cross ax ay bx bY px py * PL.cross ax ay bx bY px py) = (2 * C) * (2 * C) := by rcases hC with ⟨_, rfl⟩ | ⟨_, rfl⟩ <;> grind
  have m1 : Hid (∀ w, Calls Try.prog 26 #[.int .u64 (2 * C), .int .u64 (2 * C)] w fun e w' => e = .returned (.tuple #[.int .u64 ((2 * C) * (2 * C) / 18446744073709551616), .int .u64 ((2 * C) * (2 * C) % 18446744073709551616)]) ∧ w' = w) := fun w => mul64_any _ _ _ w rfl (by omega) (by omega) (by omega) (by omega)
  have m2 : Hid (∀ w, Calls Try.prog 26 #[.int .u64 (c * c), .int .u64 (PL.len2 ax ay bx bY)] w fun e w' => e = .returned (.tuple #[.int .u64 (c * c * PL.len2 ax ay bx bY / 18446744073709551616), .int .u64 (c * c * PL.len2 ax ay bx bY % 18446744073709551616)]) ∧ w' = w) := fun w => mul64_any _ _ _ w rfl (by omega) (by omega) (by omega) (by omega)
  have SA : Hid (Says _ _ _ _ _) := says_le (4 * (PL.cross ax ay bx bY px py * PL.cross ax ay bx bY px py)) (c * c * PL.len2 ax ay bx bY)
  have HW : Hid (Ways _ _ _ _ _ _) := near_ways ax ay bx bY px py c
  rw [eN] at SA HW
  clear h1 h2 h3 h4 h5 h6 hx hC eN
  have i2 : IntKind.u64.wrap (c * c) = c * c := by rw [IntKind.wrap_u64]; omega
  have i3 : IntKind.u64.wrap (PL.len2 ax ay bx bY) = PL.len2 ax ay bx bY := by rw [IntKind.wrap_u64]; omega
  have q0 : (c * c).tdiv 4 = c * c / 4 := Int.tdiv_eq_ediv_of_nonneg hc.1
  generalize PL.near ax ay bx bY px py c = R at HW ⊢
  generalize decide (2 * C * (2 * C) ≤ c * c * PL.len2 ax ay bx bY) = E3 at HW SA
  generalize 2 * C * (2 * C) / 18446744073709551616 = H1 at m1 SA
  generalize 2 * C * (2 * C) % 18446744073709551616 = G1 at m1 SA
  generalize c * c * PL.len2 ax ay bx bY / 18446744073709551616 = H2 at m2 SA
  generalize c * c * PL.len2 ax ay bx bY % 18446744073709551616 = G2 at m2 SA
  obtain ⟨T, hT⟩ : ∃ T, 2 * C = T := ⟨_, rfl⟩
  have T0 : 0 ≤ T := by omega
  have T1 : T ≤ 288230376151711744 := by omega
  rw [hT] at m1
  obtain ⟨K, hK⟩ : ∃ K, c * c = K := ⟨_, rfl⟩
  rw [hK] at hc i2 q0 m2 HW
  generalize PL.len2 ax ay px py = La at HW ka
  generalize PL.len2 bx bY px py = Lb at HW kb
  generalize PL.cross ax ay bx bY px py = X at kx ks
  generalize PL.len2 ax ay bx bY = L at kl HW m2 hl i3
  generalize PL.dot ax ay bx bY px py = D at kd HW
  obtain ⟨W0, hW0⟩ : ∃ W, ((w.alloc (.cells #[.int .i64 ax, .int .i64 ay] 23)).alloc (.cells #[.int .i64 bx, .int .i64 bY] 23)).alloc (.cells #[.int .i64 px, .int .i64 py] 23) = W := ⟨_, rfl⟩
  have HA : Hid (Two W0 w.heap.size (.int .i64 ax) (.int .i64 ay)) := by rw [← hW0]; exact ((two_new w _ _ 23 (0, 0)).alloc _).alloc _
  have HB : Hid (Two W0 (w.heap.size + 1) (.int .i64 bx) (.int .i64 bY)) := by have := (two_new (w.alloc (.cells #[.int .i64 ax, .int .i64 ay] 23)) (.int .i64 bx) (.int .i64 bY) 23 (0, 0)).alloc (.cells #[.int .i64 px, .int .i64 py] 23); rw [hW0, size_alloc] at this; exact this
  have HP : Hid (Two W0 (w.heap.size + 1 + 1) (.int .i64 px) (.int .i64 py)) := by have := two_new ((w.alloc (.cells #[.int .i64 ax, .int .i64 ay] 23)).alloc (.cells #[.int .i64 bx, .int .i64 bY] 23)) (.int .i64 px) (.int .i64 py) 23 (0, 0); rw [hW0, size_alloc, size_alloc] at this; exact this
  have BW : Hid (Below w.heap.size w W0) := by rw [← hW0]; exact (((Below.refl _ _).alloc (by omega) _).alloc (by simp) _).alloc (by simp; omega) _
  have HE : Hid (_ = W0) := hW0
  clear hW0
  rcases HW.out with ⟨d0, hR⟩ | ⟨d0, d1, hR⟩ | ⟨d0, d1, hR⟩
  · have HR : Hid (R = decide (4 * La ≤ K)) := hR
    clear HW kb m1 m2 kx hR SA
    go_enter Try.func17, Try.ntmps17
    go_wp2_with (first
      | (go_at_call 15; refine (ka.out w5).mono ?_; rintro e w6 ⟨rfl, hb6⟩)
      | (go_at_call 15; refine (kl.out w4).mono ?_; rintro e w5 ⟨rfl, hb5⟩; have B5 : Hid (Below W0.heap.size W0 w5) := B4.out.trans (hb5.mono B4.out.size); clear hb5; obtain ⟨ca0, ca1, cb0, cb1, cp0, cp1⟩ := two_three (HA.out.below B5.out) (HB.out.below B5.out) (HP.out.below B5.out))
      | (go_at_call 13; rw [HE.out]; refine (kd.out W0).mono ?_; rintro e w4 ⟨rfl, hb4⟩; have B4 : Hid (Below W0.heap.size W0 w4) := hb4; clear hb4; obtain ⟨da0, da1, db0, db1, dp0, dp1⟩ := two_three (HA.out.below B4.out) (HB.out.below B4.out) (HP.out.below B4.out)))
    go_ret
    have B6 := BW.out.trans (B5.out.mono BW.out.size)
    exact ⟨by rw [HR.out]; first | rfl | exact ret_bool (by rw [decide_eq_decide]; omega), B6.trans (hb6.mono B6.size)⟩
  · have HR : Hid (R = decide (4 * Lb ≤ K)) := hR
    clear HW ka m1 m2 kx hR SA
    go_enter Try.func17, Try.ntmps17
    go_wp2_with (first
      | (go_at_call 15; refine (kb.out w5).mono ?_; rintro e w6 ⟨rfl, hb6⟩)
      | (go_at_call 15; refine (kl.out w4).mono ?_; rintro e w5 ⟨rfl, hb5⟩; have B5 : Hid (Below W0.heap.size W0 w5) := B4.out.trans (hb5.mono B4.out.size); clear hb5; obtain ⟨ca0, ca1, cb0, cb1, cp0, cp1⟩ := two_three (HA.out.below B5.out) (HB.out.below B5.out) (HP.out.below B5.out))
      | (go_at_call 13; rw [HE.out]; refine (kd.out W0).mono ?_; rintro e w4 ⟨rfl, hb4⟩; have B4 : Hid (Below W0.heap.size W0 w4) := hb4; clear hb4; obtain ⟨da0, da1, db0, db1, dp0, dp1⟩ := two_three (HA.out.below B4.out) (HB.out.below B4.out) (HP.out.below B4.out)))
    go_ret
    have B6 := BW.out.trans (B5.out.mono BW.out.size)
    exact ⟨by rw [HR.out]; first | rfl | exact ret_bool (by rw [decide_eq_decide]; omega), B6.trans (hb6.mono B6.size)⟩
  · subst hR
    clear HW ka kb
    rcases SA.out with ⟨s1, rfl⟩ | ⟨s1, s2, rfl⟩ | ⟨s1, s2, rfl⟩
    all_goals
      clear SA
      go_enter Try.func17, Try.ntmps17
      go_wp2_with (first
        | (go_at_call_has 26 (Value.int IntKind.u64 T); refine (m1.out _).mono ?_; rintro e w7 ⟨rfl, rfl⟩)
        | (go_at_call_has 26 (Value.int IntKind.u64 K); refine (m2.out _).mono ?_; rintro e w7 ⟨rfl, rfl⟩)
        | (go_at_call 25; refine (ks.out _).mono ?_; rintro e w7 ⟨rfl, rfl⟩)
        | (go_at_call 11; refine (kx.out w5).mono ?_; rintro e w6 ⟨rfl, hb6⟩)
        | (go_at_call 15; refine (kl.out w4).mono ?_; rintro e w5 ⟨rfl, hb5⟩; have B5 : Hid (Below W0.heap.size W0 w5) := B4.out.trans (hb5.mono B4.out.size); clear hb5; obtain ⟨ca0, ca1, cb0, cb1, cp0, cp1⟩ := two_three (HA.out.below B5.out) (HB.out.below B5.out) (HP.out.below B5.out))
        | (go_at_call 13; rw [HE.out]; refine (kd.out W0).mono ?_; rintro e w4 ⟨rfl, hb4⟩; have B4 : Hid (Below W0.heap.size W0 w4) := hb4; clear hb4; obtain ⟨da0, da1, db0, db1, dp0, dp1⟩ := two_three (HA.out.below B4.out) (HB.out.below B4.out) (HP.out.below B4.out)))
      go_ret
      have B6 := BW.out.trans (B5.out.mono BW.out.size)
      exact ⟨by first | rfl | (simp [s1]; done) | (simp; omega), B6.trans (hb6.mono B6.size)⟩

end Go.Proofs.Ytfcpflicfnmkiaa

/-
  What Near of package plane answers, and the document's own Near, walked over the program; the chapter's examples.
-/
import Derived.Test.YtfcpflicfnmkiaaPlaneDot
namespace Go.Proofs.Ytfcpflicfnmkiaa
open Go.RowKit

/-- Three points in memory, cell by cell. -/
theorem two_three {W : World} {a b c : Nat} {u0 u1 v0 v1 x0 x1 : Value} (h1 : Two W a u0 u1) (h2 : Two W b v0 v1) (h3 : Two W c x0 x1) :
    W.cell? ⟨a, 0, none⟩ = some u0 ∧ W.cell? ⟨a, 1, none⟩ = some u1 ∧ W.cell? ⟨b, 0, none⟩ = some v0 ∧ W.cell? ⟨b, 1, none⟩ = some v1 ∧ W.cell? ⟨c, 0, none⟩ = some x0 ∧ W.cell? ⟨c, 1, none⟩ = some x1 :=
  ⟨h1.2.1, h1.2.2, h2.2.1, h2.2.2, h3.2.1, h3.2.2⟩

theorem nearEnd_any (ax ay px py c : Int) (w : World) (h1 : PL.In ax) (h2 : PL.In ay) (h3 : PL.In px) (h4 : PL.In py) (c0 : 0 ≤ c) (c1 : c ≤ 268435456) :
    Calls Try.prog 23 #[.agg #[.int .i64 ax, .int .i64 ay], .agg #[.int .i64 px, .int .i64 py], .int .i64 c] w fun e w' => e = .returned (.bool (decide (4 * PL.len2 ax ay px py ≤ c * c))) ∧ Below w.heap.size w w' := by
  have k : Hid (∀ w, Calls Try.prog 14 #[.agg #[.int .i64 ax, .int .i64 ay], .agg #[.int .i64 px, .int .i64 py]] w fun e w' => e = .returned (.int .i64 (PL.len2 ax ay px py)) ∧ Below w.heap.size w w') := fun w => len2_any ax ay px py w h1 h2 h3 h4
  have hL := PL.len2_bound ax ay px py h1 h2 h3 h4
  have hC := PL.w_bound c c0 c1
  clear h1 h2 h3 h4
  generalize PL.len2 ax ay px py = L at k hL ⊢
  obtain ⟨C, hc⟩ : ∃ u, c * c = u := ⟨_, rfl⟩
  rw [hc] at hC ⊢
  go_enter Try.func23, Try.ntmps23
  go_wp2_with (go_at_call 14; refine (k.out _).mono ?_; rintro e w1 ⟨rfl, hb⟩)
  go_ret
  exact ⟨rfl, (((Below.refl _ _).alloc (by omega) _).alloc (by simp) _).trans (hb.mono (by simp; omega))⟩

/-- Two numbers of two words each, held against each other. -/
theorem two_words (N M : Int) : (N / 18446744073709551616 < M / 18446744073709551616 ∧ N ≤ M) ∨
    (¬ N / 18446744073709551616 < M / 18446744073709551616 ∧ (N / 18446744073709551616 == M / 18446744073709551616) = true ∧ (N ≤ M ↔ N % 18446744073709551616 ≤ M % 18446744073709551616)) ∨
    (¬ N / 18446744073709551616 < M / 18446744073709551616 ∧ (N / 18446744073709551616 == M / 18446744073709551616) = false ∧ ¬ N ≤ M) := by
  by_cases h : N / 18446744073709551616 < M / 18446744073709551616
  · exact .inl ⟨h, by omega⟩
  · by_cases h2 : N / 18446744073709551616 = M / 18446744073709551616
    · exact .inr (.inl ⟨h, by rw [h2]; simp, by omega⟩)
    · exact .inr (.inr ⟨h, by simpa using h2, by omega⟩)

/-- What two words say. -/
def Says (H1 L1 H2 L2 : Int) (R : Bool) : Prop := (H1 < H2 ∧ R = true) ∨ (¬ H1 < H2 ∧ (H1 == H2) = true ∧ R = decide (L1 ≤ L2)) ∨ (¬ H1 < H2 ∧ (H1 == H2) = false ∧ R = false)

theorem says_le (N M : Int) : Says (N / 18446744073709551616) (N % 18446744073709551616) (M / 18446744073709551616) (M % 18446744073709551616) (decide (N ≤ M)) := by
  rcases two_words N M with ⟨h1, h2⟩ | ⟨h1, h2, h3⟩ | ⟨h1, h2, h3⟩
  · exact .inl ⟨h1, by simpa using h2⟩
  · exact .inr (.inl ⟨h1, h2, by simp [h3]⟩)
  · exact .inr (.inr ⟨h1, h2, by simpa using h3⟩)

theorem nearLine_any (c L k C W : Int) (w : World) (hc : c < 0 ∧ C = -c ∨ 0 ≤ c ∧ C = c) (C1 : C ≤ 144115188075855872) (L0 : 0 ≤ L) (L1 : L ≤ 144115188075855872) (hW : k * k = W) (W0 : 0 ≤ W) (W1 : W ≤ 72057594037927936) :
    Calls Try.prog 24 #[.int .i64 c, .int .i64 L, .int .i64 k] w fun e w' => e = .returned (.bool (decide (4 * (c * c) ≤ W * L))) ∧ w' = w := by
  have eN : 4 * (c * c) = (C * 2) * (C * 2) := by rcases hc with ⟨_, rfl⟩ | ⟨_, rfl⟩ <;> grind
  have C0 : 0 ≤ C := by omega
  have SA := says_le (4 * (c * c)) (W * L)
  rw [eN] at SA ⊢
  have m1 : Hid (∀ w, Calls Try.prog 26 #[.int .u64 (C * 2), .int .u64 (C * 2)] w fun e w' => e = .returned (.tuple #[.int .u64 ((C * 2) * (C * 2) / 18446744073709551616), .int .u64 ((C * 2) * (C * 2) % 18446744073709551616)]) ∧ w' = w) := fun w => mul64_any _ _ _ w rfl (by omega) (by omega) (by omega) (by omega)
  have m2 : Hid (∀ w, Calls Try.prog 26 #[.int .u64 W, .int .u64 L] w fun e w' => e = .returned (.tuple #[.int .u64 (W * L / 18446744073709551616), .int .u64 (W * L % 18446744073709551616)]) ∧ w' = w) := fun w => mul64_any _ _ _ w rfl (by omega) (by omega) (by omega) (by omega)
  clear eN
  generalize decide (C * 2 * (C * 2) ≤ W * L) = R at SA ⊢
  generalize C * 2 * (C * 2) / 18446744073709551616 = H1 at m1 SA
  generalize C * 2 * (C * 2) % 18446744073709551616 = G1 at m1 SA
  generalize W * L / 18446744073709551616 = H2 at m2 SA
  generalize W * L % 18446744073709551616 = G2 at m2 SA
  obtain ⟨T, hT⟩ : ∃ T, C * 2 = T := ⟨_, rfl⟩
  have T0 : 0 ≤ T := by omega
  have T1 : T ≤ 288230376151711744 := by omega
  have i1 : IntKind.u64.wrap C = C := by rw [IntKind.wrap_u64]; omega
  have i2 : IntKind.u64.wrap W = W := by rw [IntKind.wrap_u64]; omega
  have i3 : IntKind.u64.wrap L = L := by rw [IntKind.wrap_u64]; omega
  have i4 : IntKind.u64.wrap T = T := by rw [IntKind.wrap_u64]; omega
  rw [hT] at m1
  rcases hc with ⟨c0, hC⟩ | ⟨c0, hC⟩
  · have c1 : -9223372036854775807 ≤ c := by omega
    have nc : -c = C := hC.symm
    clear hC
    rcases SA with ⟨s1, rfl⟩ | ⟨s1, s2, rfl⟩ | ⟨s1, s2, rfl⟩
    all_goals
      go_enter Try.func24, Try.ntmps24
      go_wp2_with (first
        | (go_at_call_has 26 (Value.int IntKind.u64 T); refine (m1.out _).mono ?_; rintro e w1 ⟨rfl, rfl⟩)
        | (go_at_call_has 26 (Value.int IntKind.u64 W); refine (m2.out _).mono ?_; rintro e w1 ⟨rfl, rfl⟩))
      go_ret
      exact ⟨by first | rfl | (simp [s1]; done) | (simp; omega), rfl⟩
  · subst hC
    rcases SA with ⟨s1, rfl⟩ | ⟨s1, s2, rfl⟩ | ⟨s1, s2, rfl⟩
    all_goals
      go_enter Try.func24, Try.ntmps24
      go_wp2_with (first
        | (go_at_call_has 26 (Value.int IntKind.u64 T); refine (m1.out _).mono ?_; rintro e w1 ⟨rfl, rfl⟩)
        | (go_at_call_has 26 (Value.int IntKind.u64 W); refine (m2.out _).mono ?_; rintro e w1 ⟨rfl, rfl⟩))
      go_ret
      exact ⟨by first | rfl | (simp [s1]; done) | (simp; omega), rfl⟩

theorem in_dec (x : Int) (h : -134217728 ≤ x ∧ x ≤ 134217728) : PL.In x := h

/-- Which way Near goes, and what it answers there. -/
def Ways (D L : Int) (E1 E2 E3 R : Bool) : Prop := (D ≤ 0 ∧ R = E1) ∨ (¬ D ≤ 0 ∧ L ≤ D ∧ R = E2) ∨ (¬ D ≤ 0 ∧ ¬ L ≤ D ∧ R = E3)

theorem near_ways (ax ay bx bY px py c : Int) : Ways (PL.dot ax ay bx bY px py) (PL.len2 ax ay bx bY) (decide (4 * PL.len2 ax ay px py ≤ c * c)) (decide (4 * PL.len2 bx bY px py ≤ c * c)) (decide (4 * (PL.cross ax ay bx bY px py * PL.cross ax ay bx bY px py) ≤ c * c * PL.len2 ax ay bx bY)) (PL.near ax ay bx bY px py c) := by
  unfold PL.near Ways
  by_cases h1 : PL.dot ax ay bx bY px py ≤ 0
  · exact .inl ⟨h1, by rw [if_pos h1]⟩
  · by_cases h2 : PL.len2 ax ay bx bY ≤ PL.dot ax ay bx bY px py
    · exact .inr (.inl ⟨h1, h2, by rw [if_neg h1, if_pos h2]⟩)
    · exact .inr (.inr ⟨h1, h2, by rw [if_neg h1, if_neg h2]⟩)

set_option maxRecDepth 20000 in
set_option maxHeartbeats 4000000 in
theorem near_any (ax ay bx bY px py c : Int) (w : World) (h1 : PL.In ax) (h2 : PL.In ay) (h3 : PL.In bx) (h4 : PL.In bY) (h5 : PL.In px) (h6 : PL.In py) (c0 : 0 ≤ c) (c1 : c ≤ 268435456) :
    Calls Try.prog 16 #[.agg #[.int .i64 ax, .int .i64 ay], .agg #[.int .i64 bx, .int .i64 bY], .agg #[.int .i64 px, .int .i64 py], .int .i64 c] w fun e w' => e = .returned (.bool (PL.near ax ay bx bY px py c)) ∧ Below w.heap.size w w' := by
  have kd : Hid (∀ w, Calls Try.prog 12 #[.agg #[.int .i64 ax, .int .i64 ay], .agg #[.int .i64 bx, .int .i64 bY], .agg #[.int .i64 px, .int .i64 py]] w fun e w' => e = .returned (.int .i64 (PL.dot ax ay bx bY px py)) ∧ Below w.heap.size w w') := fun w => dot_any ax ay bx bY px py w h1 h2 h3 h4 h5 h6
  have kx : Hid (∀ w, Calls Try.prog 10 #[.agg #[.int .i64 ax, .int .i64 ay], .agg #[.int .i64 bx, .int .i64 bY], .agg #[.int .i64 px, .int .i64 py]] w fun e w' => e = .returned (.int .i64 (PL.cross ax ay bx bY px py)) ∧ Below w.heap.size w w') := fun w => cross_any ax ay bx bY px py w h1 h2 h3 h4 h5 h6
  have kl : Hid (∀ w, Calls Try.prog 14 #[.agg #[.int .i64 ax, .int .i64 ay], .agg #[.int .i64 bx, .int .i64 bY]] w fun e w' => e = .returned (.int .i64 (PL.len2 ax ay bx bY)) ∧ Below w.heap.size w w') := fun w => len2_any ax ay bx bY w h1 h2 h3 h4
  have ka : Hid (∀ w, Calls Try.prog 23 #[.agg #[.int .i64 ax, .int .i64 ay], .agg #[.int .i64 px, .int .i64 py], .int .i64 c] w fun e w' => e = .returned (.bool (decide (4 * PL.len2 ax ay px py ≤ c * c))) ∧ Below w.heap.size w w') := fun w => nearEnd_any ax ay px py c w h1 h2 h5 h6 c0 c1
  have kb : Hid (∀ w, Calls Try.prog 23 #[.agg #[.int .i64 bx, .int .i64 bY], .agg #[.int .i64 px, .int .i64 py], .int .i64 c] w fun e w' => e = .returned (.bool (decide (4 * PL.len2 bx bY px py ≤ c * c))) ∧ Below w.heap.size w w') := fun w => nearEnd_any bx bY px py c w h3 h4 h5 h6 c0 c1
  have hx := PL.cross_bound ax ay bx bY px py h1 h2 h3 h4 h5 h6
  have hl := PL.len2_bound ax ay bx bY h1 h2 h3 h4
  have hc := PL.w_bound c c0 c1
  have kn : Hid (∀ w, Calls Try.prog 24 #[.int .i64 (PL.cross ax ay bx bY px py), .int .i64 (PL.len2 ax ay bx bY), .int .i64 c] w fun e w' => e = .returned (.bool (decide (4 * (PL.cross ax ay bx bY px py * PL.cross ax ay bx bY px py) ≤ c * c * PL.len2 ax ay bx bY))) ∧ w' = w) := fun w =>
    nearLine_any (PL.cross ax ay bx bY px py) (PL.len2 ax ay bx bY) c (PL.cross ax ay bx bY px py).natAbs (c * c) w (by omega) (by omega) hl.1 hl.2 rfl hc.1 hc.2
  have HW : Hid (Ways _ _ _ _ _ _) := near_ways ax ay bx bY px py c
  clear h1 h2 h3 h4 h5 h6 hx hl hc c1
  generalize PL.near ax ay bx bY px py c = R at HW ⊢
  generalize decide (4 * (PL.cross ax ay bx bY px py * PL.cross ax ay bx bY px py) ≤ c * c * PL.len2 ax ay bx bY) = E3 at HW kn
  generalize decide (4 * PL.len2 ax ay px py ≤ c * c) = E1 at HW ka
  generalize decide (4 * PL.len2 bx bY px py ≤ c * c) = E2 at HW kb
  generalize PL.cross ax ay bx bY px py = X at kx kn
  generalize PL.len2 ax ay bx bY = L at kl kn HW
  generalize PL.dot ax ay bx bY px py = D at kd HW
  obtain ⟨W0, hW0⟩ : ∃ W, ((w.alloc (.cells #[.int .i64 ax, .int .i64 ay] 23)).alloc (.cells #[.int .i64 bx, .int .i64 bY] 23)).alloc (.cells #[.int .i64 px, .int .i64 py] 23) = W := ⟨_, rfl⟩
  have HA : Hid (Two W0 w.heap.size (.int .i64 ax) (.int .i64 ay)) := by rw [← hW0]; exact ((two_new w _ _ 23 (0, 0)).alloc _).alloc _
  have HB : Hid (Two W0 (w.heap.size + 1) (.int .i64 bx) (.int .i64 bY)) := by have := (two_new (w.alloc (.cells #[.int .i64 ax, .int .i64 ay] 23)) (.int .i64 bx) (.int .i64 bY) 23 (0, 0)).alloc (.cells #[.int .i64 px, .int .i64 py] 23); rw [hW0, size_alloc] at this; exact this
  have HP : Hid (Two W0 (w.heap.size + 1 + 1) (.int .i64 px) (.int .i64 py)) := by have := two_new ((w.alloc (.cells #[.int .i64 ax, .int .i64 ay] 23)).alloc (.cells #[.int .i64 bx, .int .i64 bY] 23)) (.int .i64 px) (.int .i64 py) 23 (0, 0); rw [hW0, size_alloc, size_alloc] at this; exact this
  have BW : Hid (Below w.heap.size w W0) := by rw [← hW0]; exact (((Below.refl _ _).alloc (by omega) _).alloc (by simp) _).alloc (by simp; omega) _
  have HE : Hid (_ = W0) := hW0
  clear hW0
  go_enter Try.func16, Try.ntmps16
  go_wp2
  rw [HE.out]
  clear HE
  go_region_held3 (fun W => W.cell? ⟨w.heap.size, 0, none⟩ = some (.int .i64 ax) ∧ W.cell? ⟨w.heap.size, 1, none⟩ = some (.int .i64 ay) ∧ W.cell? ⟨w.heap.size + 1, 0, none⟩ = some (.int .i64 bx) ∧ W.cell? ⟨w.heap.size + 1, 1, none⟩ = some (.int .i64 bY) ∧ W.cell? ⟨w.heap.size + 1 + 1, 0, none⟩ = some (.int .i64 px) ∧ W.cell? ⟨w.heap.size + 1 + 1, 1, none⟩ = some (.int .i64 py))
    (first | exact two_three (HA.out.below B5.out) (HB.out.below B5.out) (HP.out.below B5.out) | exact two_three (HA.out.below B4.out) (HB.out.below B4.out) (HP.out.below B4.out) | exact two_three HA.out HB.out HP.out)
    (first
    | (go_at_call 14; refine (kl.out w4).mono ?_; rintro e w5 ⟨rfl, hb5⟩; have B5 : Hid (Below W0.heap.size W0 w5) := B4.out.trans (hb5.mono B4.out.size); clear hb5)
    | (go_at_call 12; refine (kd.out W0.drew).mono ?_; rintro e w4 ⟨rfl, hb4⟩; have B4 : Hid (Below W0.heap.size W0 w4) := below_of_drew hb4; clear hb4))
  rename_i hS
  obtain ⟨ca0, ca1, cb0, cb1, cp0, cp1⟩ := two_three (HA.out.below B5.out) (HB.out.below B5.out) (HP.out.below B5.out)
  have B6 : Hid (Below w.heap.size w w5) := BW.out.trans (B5.out.mono BW.out.size)
  clear hS HA HB HP B4 B5 BW kl kd
  rcases HW.out with ⟨d0, rfl⟩ | ⟨d0, d1, rfl⟩ | ⟨d0, d1, rfl⟩
  · clear HW kb kn kx
    go_wp2_with (go_at_call 23; refine (ka.out _).mono ?_; rintro e w6 ⟨rfl, hb6⟩)
    go_ret
    exact ⟨rfl, B6.out.trans (hb6.mono B6.out.size)⟩
  · clear HW ka kn kx
    go_wp2_with (go_at_call 23; refine (kb.out _).mono ?_; rintro e w6 ⟨rfl, hb6⟩)
    go_ret
    exact ⟨rfl, B6.out.trans (hb6.mono B6.out.size)⟩
  · clear HW ka kb
    go_wp2_with (first
      | (go_at_call 10; refine (kx.out _).mono ?_; rintro e w6 ⟨rfl, hb6⟩)
      | (go_at_call 24; refine (kn.out _).mono ?_; rintro e w7 ⟨rfl, rfl⟩))
    go_ret
    exact ⟨rfl, B6.out.trans (hb6.mono B6.out.size)⟩

/-- The chapter's examples. -/
theorem first_any (w : World) : Calls Try.prog 8 #[] w fun e w' => e = .returned (.bool true) ∧ Below w.heap.size w w' := by
  have kn : Hid (∀ w, Calls Try.prog 16 #[.agg #[.int .i64 0, .int .i64 0], .agg #[.int .i64 0, .int .i64 0], .agg #[.int .i64 0, .int .i64 0], .int .i64 0] w fun e w' => e = .returned (.bool true) ∧ Below w.heap.size w w') := fun w => by
    have := near_any 0 0 0 0 0 0 0 w (in_dec _ (by decide)) (in_dec _ (by decide)) (in_dec _ (by decide)) (in_dec _ (by decide)) (in_dec _ (by decide)) (in_dec _ (by decide)) (by decide) (by decide)
    rw [show PL.near 0 0 0 0 0 0 0 = true by decide] at this
    exact this
  have kx : Hid (∀ w, Calls Try.prog 10 #[.agg #[.int .i64 0, .int .i64 0], .agg #[.int .i64 2, .int .i64 0], .agg #[.int .i64 0, .int .i64 1]] w fun e w' => e = .returned (.int .i64 2) ∧ Below w.heap.size w w') := fun w => by
    have := cross_any 0 0 2 0 0 1 w (in_dec _ (by decide)) (in_dec _ (by decide)) (in_dec _ (by decide)) (in_dec _ (by decide)) (in_dec _ (by decide)) (in_dec _ (by decide))
    rw [show PL.cross 0 0 2 0 0 1 = 2 by decide] at this
    exact this
  go_enter Try.func8, Try.ntmps8
  go_wp2_with (first
    | (go_at_call 16; refine (kn.out _).mono ?_; rintro e w1 ⟨rfl, hb1⟩
       have HA : Two w1 w.heap.size (.int .i64 0) (.int .i64 0) := ((two_new w _ _ 23 (0, 0)).alloc _).below hb1
       have HB : Two w1 (w.heap.size + 1) (.int .i64 2) (.int .i64 0) := by have := (two_new (w.alloc (.cells #[.int .i64 0, .int .i64 0] 23)) (.int .i64 2) (.int .i64 0) 23 (0, 0)).below hb1; rw [size_alloc] at this; exact this
       have B1 : Hid (Below w.heap.size w w1) := (((Below.refl _ _).alloc (by omega) _).alloc (by simp) _).trans (hb1.mono (by simp; omega))
       clear hb1
       obtain ⟨_, a0, a1⟩ := HA
       obtain ⟨_, b0, b1⟩ := HB)
    | (go_at_call 10; refine (kx.out _).mono ?_; rintro e w2 ⟨rfl, hb2⟩))
  go_ret
  exact ⟨rfl, B1.out.trans (hb2.mono B1.out.size)⟩

end Go.Proofs.Ytfcpflicfnmkiaa

/-
  The road of the statement ColorUnlike, walked over the program: wide parts in order, unlike colors written unlike.
-/
import Derived.Test.YtlgcbjipfolmbaaColorShow
namespace Go.Proofs.Ytlgcbjipfolmbaa
open Go.RowKit

theorem four_two {W : World} {A B : Nat} {v0 v1 v2 v3 u0 u1 u2 u3 : Value} (h : Four W A v0 v1 v2 v3) (g : Four W B u0 u1 u2 u3) :
    W.cell? ⟨A, 0, none⟩ = some v0 ∧ W.cell? ⟨A, 1, none⟩ = some v1 ∧ W.cell? ⟨A, 2, none⟩ = some v2 ∧ W.cell? ⟨A, 3, none⟩ = some v3 ∧ W.cell? ⟨B, 0, none⟩ = some u0 ∧ W.cell? ⟨B, 1, none⟩ = some u1 ∧ W.cell? ⟨B, 2, none⟩ = some u2 ∧ W.cell? ⟨B, 3, none⟩ = some u3 :=
  ⟨h.2.1, h.2.2.1, h.2.2.2.1, h.2.2.2.2, g.2.1, g.2.2.1, g.2.2.2.1, g.2.2.2.2⟩

set_option maxRecDepth 100000 in
set_option maxHeartbeats 4000000 in
theorem unlike_any (r g b a r' g' b' a' : Nat) (w : World) (hr : r < 256) (hg : g < 256) (hb : b < 256) (ha : a < 256) (hr' : r' < 256) (hg' : g' < 256) (hb' : b' < 256) (ha' : a' < 256) :
    Calls Try.prog 3 #[.agg #[.int .u8 r, .int .u8 g, .int .u8 b, .int .u8 a], .agg #[.int .u8 r', .int .u8 g', .int .u8 b', .int .u8 a']] w fun e w' => e = .returned (.bool true) ∧ Below w.heap.size w w' := by
  have hsame := CP.str_eq (CP.text r g b a) (CP.text r' g' b' a') (CP.text_lt r g b a hr hg hb ha) (CP.text_lt r' g' b' a' hr' hg' hb' ha')
  have hD : decide (CP.text r g b a = CP.text r' g' b' a') = decide (r = r' ∧ g = g' ∧ b = b' ∧ a = a') := by
    rw [Bool.eq_iff_iff, decide_eq_true_iff, decide_eq_true_iff]
    exact ⟨fun h => CP.text_inj hr hg hb ha hr' hg' hb' ha' h, by rintro ⟨rfl, rfl, rfl, rfl⟩; rfl⟩
  rw [hD] at hsame
  have ks1 : Hid (∀ w, Calls Try.prog 6 #[.agg #[.int .u8 r, .int .u8 g, .int .u8 b, .int .u8 a]] w fun e w' => e = .returned (.string (CP.str (CP.text r g b a))) ∧ Below w.heap.size w w') := fun w => show_any r g b a w hr hg hb ha
  have ks2 : Hid (∀ w, Calls Try.prog 6 #[.agg #[.int .u8 r', .int .u8 g', .int .u8 b', .int .u8 a']] w fun e w' => e = .returned (.string (CP.str (CP.text r' g' b' a'))) ∧ Below w.heap.size w w') := fun w => show_any r' g' b' a' w hr' hg' hb' ha'
  have kc : Hid (∀ w, Calls Try.prog 7 #[.agg #[.int .u8 r, .int .u8 g, .int .u8 b, .int .u8 a], .agg #[.int .u8 r', .int .u8 g', .int .u8 b', .int .u8 a']] w fun e w' => e = .returned (.bool (decide (r = r' ∧ g = g' ∧ b = b' ∧ a = a'))) ∧ Below w.heap.size w w') := fun w => same_any r g b a r' g' b' a' w
  obtain ⟨D, hD'⟩ : ∃ D, decide (r = r' ∧ g = g' ∧ b = b' ∧ a = a') = D := ⟨_, rfl⟩
  obtain ⟨s1, hs1⟩ : ∃ s, CP.str (CP.text r g b a) = s := ⟨_, rfl⟩
  obtain ⟨s2, hs2⟩ : ∃ s, CP.str (CP.text r' g' b' a') = s := ⟨_, rfl⟩
  rw [hD'] at hsame kc
  rw [hs1, hs2] at hsame
  rw [hs1] at ks1
  rw [hs2] at ks2
  clear hD hD' hs1 hs2
  have HS : Hid _ := hsame
  clear hsame
  go_enter Try.func3, Try.ntmps3
  go_wp2_with (first
    | (go_at_call 4; refine (first_any _).mono ?_; rintro e w1 ⟨rfl, hb1⟩
       have HA1 : Hid (Four w1 w.heap.size (.int .u8 r) (.int .u8 g) (.int .u8 b) (.int .u8 a)) := ((four_new w _ _ _ _ 23 (0, 0)).alloc _).below hb1
       have HB1 : Hid (Four w1 (w.heap.size + 1) (.int .u8 r') (.int .u8 g') (.int .u8 b') (.int .u8 a')) := (four_next w _ _ _ _ _ 23 (0, 0)).below hb1
       have B1 : Hid (Below w.heap.size w w1) := (((Below.refl _ _).alloc (Nat.le_refl _) _).alloc (by simp) _).trans (hb1.mono (by simp; omega))
       clear hb1
       obtain ⟨_, a0, a1, a2, a3⟩ := HA1.out)
    | (go_at_call_has 5 (Value.int IntKind.u8 (r' : Int)); refine (wide_any r' g' b' a' (w2.alloc (.cells #[.int .i64 (257 * (r : Int)), .int .i64 (257 * (g : Int)), .int .i64 (257 * (b : Int)), .int .i64 (257 * (a : Int))] 25)) hr' hg' hb' ha').mono ?_; rintro e w3 ⟨rfl, hb3⟩
       have HA3 : Hid (Four w3 w.heap.size (.int .u8 r) (.int .u8 g) (.int .u8 b) (.int .u8 a)) := (HA2.out.alloc _).below hb3
       have HB3 : Hid (Four w3 (w.heap.size + 1) (.int .u8 r') (.int .u8 g') (.int .u8 b') (.int .u8 a')) := (HB2.out.alloc _).below hb3
       have HX3 : Hid (Four w3 w2.heap.size (.int .i64 (257 * (r : Int))) (.int .i64 (257 * (g : Int))) (.int .i64 (257 * (b : Int))) (.int .i64 (257 * (a : Int)))) := (four_new w2 _ _ _ _ 25 (0, 0)).below hb3
       have B3 : Hid (Below w.heap.size w w3) := (B2.out.alloc B2.out.size _).trans (hb3.mono (by simp; have := B2.out.size; omega))
       clear hb3 b0 b1 b2 b3 z2 z2'
       obtain ⟨z3, a0, a1, a2, a3⟩ := HA3.out
       obtain ⟨z3', b0, b1, b2, b3⟩ := HB3.out)
    | (go_at_call 5; refine (wide_any r g b a w1 hr hg hb ha).mono ?_; rintro e w2 ⟨rfl, hb2⟩
       have HA2 : Hid (Four w2 w.heap.size (.int .u8 r) (.int .u8 g) (.int .u8 b) (.int .u8 a)) := HA1.out.below hb2
       have HB2 : Hid (Four w2 (w.heap.size + 1) (.int .u8 r') (.int .u8 g') (.int .u8 b') (.int .u8 a')) := HB1.out.below hb2
       have B2 : Hid (Below w.heap.size w w2) := B1.out.trans (hb2.mono B1.out.size)
       clear hb2 a0 a1 a2 a3
       have z2 := HA2.out.1
       obtain ⟨z2', b0, b1, b2, b3⟩ := HB2.out))
  go_simp
  go_loopw [10] (fun i wr => ∃ k : Nat, k ≤ 4 ∧ i = .int .i64 k ∧ Hid (Four wr w.heap.size (.int .u8 r) (.int .u8 g) (.int .u8 b) (.int .u8 a)) ∧ Hid (Four wr (w.heap.size + 1) (.int .u8 r') (.int .u8 g') (.int .u8 b') (.int .u8 a')) ∧
      Hid (Four wr w2.heap.size (.int .i64 (257 * (r : Int))) (.int .i64 (257 * (g : Int))) (.int .i64 (257 * (b : Int))) (.int .i64 (257 * (a : Int)))) ∧
      Hid (Four wr w3.heap.size (.int .i64 (257 * (r' : Int))) (.int .i64 (257 * (g' : Int))) (.int .i64 (257 * (b' : Int))) (.int .i64 (257 * (a' : Int)))) ∧
      Hid (Four wr (w3.heap.size + 1) (.int .u8 r) (.int .u8 g) (.int .u8 b) (.int .u8 a)) ∧
      Hid (Four wr (w3.heap.size + 1 + 1) (.int .u8 r') (.int .u8 g') (.int .u8 b') (.int .u8 a')) ∧ Hid (Below w.heap.size w wr)) (fun i _ => 4 - (intOf i).toNat)
  case atStart =>
    exact ⟨0, by omega, rfl, ((HA3.out.alloc _).alloc _).alloc _, ((HB3.out.alloc _).alloc _).alloc _, ((HX3.out.alloc _).alloc _).alloc _, ((four_new w3 _ _ _ _ 25 (0, 0)).alloc _).alloc _, (four_next w3 _ _ _ _ _ 27 (0, 0)).alloc _,
      by { have := four_next (w3.alloc (.cells #[.int .i64 (257 * (r' : Int)), .int .i64 (257 * (g' : Int)), .int .i64 (257 * (b' : Int)), .int .i64 (257 * (a' : Int))] 25)) (.cells #[.int .u8 r, .int .u8 g, .int .u8 b, .int .u8 a] 27) (.int .u8 r') (.int .u8 g') (.int .u8 b') (.int .u8 a') 27 (0, 0); rw [size_alloc] at this; exact this },
      ((B3.out.alloc B3.out.size _).alloc (by simp; have := B3.out.size; omega) _).alloc (by simp; have := B3.out.size; omega) _⟩
  case round =>
    obtain ⟨k, hk, rfl, HA, HB, HX, HY, HU, HV, BW⟩ := hrel
    clear a0 a1 a2 a3 b0 b1 b2 b3 z3 z3' HA3 HB3 HX3 B3 HA2 HB2 B2 HA1 HB1 B1
    have hcase : k = 0 ∨ k = 1 ∨ k = 2 ∨ k = 3 ∨ k = 4 := by omega
    rcases hcase with rfl | rfl | rfl | rfl | rfl
    · have cx := HX.out.2.1
      have cy := HY.out.2.1
      have cu := HU.out.2.1
      have cv := HV.out.2.1
      have d1 : decide (257 * (r : Int) < 0) = false := by simp; omega
      have d2 : decide (65535 < 257 * (r : Int)) = false := by simp; omega
      have d4 : (257 * (r : Int)).tmod 257 = 0 := by simp
      by_cases hlt : r < r'
      · have e1 : decide (257 * (r : Int) < 257 * (r' : Int)) = true := by simp; omega
        have e2 : decide ((r : Int) < (r' : Int)) = true := by simp; omega
        go_wp2
        go_quiet (fail)
        go_wp2
        go_roundw
        case rel => exact ⟨1, by omega, by go_num, HA, HB, HX, HY, HU, HV, below_drewN BW.out _⟩
        case measure => simp [intOf]
      · have e1 : decide (257 * (r : Int) < 257 * (r' : Int)) = false := by simp; omega
        have e2 : decide ((r : Int) < (r' : Int)) = false := by simp; omega
        go_wp2
        go_quiet (fail)
        go_wp2
        go_roundw
        case rel => exact ⟨1, by omega, by go_num, HA, HB, HX, HY, HU, HV, below_drewN BW.out _⟩
        case measure => simp [intOf]
    · have cx := HX.out.2.2.1
      have cy := HY.out.2.2.1
      have cu := HU.out.2.2.1
      have cv := HV.out.2.2.1
      have d1 : decide (257 * (g : Int) < 0) = false := by simp; omega
      have d2 : decide (65535 < 257 * (g : Int)) = false := by simp; omega
      have d4 : (257 * (g : Int)).tmod 257 = 0 := by simp
      by_cases hlt : g < g'
      · have e1 : decide (257 * (g : Int) < 257 * (g' : Int)) = true := by simp; omega
        have e2 : decide ((g : Int) < (g' : Int)) = true := by simp; omega
        go_wp2
        go_quiet (fail)
        go_wp2
        go_roundw
        case rel => exact ⟨2, by omega, by go_num, HA, HB, HX, HY, HU, HV, below_drewN BW.out _⟩
        case measure => simp [intOf]
      · have e1 : decide (257 * (g : Int) < 257 * (g' : Int)) = false := by simp; omega
        have e2 : decide ((g : Int) < (g' : Int)) = false := by simp; omega
        go_wp2
        go_quiet (fail)
        go_wp2
        go_roundw
        case rel => exact ⟨2, by omega, by go_num, HA, HB, HX, HY, HU, HV, below_drewN BW.out _⟩
        case measure => simp [intOf]
    · have cx := HX.out.2.2.2.1
      have cy := HY.out.2.2.2.1
      have cu := HU.out.2.2.2.1
      have cv := HV.out.2.2.2.1
      have d1 : decide (257 * (b : Int) < 0) = false := by simp; omega
      have d2 : decide (65535 < 257 * (b : Int)) = false := by simp; omega
      have d4 : (257 * (b : Int)).tmod 257 = 0 := by simp
      by_cases hlt : b < b'
      · have e1 : decide (257 * (b : Int) < 257 * (b' : Int)) = true := by simp; omega
        have e2 : decide ((b : Int) < (b' : Int)) = true := by simp; omega
        go_wp2
        go_quiet (fail)
        go_wp2
        go_roundw
        case rel => exact ⟨3, by omega, by go_num, HA, HB, HX, HY, HU, HV, below_drewN BW.out _⟩
        case measure => simp [intOf]
      · have e1 : decide (257 * (b : Int) < 257 * (b' : Int)) = false := by simp; omega
        have e2 : decide ((b : Int) < (b' : Int)) = false := by simp; omega
        go_wp2
        go_quiet (fail)
        go_wp2
        go_roundw
        case rel => exact ⟨3, by omega, by go_num, HA, HB, HX, HY, HU, HV, below_drewN BW.out _⟩
        case measure => simp [intOf]
    · have cx := HX.out.2.2.2.2
      have cy := HY.out.2.2.2.2
      have cu := HU.out.2.2.2.2
      have cv := HV.out.2.2.2.2
      have d1 : decide (257 * (a : Int) < 0) = false := by simp; omega
      have d2 : decide (65535 < 257 * (a : Int)) = false := by simp; omega
      have d4 : (257 * (a : Int)).tmod 257 = 0 := by simp
      by_cases hlt : a < a'
      · have e1 : decide (257 * (a : Int) < 257 * (a' : Int)) = true := by simp; omega
        have e2 : decide ((a : Int) < (a' : Int)) = true := by simp; omega
        go_wp2
        go_quiet (fail)
        go_wp2
        go_roundw
        case rel => exact ⟨4, by omega, by go_num, HA, HB, HX, HY, HU, HV, below_drewN BW.out _⟩
        case measure => simp [intOf]
      · have e1 : decide (257 * (a : Int) < 257 * (a' : Int)) = false := by simp; omega
        have e2 : decide ((a : Int) < (a' : Int)) = false := by simp; omega
        go_wp2
        go_quiet (fail)
        go_wp2
        go_roundw
        case rel => exact ⟨4, by omega, by go_num, HA, HB, HX, HY, HU, HV, below_drewN BW.out _⟩
        case measure => simp [intOf]
    · have hsame := HS.out
      clear HX HY HU HV
      go_wp2
      go_region_held3 (fun W => W.cell? ⟨w.heap.size, 0, none⟩ = some (.int .u8 r) ∧ W.cell? ⟨w.heap.size, 1, none⟩ = some (.int .u8 g) ∧ W.cell? ⟨w.heap.size, 2, none⟩ = some (.int .u8 b) ∧ W.cell? ⟨w.heap.size, 3, none⟩ = some (.int .u8 a) ∧
          W.cell? ⟨w.heap.size + 1, 0, none⟩ = some (.int .u8 r') ∧ W.cell? ⟨w.heap.size + 1, 1, none⟩ = some (.int .u8 g') ∧ W.cell? ⟨w.heap.size + 1, 2, none⟩ = some (.int .u8 b') ∧ W.cell? ⟨w.heap.size + 1, 3, none⟩ = some (.int .u8 a'))
        (first | exact four_two (HA.out.below B6.out) (HB.out.below B6.out) | exact four_two (HA.out.below B5.out) (HB.out.below B5.out) | exact four_two (HA.out.below B4.out) (HB.out.below B4.out) | exact four_two HA.out HB.out)
        (first
        | (go_at_call 7; refine (kc.out w5).mono ?_; rintro e w6 ⟨rfl, hb6⟩; have B6 : Hid (Below wr.heap.size wr w6) := B5.out.trans (hb6.mono B5.out.size); clear hb6)
        | (go_at_call_has 6 (Value.int IntKind.u8 (r' : Int)); refine (ks2.out w4).mono ?_; rintro e w5 ⟨rfl, hb5⟩; have B5 : Hid (Below wr.heap.size wr w5) := B4.out.trans (hb5.mono B4.out.size); clear hb5)
        | (go_at_call 6; refine (ks1.out wr.drew).mono ?_; rintro e w4 ⟨rfl, hb4⟩; have B4 : Hid (Below wr.heap.size wr w4) := below_of_drew hb4; clear hb4))
      go_wp2
      go_ret
      exact ⟨by simp, BW.out.trans (B6.out.mono BW.out.size)⟩

end Go.Proofs.Ytlgcbjipfolmbaa

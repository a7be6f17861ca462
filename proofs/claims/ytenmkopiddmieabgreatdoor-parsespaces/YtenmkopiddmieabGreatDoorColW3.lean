/-
  Parse of package color at a text of the right length that begins as it should: its loop, walked over the program.
-/
import Derived.Test.YtenmkopiddmieabGreatDoorColA
namespace Go.Proofs.YtenmkopiddmieabGreatDoor
open Go.RowKit
namespace CW

theorem or_16 (x y : Nat) (hx : x < 16) (hy : y < 16) : bits .or .i64 ((x : Int) * 16) (y : Int) = ((16 * x + y : Nat) : Int) := by
  have : ∀ (a b : Fin 16), bits .or .i64 (((a.val : Nat) : Int) * 16) ((b.val : Nat) : Int) = ((16 * a.val + b.val : Nat) : Int) := by decide +kernel
  exact this ⟨x, hx⟩ ⟨y, hy⟩

/-- Two bytes of a text, and what they are digits of. -/
theorem pair_at (s : ByteArray) (j : Nat) (h : j + 1 < s.size) : ∃ c d : Nat, c < 256 ∧ d < 256 ∧ (∀ h, (s[j]'h).toNat = c) ∧ (∀ h, (s[j + 1]'h).toNat = d) ∧ (CP.bytes s).drop j = c :: d :: (CP.bytes s).drop (j + 2) := by
  have hl := CP.bytes_len s
  have h1 : j < (CP.bytes s).length := by omega
  have h2 : j + 1 < (CP.bytes s).length := by omega
  refine ⟨(CP.bytes s)[j], (CP.bytes s)[j + 1], CP.bytes_lt s _ (List.getElem_mem _), CP.bytes_lt s _ (List.getElem_mem _), fun h => CP.bytes_at s j h, fun h => CP.bytes_at s (j + 1) h, ?_⟩
  rw [List.drop_eq_getElem_cons h1, List.drop_eq_getElem_cons h2]

theorem below_four {B b : Nat} {a w w' : World} (h : Below B a w) (hb : B ≤ b) (v0 v1 v2 v3 : Value)
    (e1 : w'.os = ((((w.setCell ⟨b, 0, none⟩ v0).setCell ⟨b, 1, none⟩ v1).setCell ⟨b, 2, none⟩ v2).setCell ⟨b, 3, none⟩ v3).os := by rfl) (e2 : w'.tape = ((((w.setCell ⟨b, 0, none⟩ v0).setCell ⟨b, 1, none⟩ v1).setCell ⟨b, 2, none⟩ v2).setCell ⟨b, 3, none⟩ v3).tape := by rfl)
    (e3 : w'.output = ((((w.setCell ⟨b, 0, none⟩ v0).setCell ⟨b, 1, none⟩ v1).setCell ⟨b, 2, none⟩ v2).setCell ⟨b, 3, none⟩ v3).output := by rfl) (e4 : w'.heap = ((((w.setCell ⟨b, 0, none⟩ v0).setCell ⟨b, 1, none⟩ v1).setCell ⟨b, 2, none⟩ v2).setCell ⟨b, 3, none⟩ v3).heap := by rfl) : Below B a w' := by
  have H := (((h.setCell (p := ⟨b, 0, none⟩) hb v0).setCell (p := ⟨b, 1, none⟩) hb v1).setCell (p := ⟨b, 2, none⟩) hb v2).setCell (p := ⟨b, 3, none⟩) hb v3
  exact ⟨by rw [e1]; exact H.os, by rw [e2]; exact H.tape, by rw [e3]; exact H.output, by rw [e4]; exact H.size, by rw [e4]; exact H.block⟩

theorem scan_bad {c d : Nat} {r cs : List Nat} {k : Nat} (h : CP.dig c < 0 ∨ CP.dig d < 0) : CP.scan (c :: d :: r) cs k = none := by rw [CP.scan, if_pos h]
theorem scan_on {c d x y : Nat} {r cs : List Nat} {k : Nat} (hx : CP.dig c = x) (hy : CP.dig d = y) : CP.scan (c :: d :: r) cs k = CP.scan r (cs.set k (16 * x + y)) (k + 1) := by
  rw [CP.scan, if_neg (by omega), hx, hy]
  congr 2

set_option maxRecDepth 20000 in
set_option maxHeartbeats 4000000 in
theorem parse_7 (s : ByteArray) (ea : Addr) (w : World) (hE : ErrT w ea) (hsz : s.size = 7) (h0 : (CP.bytes s).head? = some 35) : Calls Tryz.prog 93 #[.string s] w (ParsePost w ea (CP.parse (CP.bytes s))) := by
  have HE : Hid (ErrT w ea) := hE
  clear hE
  have hz : 0 < s.size := by omega
  have hb := CP.bytes_at s 0 hz
  have h35 : (CP.bytes s)[0]'(by rw [CP.bytes_len]; exact hz) = 35 := by
    rw [List.head?_eq_getElem?, List.getElem?_eq_getElem (by rw [CP.bytes_len]; exact hz)] at h0
    exact Option.some.inj h0
  rw [h35] at hb
  have hbs : ∀ h, (s[0]'h).toNat = 35 := fun _ => hb
  obtain ⟨R, hR⟩ : ∃ R, CP.parse (CP.bytes s) = R := ⟨_, rfl⟩
  have HR : Hid (R = CP.scan ((CP.bytes s).drop 1) [0, 0, 0, 255] 0) := by
    show _ = _
    rw [← hR, CP.parse, if_pos ⟨by rw [CP.bytes_len]; omega, h0⟩, List.drop_one]
  rw [hR]
  have HP : Hid (∀ j, j + 1 < 7 → ∃ c d : Nat, c < 256 ∧ d < 256 ∧ (∀ h, (s[j]'h).toNat = c) ∧ (∀ h, (s[j + 1]'h).toNat = d) ∧ (CP.bytes s).drop j = c :: d :: (CP.bytes s).drop (j + 2)) := fun j h => pair_at s j (by omega)
  have HL : Hid ((CP.bytes s).drop 7 = []) := by show _ = _; exact List.drop_eq_nil_of_le (by rw [CP.bytes_len, hsz]; omega)
  clear hb h35 h0 hR hz
  go_enter Tryz.func93, Tryz.ntmps93
  go_wp2
  clear hbs
  go_loopw [5] (fun i wr => ∃ k j p0 p1 p2 p3 : Nat, k ≤ 3 ∧ j = 2 * k + 1 ∧ i = .int .i64 j ∧ Hid (R = CP.scan ((CP.bytes s).drop j) [p0, p1, p2, p3] k) ∧ Hid (Four wr (w.heap.size + 1) (.int .u8 p0) (.int .u8 p1) (.int .u8 p2) (.int .u8 p3)) ∧
      Hid (∀ o, wr.frozen? ⟨w.heap.size + 1, o, none⟩ = false) ∧ Hid (Below (w.heap.size + 1) (w.alloc (.cells #[.int .u8 0, .int .u8 0, .int .u8 0, .int .u8 0] 56)) wr)) (fun i _ => 7 - (intOf i).toNat)
  case atStart =>
    exact ⟨0, 1, 0, 0, 0, 255, by omega, rfl, rfl, HR.out, four_next w _ _ _ _ _ 156 (0, 0), fun o => World.frozen?_alloc_at _ _ _ _ (by simp), (Below.refl _ _).alloc (by simp) _⟩
  case round =>
    obtain ⟨k, j, p0, p1, p2, p3, hk, hj, rfl, HS, HF, HZ, HB⟩ := hrel
    have hcase : k = 0 ∨ k = 1 ∨ k = 2 ∨ k = 3 := by omega
    have HW : Hid (Below w.heap.size w wr) := ((Below.refl _ _).alloc (Nat.le_refl _) _).trans (HB.out.mono (Nat.le_succ _))
    obtain ⟨q0, q1, q2, q3⟩ := box_cells HB.out
    have qf : ∀ o, wr.frozen? ⟨w.heap.size, o, none⟩ = false := fun o => by rw [HB.out.frozen (p := ⟨w.heap.size, o, none⟩) (by simp)]; exact World.frozen?_alloc_at _ _ _ _ rfl
    rcases hcase with rfl | rfl | rfl | rfl
    · obtain rfl : j = 1 := hj
      obtain ⟨c, d, hc, hd, e1, e2, hdrop⟩ := HP.out 1 (by omega)
      have HD : Hid ((CP.bytes s).drop 1 = c :: d :: (CP.bytes s).drop 3) := hdrop
      clear hdrop
      have pk := HF.out.2.1
      have pf := HZ.out 0
      have lc := CP.dig_le c
      have ld := CP.dig_le d
      obtain ⟨X, hX⟩ : ∃ X, CP.dig c = X := ⟨_, rfl⟩
      obtain ⟨Y, hY⟩ : ∃ Y, CP.dig d = Y := ⟨_, rfl⟩
      have K1 : Hid (∀ w, Calls Tryz.prog 102 #[.int .u8 c] w fun e w' => e = .returned (.int .i64 X) ∧ w' = w) := fun w => by rw [← hX]; exact digit_any c w hc
      have K2 : Hid (∀ w, Calls Tryz.prog 102 #[.int .u8 d] w fun e w' => e = .returned (.int .i64 Y) ∧ w' = w) := fun w => by rw [← hY]; exact digit_any d w hd
      rw [hX] at lc
      rw [hY] at ld
      have HX : Hid (CP.dig c = X) := hX
      have HY : Hid (CP.dig d = Y) := hY
      clear hX hY
      by_cases hbad : X < 0 ∨ Y < 0
      · have HN : Hid (R = none) := by show _ = _; rw [HS.out, HD.out]; exact scan_bad (by rw [HX.out, HY.out]; exact hbad)
        obtain ⟨e0, _⟩ := HE.out.below HW.out
        have z0 := HE.out.2
        have z9 : 0 < w.heap.size := by omega
        have z0' : ¬ w.heap.size = 0 := by omega
        have hdec : (decide (X < 0) || decide (Y < 0)) = true := by simpa using hbad
        go_wp2
        go_quiet (first | (go_at_call_has 102 (Value.int IntKind.u8 (c : Int)); refine Calls.quiet_of_same (K1.out _)) | (go_at_call_has 102 (Value.int IntKind.u8 (d : Int)); refine Calls.quiet_of_same (K2.out _)))
        rcases hbad with hbad | hbad
        all_goals go_wp2
        all_goals go_region
        all_goals go_wp2
        all_goals exact bodyPost_ret (v := .tuple #[.agg #[.int .u8 0, .int .u8 0, .int .u8 0, .int .u8 0], .iface 167 (.pointer (some ea))]) (by simp [results, Tryz.results93, go_sem, q0, q1, q2, q3]) rfl ⟨.inr ⟨HN.out, rfl⟩, below_four HW.out (Nat.le_refl _) _ _ _ _⟩
      · obtain ⟨x, rfl⟩ : ∃ x : Nat, X = x := ⟨X.toNat, by omega⟩
        obtain ⟨y, rfl⟩ : ∃ y : Nat, Y = y := ⟨Y.toNat, by omega⟩
        have hor := or_16 x y (by omega) (by omega)
        go_wp2
        go_quiet (first | (go_at_call_has 102 (Value.int IntKind.u8 (c : Int)); refine Calls.quiet_of_same (K1.out _)) | (go_at_call_has 102 (Value.int IntKind.u8 (d : Int)); refine Calls.quiet_of_same (K2.out _)))
        go_wp2
        go_roundw
        case rel => exact ⟨1, 3, (16 * x + y), p1, p2, p3, by omega, by omega, by go_num, by show _ = _; rw [HS.out, HD.out, scan_on HX.out HY.out]; rfl, four_set0 HF.out _, fun o => by simpa using HZ.out o, below_drewN (HB.out.setCell (Nat.le_refl _) _) _⟩
        case measure => simp [intOf]
    · obtain rfl : j = 3 := hj
      obtain ⟨c, d, hc, hd, e1, e2, hdrop⟩ := HP.out 3 (by omega)
      have HD : Hid ((CP.bytes s).drop 3 = c :: d :: (CP.bytes s).drop 5) := hdrop
      clear hdrop
      have pk := HF.out.2.2.1
      have pf := HZ.out 1
      have lc := CP.dig_le c
      have ld := CP.dig_le d
      obtain ⟨X, hX⟩ : ∃ X, CP.dig c = X := ⟨_, rfl⟩
      obtain ⟨Y, hY⟩ : ∃ Y, CP.dig d = Y := ⟨_, rfl⟩
      have K1 : Hid (∀ w, Calls Tryz.prog 102 #[.int .u8 c] w fun e w' => e = .returned (.int .i64 X) ∧ w' = w) := fun w => by rw [← hX]; exact digit_any c w hc
      have K2 : Hid (∀ w, Calls Tryz.prog 102 #[.int .u8 d] w fun e w' => e = .returned (.int .i64 Y) ∧ w' = w) := fun w => by rw [← hY]; exact digit_any d w hd
      rw [hX] at lc
      rw [hY] at ld
      have HX : Hid (CP.dig c = X) := hX
      have HY : Hid (CP.dig d = Y) := hY
      clear hX hY
      by_cases hbad : X < 0 ∨ Y < 0
      · have HN : Hid (R = none) := by show _ = _; rw [HS.out, HD.out]; exact scan_bad (by rw [HX.out, HY.out]; exact hbad)
        obtain ⟨e0, _⟩ := HE.out.below HW.out
        have z0 := HE.out.2
        have z9 : 0 < w.heap.size := by omega
        have z0' : ¬ w.heap.size = 0 := by omega
        have hdec : (decide (X < 0) || decide (Y < 0)) = true := by simpa using hbad
        go_wp2
        go_quiet (first | (go_at_call_has 102 (Value.int IntKind.u8 (c : Int)); refine Calls.quiet_of_same (K1.out _)) | (go_at_call_has 102 (Value.int IntKind.u8 (d : Int)); refine Calls.quiet_of_same (K2.out _)))
        rcases hbad with hbad | hbad
        all_goals go_wp2
        all_goals go_region
        all_goals go_wp2
        all_goals exact bodyPost_ret (v := .tuple #[.agg #[.int .u8 0, .int .u8 0, .int .u8 0, .int .u8 0], .iface 167 (.pointer (some ea))]) (by simp [results, Tryz.results93, go_sem, q0, q1, q2, q3]) rfl ⟨.inr ⟨HN.out, rfl⟩, below_four HW.out (Nat.le_refl _) _ _ _ _⟩
      · obtain ⟨x, rfl⟩ : ∃ x : Nat, X = x := ⟨X.toNat, by omega⟩
        obtain ⟨y, rfl⟩ : ∃ y : Nat, Y = y := ⟨Y.toNat, by omega⟩
        have hor := or_16 x y (by omega) (by omega)
        go_wp2
        go_quiet (first | (go_at_call_has 102 (Value.int IntKind.u8 (c : Int)); refine Calls.quiet_of_same (K1.out _)) | (go_at_call_has 102 (Value.int IntKind.u8 (d : Int)); refine Calls.quiet_of_same (K2.out _)))
        go_wp2
        go_roundw
        case rel => exact ⟨2, 5, p0, (16 * x + y), p2, p3, by omega, by omega, by go_num, by show _ = _; rw [HS.out, HD.out, scan_on HX.out HY.out]; rfl, four_set1 HF.out _, fun o => by simpa using HZ.out o, below_drewN (HB.out.setCell (Nat.le_refl _) _) _⟩
        case measure => simp [intOf]
    · obtain rfl : j = 5 := hj
      obtain ⟨c, d, hc, hd, e1, e2, hdrop⟩ := HP.out 5 (by omega)
      have HD : Hid ((CP.bytes s).drop 5 = c :: d :: (CP.bytes s).drop 7) := hdrop
      clear hdrop
      have pk := HF.out.2.2.2.1
      have pf := HZ.out 2
      have lc := CP.dig_le c
      have ld := CP.dig_le d
      obtain ⟨X, hX⟩ : ∃ X, CP.dig c = X := ⟨_, rfl⟩
      obtain ⟨Y, hY⟩ : ∃ Y, CP.dig d = Y := ⟨_, rfl⟩
      have K1 : Hid (∀ w, Calls Tryz.prog 102 #[.int .u8 c] w fun e w' => e = .returned (.int .i64 X) ∧ w' = w) := fun w => by rw [← hX]; exact digit_any c w hc
      have K2 : Hid (∀ w, Calls Tryz.prog 102 #[.int .u8 d] w fun e w' => e = .returned (.int .i64 Y) ∧ w' = w) := fun w => by rw [← hY]; exact digit_any d w hd
      rw [hX] at lc
      rw [hY] at ld
      have HX : Hid (CP.dig c = X) := hX
      have HY : Hid (CP.dig d = Y) := hY
      clear hX hY
      by_cases hbad : X < 0 ∨ Y < 0
      · have HN : Hid (R = none) := by show _ = _; rw [HS.out, HD.out]; exact scan_bad (by rw [HX.out, HY.out]; exact hbad)
        obtain ⟨e0, _⟩ := HE.out.below HW.out
        have z0 := HE.out.2
        have z9 : 0 < w.heap.size := by omega
        have z0' : ¬ w.heap.size = 0 := by omega
        have hdec : (decide (X < 0) || decide (Y < 0)) = true := by simpa using hbad
        go_wp2
        go_quiet (first | (go_at_call_has 102 (Value.int IntKind.u8 (c : Int)); refine Calls.quiet_of_same (K1.out _)) | (go_at_call_has 102 (Value.int IntKind.u8 (d : Int)); refine Calls.quiet_of_same (K2.out _)))
        rcases hbad with hbad | hbad
        all_goals go_wp2
        all_goals go_region
        all_goals go_wp2
        all_goals exact bodyPost_ret (v := .tuple #[.agg #[.int .u8 0, .int .u8 0, .int .u8 0, .int .u8 0], .iface 167 (.pointer (some ea))]) (by simp [results, Tryz.results93, go_sem, q0, q1, q2, q3]) rfl ⟨.inr ⟨HN.out, rfl⟩, below_four HW.out (Nat.le_refl _) _ _ _ _⟩
      · obtain ⟨x, rfl⟩ : ∃ x : Nat, X = x := ⟨X.toNat, by omega⟩
        obtain ⟨y, rfl⟩ : ∃ y : Nat, Y = y := ⟨Y.toNat, by omega⟩
        have hor := or_16 x y (by omega) (by omega)
        go_wp2
        go_quiet (first | (go_at_call_has 102 (Value.int IntKind.u8 (c : Int)); refine Calls.quiet_of_same (K1.out _)) | (go_at_call_has 102 (Value.int IntKind.u8 (d : Int)); refine Calls.quiet_of_same (K2.out _)))
        go_wp2
        go_roundw
        case rel => exact ⟨3, 7, p0, p1, (16 * x + y), p3, by omega, by omega, by go_num, by show _ = _; rw [HS.out, HD.out, scan_on HX.out HY.out]; rfl, four_set2 HF.out _, fun o => by simpa using HZ.out o, below_drewN (HB.out.setCell (Nat.le_refl _) _) _⟩
        case measure => simp [intOf]
    · obtain rfl : j = 7 := hj
      have HN : Hid (R = some [p0, p1, p2, p3]) := by show _ = _; rw [HS.out, HL.out]; rfl
      obtain ⟨_, c0, c1, c2, c3⟩ := HF.out
      go_wp2
      exact bodyPost_ret (v := .tuple #[.agg #[.int .u8 p0, .int .u8 p1, .int .u8 p2, .int .u8 p3], .nilIface]) (by simp [results, Tryz.results93, go_sem, q0, q1, q2, q3]) rfl ⟨.inl ⟨p0, p1, p2, p3, HN.out, rfl⟩, below_four HW.out (Nat.le_refl _) _ _ _ _⟩

end CW
end Go.Proofs.YtenmkopiddmieabGreatDoor

/-
  The document's own reading of a color's text, walked over its text.
-/
import Derived.Test.YtlgcbjipfolmbaaDoorColorParse2
import Derived.Test.YtlgcbjipfolmbaaDoorColorRef
namespace Go.Proofs.YtlgcbjipfolmbaaDoor
open Go.RowKit

def RParsePost (w : World) (R : Option (List Nat)) (e : Ending) (w' : World) : Prop :=
  ((∃ r g b a : Nat, R = some [r, g, b, a] ∧ e = .returned (.tuple #[.agg #[.int .u8 r, .int .u8 g, .int .u8 b, .int .u8 a], .bool true])) ∨
    R = none ∧ e = .returned (.tuple #[.agg #[.int .u8 0, .int .u8 0, .int .u8 0, .int .u8 0], .bool false])) ∧ Below w.heap.size w w'

set_option maxRecDepth 20000 in
set_option maxHeartbeats 1000000 in
theorem rparse_len (s : ByteArray) (w : World) (h7 : s.size ≠ 7) (h9 : s.size ≠ 9) : Calls Tryd.prog 8 #[.string s] w (RParsePost w (CP.parse (CP.bytes s))) := by
  have HR : Hid (CP.parse (CP.bytes s) = none) := CP.parse_len _ (by rw [CP.bytes_len]; exact h7) (by rw [CP.bytes_len]; exact h9)
  have d7 : ((s.size : Int) == 7) = false := by simp; omega
  have d9 : ((s.size : Int) == 9) = false := by simp; omega
  go_enter Tryd.func8, Tryd.ntmps8
  go_wp2
  all_goals exact bodyPost_ret (v := .tuple #[.agg #[.int .u8 0, .int .u8 0, .int .u8 0, .int .u8 0], .bool false]) (by simp [results, Tryd.results8, go_sem]) rfl ⟨.inr ⟨HR.out, rfl⟩, (Below.refl _ _).alloc (Nat.le_refl _) _⟩

set_option maxRecDepth 20000 in
set_option maxHeartbeats 1000000 in
theorem rparse_sign (s : ByteArray) (w : World) (h79 : s.size = 7 ∨ s.size = 9) (h0 : (CP.bytes s).head? ≠ some 35) : Calls Tryd.prog 8 #[.string s] w (RParsePost w (CP.parse (CP.bytes s))) := by
  have HR : Hid (CP.parse (CP.bytes s) = none) := by
    show _ = _
    unfold CP.parse
    rw [if_neg (fun h => h0 h.2)]
  have hz : 0 < s.size := by omega
  have hb := CP.bytes_at s 0 hz
  obtain ⟨c, hc⟩ : ∃ c, (CP.bytes s)[0]'(by rw [CP.bytes_len]; exact hz) = c := ⟨_, rfl⟩
  rw [hc] at hb
  have hc35 : c ≠ 35 := by
    intro h
    apply h0
    rw [List.head?_eq_getElem?, List.getElem?_eq_getElem (by rw [CP.bytes_len]; exact hz), hc, h]
  have d35 : ((c : Int) == 35) = false := by simp; omega
  clear h0 hc
  have hbs : ∀ h, (s[0]'h).toNat = c := fun _ => hb
  clear hb
  rcases h79 with h7 | h9
  · go_enter Tryd.func8, Tryd.ntmps8
    go_wp2
    all_goals exact bodyPost_ret (v := .tuple #[.agg #[.int .u8 0, .int .u8 0, .int .u8 0, .int .u8 0], .bool false]) (by simp [results, Tryd.results8, go_sem]) rfl ⟨.inr ⟨HR.out, rfl⟩, (Below.refl _ _).alloc (Nat.le_refl _) _⟩
  · go_enter Tryd.func8, Tryd.ntmps8
    go_wp2
    all_goals exact bodyPost_ret (v := .tuple #[.agg #[.int .u8 0, .int .u8 0, .int .u8 0, .int .u8 0], .bool false]) (by simp [results, Tryd.results8, go_sem]) rfl ⟨.inr ⟨HR.out, rfl⟩, (Below.refl _ _).alloc (Nat.le_refl _) _⟩

set_option maxRecDepth 20000 in
set_option maxHeartbeats 4000000 in
theorem rparse_7 (s : ByteArray) (w : World) (hsz : s.size = 7) (h0 : (CP.bytes s).head? = some 35) : Calls Tryd.prog 8 #[.string s] w (RParsePost w (CP.parse (CP.bytes s))) := by
  have hz : 0 < s.size := by omega
  have hb := CP.bytes_at s 0 hz
  have h35 : (CP.bytes s)[0]'(by rw [CP.bytes_len]; exact hz) = 35 := by
    rw [List.head?_eq_getElem?, List.getElem?_eq_getElem (by rw [CP.bytes_len]; exact hz)] at h0
    exact Option.some.inj h0
  rw [h35] at hb
  have hbs : ∀ h, (s[0]'h).toNat = 35 := fun _ => hb
  obtain ⟨R, hR⟩ : ∃ R, CP.parse (CP.bytes s) = R := ⟨_, rfl⟩
  have HR : Hid (R = CP.scan ((CP.bytes s).drop 1) [0, 0, 0, 255] 0) := by
    show _ = _
    rw [← hR, CP.parse, if_pos ⟨by rw [CP.bytes_len]; omega, h0⟩, List.drop_one]
  rw [hR]
  have HP : Hid (∀ j, j + 1 < 7 → ∃ c d : Nat, c < 256 ∧ d < 256 ∧ (∀ h, (s[j]'h).toNat = c) ∧ (∀ h, (s[j + 1]'h).toNat = d) ∧ (CP.bytes s).drop j = c :: d :: (CP.bytes s).drop (j + 2)) := fun j h => pair_at s j (by omega)
  have HL : Hid ((CP.bytes s).drop 7 = []) := by show _ = _; exact List.drop_eq_nil_of_le (by rw [CP.bytes_len, hsz]; omega)
  clear hb h35 h0 hR hz
  go_enter Tryd.func8, Tryd.ntmps8
  go_wp2
  clear hbs
  go_loopw [5] (fun i wr => ∃ k j p0 p1 p2 p3 : Nat, k ≤ 3 ∧ j = 2 * k + 1 ∧ i = .int .i64 k ∧ Hid (R = CP.scan ((CP.bytes s).drop j) [p0, p1, p2, p3] k) ∧ Hid (Four wr (w.heap.size + 1) (.int .u8 p0) (.int .u8 p1) (.int .u8 p2) (.int .u8 p3)) ∧
      Hid (∀ o, wr.frozen? ⟨w.heap.size + 1, o, none⟩ = false) ∧ Hid (Below (w.heap.size + 1) (w.alloc (.cells #[.int .u8 0, .int .u8 0, .int .u8 0, .int .u8 0] 23)) wr)) (fun i _ => 3 - (intOf i).toNat)
  case atStart =>
    exact ⟨0, 1, 0, 0, 0, 255, by omega, rfl, rfl, HR.out, four_next w _ _ _ _ _ 41 (0, 0), fun o => World.frozen?_alloc_at _ _ _ _ (by simp), (Below.refl _ _).alloc (by simp) _⟩
  case round =>
    obtain ⟨k, j, p0, p1, p2, p3, hk, hj, rfl, HS, HF, HZ, HB⟩ := hrel
    have hcase : k = 0 ∨ k = 1 ∨ k = 2 ∨ k = 3 := by omega
    have HW : Hid (Below w.heap.size w wr) := ((Below.refl _ _).alloc (Nat.le_refl _) _).trans (HB.out.mono (Nat.le_succ _))
    obtain ⟨q0, q1, q2, q3⟩ := box_cells HB.out
    have qf : ∀ o, wr.frozen? ⟨w.heap.size, o, none⟩ = false := fun o => by rw [HB.out.frozen (p := ⟨w.heap.size, o, none⟩) (by simp)]; exact World.frozen?_alloc_at _ _ _ _ rfl
    rcases hcase with rfl | rfl | rfl | rfl
    · obtain rfl : j = 1 := hj
      obtain ⟨c, d, hc, hd, e1, e2, hdrop⟩ := HP.out 1 (by omega)
      have HD : Hid ((CP.bytes s).drop 1 = c :: d :: (CP.bytes s).drop 3) := hdrop
      clear hdrop
      have pk := HF.out.2.1
      have pf := HZ.out 0
      have lc := CP.dig_le c
      have ld := CP.dig_le d
      obtain ⟨X, hX⟩ : ∃ X, CP.dig c = X := ⟨_, rfl⟩
      obtain ⟨Y, hY⟩ : ∃ Y, CP.dig d = Y := ⟨_, rfl⟩
      have K1 : Hid (∀ w, Calls Tryd.prog 16 #[.int .u8 c] w fun e w' => e = .returned (.int .i64 X) ∧ w' = w) := fun w => by rw [← hX]; exact rdigit_any c w hc
      have K2 : Hid (∀ w, Calls Tryd.prog 16 #[.int .u8 d] w fun e w' => e = .returned (.int .i64 Y) ∧ w' = w) := fun w => by rw [← hY]; exact rdigit_any d w hd
      rw [hX] at lc
      rw [hY] at ld
      have HX : Hid (CP.dig c = X) := hX
      have HY : Hid (CP.dig d = Y) := hY
      clear hX hY
      by_cases hbad : X < 0 ∨ Y < 0
      · have HN : Hid (R = none) := by show _ = _; rw [HS.out, HD.out]; exact scan_bad (by rw [HX.out, HY.out]; exact hbad)
        have hdec : (decide (X < 0) || decide (Y < 0)) = true := by simpa using hbad
        rcases hbad with hbad | hbad
        all_goals go_wp2_with (first | (go_at_call_has 16 (Value.int IntKind.u8 (c : Int)); refine (K1.out _).mono ?_; rintro e w' ⟨rfl, rfl⟩) | (go_at_call_has 16 (Value.int IntKind.u8 (d : Int)); refine (K2.out _).mono ?_; rintro e w' ⟨rfl, rfl⟩))
        all_goals exact bodyPost_ret (v := .tuple #[.agg #[.int .u8 0, .int .u8 0, .int .u8 0, .int .u8 0], .bool false]) (by simp [results, Tryd.results8, go_sem, q0, q1, q2, q3]) rfl ⟨.inr ⟨HN.out, rfl⟩, below_four HW.out (Nat.le_refl _) _ _ _ _⟩
      · obtain ⟨x, rfl⟩ : ∃ x : Nat, X = x := ⟨X.toNat, by omega⟩
        obtain ⟨y, rfl⟩ : ∃ y : Nat, Y = y := ⟨Y.toNat, by omega⟩
        obtain ⟨v, hv⟩ : ∃ v, 16 * x + y = v := ⟨_, rfl⟩
        have hlt : v < 256 := by omega
        have hsum : 16 * (x : Int) + (y : Int) = (v : Int) := by omega
        have HV : Hid (16 * x + y = v) := hv
        clear hv
        go_wp2_with (first | (go_at_call_has 16 (Value.int IntKind.u8 (c : Int)); refine (K1.out _).mono ?_; rintro e w' ⟨rfl, rfl⟩) | (go_at_call_has 16 (Value.int IntKind.u8 (d : Int)); refine (K2.out _).mono ?_; rintro e w' ⟨rfl, rfl⟩))
        go_roundw
        case rel => exact ⟨1, 3, v, p1, p2, p3, by omega, by omega, by go_num, by show _ = _; rw [HS.out, HD.out, scan_on HX.out HY.out, HV.out]; rfl, four_set0 HF.out _, fun o => by simpa using HZ.out o, HB.out.setCell (Nat.le_refl _) _⟩
        case measure => simp [intOf]
    · obtain rfl : j = 3 := hj
      obtain ⟨c, d, hc, hd, e1, e2, hdrop⟩ := HP.out 3 (by omega)
      have HD : Hid ((CP.bytes s).drop 3 = c :: d :: (CP.bytes s).drop 5) := hdrop
      clear hdrop
      have pk := HF.out.2.2.1
      have pf := HZ.out 1
      have lc := CP.dig_le c
      have ld := CP.dig_le d
      obtain ⟨X, hX⟩ : ∃ X, CP.dig c = X := ⟨_, rfl⟩
      obtain ⟨Y, hY⟩ : ∃ Y, CP.dig d = Y := ⟨_, rfl⟩
      have K1 : Hid (∀ w, Calls Tryd.prog 16 #[.int .u8 c] w fun e w' => e = .returned (.int .i64 X) ∧ w' = w) := fun w => by rw [← hX]; exact rdigit_any c w hc
      have K2 : Hid (∀ w, Calls Tryd.prog 16 #[.int .u8 d] w fun e w' => e = .returned (.int .i64 Y) ∧ w' = w) := fun w => by rw [← hY]; exact rdigit_any d w hd
      rw [hX] at lc
      rw [hY] at ld
      have HX : Hid (CP.dig c = X) := hX
      have HY : Hid (CP.dig d = Y) := hY
      clear hX hY
      by_cases hbad : X < 0 ∨ Y < 0
      · have HN : Hid (R = none) := by show _ = _; rw [HS.out, HD.out]; exact scan_bad (by rw [HX.out, HY.out]; exact hbad)
        have hdec : (decide (X < 0) || decide (Y < 0)) = true := by simpa using hbad
        rcases hbad with hbad | hbad
        all_goals go_wp2_with (first | (go_at_call_has 16 (Value.int IntKind.u8 (c : Int)); refine (K1.out _).mono ?_; rintro e w' ⟨rfl, rfl⟩) | (go_at_call_has 16 (Value.int IntKind.u8 (d : Int)); refine (K2.out _).mono ?_; rintro e w' ⟨rfl, rfl⟩))
        all_goals exact bodyPost_ret (v := .tuple #[.agg #[.int .u8 0, .int .u8 0, .int .u8 0, .int .u8 0], .bool false]) (by simp [results, Tryd.results8, go_sem, q0, q1, q2, q3]) rfl ⟨.inr ⟨HN.out, rfl⟩, below_four HW.out (Nat.le_refl _) _ _ _ _⟩
      · obtain ⟨x, rfl⟩ : ∃ x : Nat, X = x := ⟨X.toNat, by omega⟩
        obtain ⟨y, rfl⟩ : ∃ y : Nat, Y = y := ⟨Y.toNat, by omega⟩
        obtain ⟨v, hv⟩ : ∃ v, 16 * x + y = v := ⟨_, rfl⟩
        have hlt : v < 256 := by omega
        have hsum : 16 * (x : Int) + (y : Int) = (v : Int) := by omega
        have HV : Hid (16 * x + y = v) := hv
        clear hv
        go_wp2_with (first | (go_at_call_has 16 (Value.int IntKind.u8 (c : Int)); refine (K1.out _).mono ?_; rintro e w' ⟨rfl, rfl⟩) | (go_at_call_has 16 (Value.int IntKind.u8 (d : Int)); refine (K2.out _).mono ?_; rintro e w' ⟨rfl, rfl⟩))
        go_roundw
        case rel => exact ⟨2, 5, p0, v, p2, p3, by omega, by omega, by go_num, by show _ = _; rw [HS.out, HD.out, scan_on HX.out HY.out, HV.out]; rfl, four_set1 HF.out _, fun o => by simpa using HZ.out o, HB.out.setCell (Nat.le_refl _) _⟩
        case measure => simp [intOf]
    · obtain rfl : j = 5 := hj
      obtain ⟨c, d, hc, hd, e1, e2, hdrop⟩ := HP.out 5 (by omega)
      have HD : Hid ((CP.bytes s).drop 5 = c :: d :: (CP.bytes s).drop 7) := hdrop
      clear hdrop
      have pk := HF.out.2.2.2.1
      have pf := HZ.out 2
      have lc := CP.dig_le c
      have ld := CP.dig_le d
      obtain ⟨X, hX⟩ : ∃ X, CP.dig c = X := ⟨_, rfl⟩
      obtain ⟨Y, hY⟩ : ∃ Y, CP.dig d = Y := ⟨_, rfl⟩
      have K1 : Hid (∀ w, Calls Tryd.prog 16 #[.int .u8 c] w fun e w' => e = .returned (.int .i64 X) ∧ w' = w) := fun w => by rw [← hX]; exact rdigit_any c w hc
      have K2 : Hid (∀ w, Calls Tryd.prog 16 #[.int .u8 d] w fun e w' => e = .returned (.int .i64 Y) ∧ w' = w) := fun w => by rw [← hY]; exact rdigit_any d w hd
      rw [hX] at lc
      rw [hY] at ld
      have HX : Hid (CP.dig c = X) := hX
      have HY : Hid (CP.dig d = Y) := hY
      clear hX hY
      by_cases hbad : X < 0 ∨ Y < 0
      · have HN : Hid (R = none) := by show _ = _; rw [HS.out, HD.out]; exact scan_bad (by rw [HX.out, HY.out]; exact hbad)
        have hdec : (decide (X < 0) || decide (Y < 0)) = true := by simpa using hbad
        rcases hbad with hbad | hbad
        all_goals go_wp2_with (first | (go_at_call_has 16 (Value.int IntKind.u8 (c : Int)); refine (K1.out _).mono ?_; rintro e w' ⟨rfl, rfl⟩) | (go_at_call_has 16 (Value.int IntKind.u8 (d : Int)); refine (K2.out _).mono ?_; rintro e w' ⟨rfl, rfl⟩))
        all_goals exact bodyPost_ret (v := .tuple #[.agg #[.int .u8 0, .int .u8 0, .int .u8 0, .int .u8 0], .bool false]) (by simp [results, Tryd.results8, go_sem, q0, q1, q2, q3]) rfl ⟨.inr ⟨HN.out, rfl⟩, below_four HW.out (Nat.le_refl _) _ _ _ _⟩
      · obtain ⟨x, rfl⟩ : ∃ x : Nat, X = x := ⟨X.toNat, by omega⟩
        obtain ⟨y, rfl⟩ : ∃ y : Nat, Y = y := ⟨Y.toNat, by omega⟩
        obtain ⟨v, hv⟩ : ∃ v, 16 * x + y = v := ⟨_, rfl⟩
        have hlt : v < 256 := by omega
        have hsum : 16 * (x : Int) + (y : Int) = (v : Int) := by omega
        have HV : Hid (16 * x + y = v) := hv
        clear hv
        go_wp2_with (first | (go_at_call_has 16 (Value.int IntKind.u8 (c : Int)); refine (K1.out _).mono ?_; rintro e w' ⟨rfl, rfl⟩) | (go_at_call_has 16 (Value.int IntKind.u8 (d : Int)); refine (K2.out _).mono ?_; rintro e w' ⟨rfl, rfl⟩))
        go_roundw
        case rel => exact ⟨3, 7, p0, p1, v, p3, by omega, by omega, by go_num, by show _ = _; rw [HS.out, HD.out, scan_on HX.out HY.out, HV.out]; rfl, four_set2 HF.out _, fun o => by simpa using HZ.out o, HB.out.setCell (Nat.le_refl _) _⟩
        case measure => simp [intOf]
    · obtain rfl : j = 7 := hj
      have HN : Hid (R = some [p0, p1, p2, p3]) := by show _ = _; rw [HS.out, HL.out]; rfl
      obtain ⟨_, c0, c1, c2, c3⟩ := HF.out
      go_wp2
      exact bodyPost_ret (v := .tuple #[.agg #[.int .u8 p0, .int .u8 p1, .int .u8 p2, .int .u8 p3], .bool true]) (by simp [results, Tryd.results8, go_sem, q0, q1, q2, q3]) rfl ⟨.inl ⟨p0, p1, p2, p3, HN.out, rfl⟩, below_four HW.out (Nat.le_refl _) _ _ _ _⟩

set_option maxRecDepth 20000 in
set_option maxHeartbeats 4000000 in
theorem rparse_9 (s : ByteArray) (w : World) (hsz : s.size = 9) (h0 : (CP.bytes s).head? = some 35) : Calls Tryd.prog 8 #[.string s] w (RParsePost w (CP.parse (CP.bytes s))) := by
  have hz : 0 < s.size := by omega
  have hb := CP.bytes_at s 0 hz
  have h35 : (CP.bytes s)[0]'(by rw [CP.bytes_len]; exact hz) = 35 := by
    rw [List.head?_eq_getElem?, List.getElem?_eq_getElem (by rw [CP.bytes_len]; exact hz)] at h0
    exact Option.some.inj h0
  rw [h35] at hb
  have hbs : ∀ h, (s[0]'h).toNat = 35 := fun _ => hb
  obtain ⟨R, hR⟩ : ∃ R, CP.parse (CP.bytes s) = R := ⟨_, rfl⟩
  have HR : Hid (R = CP.scan ((CP.bytes s).drop 1) [0, 0, 0, 255] 0) := by
    show _ = _
    rw [← hR, CP.parse, if_pos ⟨by rw [CP.bytes_len]; omega, h0⟩, List.drop_one]
  rw [hR]
  have HP : Hid (∀ j, j + 1 < 9 → ∃ c d : Nat, c < 256 ∧ d < 256 ∧ (∀ h, (s[j]'h).toNat = c) ∧ (∀ h, (s[j + 1]'h).toNat = d) ∧ (CP.bytes s).drop j = c :: d :: (CP.bytes s).drop (j + 2)) := fun j h => pair_at s j (by omega)
  have HL : Hid ((CP.bytes s).drop 9 = []) := by show _ = _; exact List.drop_eq_nil_of_le (by rw [CP.bytes_len, hsz]; omega)
  clear hb h35 h0 hR hz
  go_enter Tryd.func8, Tryd.ntmps8
  go_wp2
  clear hbs
  go_loopw [5] (fun i wr => ∃ k j p0 p1 p2 p3 : Nat, k ≤ 4 ∧ j = 2 * k + 1 ∧ i = .int .i64 k ∧ Hid (R = CP.scan ((CP.bytes s).drop j) [p0, p1, p2, p3] k) ∧ Hid (Four wr (w.heap.size + 1) (.int .u8 p0) (.int .u8 p1) (.int .u8 p2) (.int .u8 p3)) ∧
      Hid (∀ o, wr.frozen? ⟨w.heap.size + 1, o, none⟩ = false) ∧ Hid (Below (w.heap.size + 1) (w.alloc (.cells #[.int .u8 0, .int .u8 0, .int .u8 0, .int .u8 0] 23)) wr)) (fun i _ => 4 - (intOf i).toNat)
  case atStart =>
    exact ⟨0, 1, 0, 0, 0, 255, by omega, rfl, rfl, HR.out, four_next w _ _ _ _ _ 41 (0, 0), fun o => World.frozen?_alloc_at _ _ _ _ (by simp), (Below.refl _ _).alloc (by simp) _⟩
  case round =>
    obtain ⟨k, j, p0, p1, p2, p3, hk, hj, rfl, HS, HF, HZ, HB⟩ := hrel
    have hcase : k = 0 ∨ k = 1 ∨ k = 2 ∨ k = 3 ∨ k = 4 := by omega
    have HW : Hid (Below w.heap.size w wr) := ((Below.refl _ _).alloc (Nat.le_refl _) _).trans (HB.out.mono (Nat.le_succ _))
    obtain ⟨q0, q1, q2, q3⟩ := box_cells HB.out
    have qf : ∀ o, wr.frozen? ⟨w.heap.size, o, none⟩ = false := fun o => by rw [HB.out.frozen (p := ⟨w.heap.size, o, none⟩) (by simp)]; exact World.frozen?_alloc_at _ _ _ _ rfl
    rcases hcase with rfl | rfl | rfl | rfl | rfl
    · obtain rfl : j = 1 := hj
      obtain ⟨c, d, hc, hd, e1, e2, hdrop⟩ := HP.out 1 (by omega)
      have HD : Hid ((CP.bytes s).drop 1 = c :: d :: (CP.bytes s).drop 3) := hdrop
      clear hdrop
      have pk := HF.out.2.1
      have pf := HZ.out 0
      have lc := CP.dig_le c
      have ld := CP.dig_le d
      obtain ⟨X, hX⟩ : ∃ X, CP.dig c = X := ⟨_, rfl⟩
      obtain ⟨Y, hY⟩ : ∃ Y, CP.dig d = Y := ⟨_, rfl⟩
      have K1 : Hid (∀ w, Calls Tryd.prog 16 #[.int .u8 c] w fun e w' => e = .returned (.int .i64 X) ∧ w' = w) := fun w => by rw [← hX]; exact rdigit_any c w hc
      have K2 : Hid (∀ w, Calls Tryd.prog 16 #[.int .u8 d] w fun e w' => e = .returned (.int .i64 Y) ∧ w' = w) := fun w => by rw [← hY]; exact rdigit_any d w hd
      rw [hX] at lc
      rw [hY] at ld
      have HX : Hid (CP.dig c = X) := hX
      have HY : Hid (CP.dig d = Y) := hY
      clear hX hY
      by_cases hbad : X < 0 ∨ Y < 0
      · have HN : Hid (R = none) := by show _ = _; rw [HS.out, HD.out]; exact scan_bad (by rw [HX.out, HY.out]; exact hbad)
        have hdec : (decide (X < 0) || decide (Y < 0)) = true := by simpa using hbad
        rcases hbad with hbad | hbad
        all_goals go_wp2_with (first | (go_at_call_has 16 (Value.int IntKind.u8 (c : Int)); refine (K1.out _).mono ?_; rintro e w' ⟨rfl, rfl⟩) | (go_at_call_has 16 (Value.int IntKind.u8 (d : Int)); refine (K2.out _).mono ?_; rintro e w' ⟨rfl, rfl⟩))
        all_goals exact bodyPost_ret (v := .tuple #[.agg #[.int .u8 0, .int .u8 0, .int .u8 0, .int .u8 0], .bool false]) (by simp [results, Tryd.results8, go_sem, q0, q1, q2, q3]) rfl ⟨.inr ⟨HN.out, rfl⟩, below_four HW.out (Nat.le_refl _) _ _ _ _⟩
      · obtain ⟨x, rfl⟩ : ∃ x : Nat, X = x := ⟨X.toNat, by omega⟩
        obtain ⟨y, rfl⟩ : ∃ y : Nat, Y = y := ⟨Y.toNat, by omega⟩
        obtain ⟨v, hv⟩ : ∃ v, 16 * x + y = v := ⟨_, rfl⟩
        have hlt : v < 256 := by omega
        have hsum : 16 * (x : Int) + (y : Int) = (v : Int) := by omega
        have HV : Hid (16 * x + y = v) := hv
        clear hv
        go_wp2_with (first | (go_at_call_has 16 (Value.int IntKind.u8 (c : Int)); refine (K1.out _).mono ?_; rintro e w' ⟨rfl, rfl⟩) | (go_at_call_has 16 (Value.int IntKind.u8 (d : Int)); refine (K2.out _).mono ?_; rintro e w' ⟨rfl, rfl⟩))
        go_roundw
        case rel => exact ⟨1, 3, v, p1, p2, p3, by omega, by omega, by go_num, by show _ = _; rw [HS.out, HD.out, scan_on HX.out HY.out, HV.out]; rfl, four_set0 HF.out _, fun o => by simpa using HZ.out o, HB.out.setCell (Nat.le_refl _) _⟩
        case measure => simp [intOf]
    · obtain rfl : j = 3 := hj
      obtain ⟨c, d, hc, hd, e1, e2, hdrop⟩ := HP.out 3 (by omega)
      have HD : Hid ((CP.bytes s).drop 3 = c :: d :: (CP.bytes s).drop 5) := hdrop
      clear hdrop
      have pk := HF.out.2.2.1
      have pf := HZ.out 1
      have lc := CP.dig_le c
      have ld := CP.dig_le d
      obtain ⟨X, hX⟩ : ∃ X, CP.dig c = X := ⟨_, rfl⟩
      obtain ⟨Y, hY⟩ : ∃ Y, CP.dig d = Y := ⟨_, rfl⟩
      have K1 : Hid (∀ w, Calls Tryd.prog 16 #[.int .u8 c] w fun e w' => e = .returned (.int .i64 X) ∧ w' = w) := fun w => by rw [← hX]; exact rdigit_any c w hc
      have K2 : Hid (∀ w, Calls Tryd.prog 16 #[.int .u8 d] w fun e w' => e = .returned (.int .i64 Y) ∧ w' = w) := fun w => by rw [← hY]; exact rdigit_any d w hd
      rw [hX] at lc
      rw [hY] at ld
      have HX : Hid (CP.dig c = X) := hX
      have HY : Hid (CP.dig d = Y) := hY
      clear hX hY
      by_cases hbad : X < 0 ∨ Y < 0
      · have HN : Hid (R = none) := by show _ = _; rw [HS.out, HD.out]; exact scan_bad (by rw [HX.out, HY.out]; exact hbad)
        have hdec : (decide (X < 0) || decide (Y < 0)) = true := by simpa using hbad
        rcases hbad with hbad | hbad
        all_goals go_wp2_with (first | (go_at_call_has 16 (Value.int IntKind.u8 (c : Int)); refine (K1.out _).mono ?_; rintro e w' ⟨rfl, rfl⟩) | (go_at_call_has 16 (Value.int IntKind.u8 (d : Int)); refine (K2.out _).mono ?_; rintro e w' ⟨rfl, rfl⟩))
        all_goals exact bodyPost_ret (v := .tuple #[.agg #[.int .u8 0, .int .u8 0, .int .u8 0, .int .u8 0], .bool false]) (by simp [results, Tryd.results8, go_sem, q0, q1, q2, q3]) rfl ⟨.inr ⟨HN.out, rfl⟩, below_four HW.out (Nat.le_refl _) _ _ _ _⟩
      · obtain ⟨x, rfl⟩ : ∃ x : Nat, X = x := ⟨X.toNat, by omega⟩
        obtain ⟨y, rfl⟩ : ∃ y : Nat, Y = y := ⟨Y.toNat, by omega⟩
        obtain ⟨v, hv⟩ : ∃ v, 16 * x + y = v := ⟨_, rfl⟩
        have hlt : v < 256 := by omega
        have hsum : 16 * (x : Int) + (y : Int) = (v : Int) := by omega
        have HV : Hid (16 * x + y = v) := hv
        clear hv
        go_wp2_with (first | (go_at_call_has 16 (Value.int IntKind.u8 (c : Int)); refine (K1.out _).mono ?_; rintro e w' ⟨rfl, rfl⟩) | (go_at_call_has 16 (Value.int IntKind.u8 (d : Int)); refine (K2.out _).mono ?_; rintro e w' ⟨rfl, rfl⟩))
        go_roundw
        case rel => exact ⟨2, 5, p0, v, p2, p3, by omega, by omega, by go_num, by show _ = _; rw [HS.out, HD.out, scan_on HX.out HY.out, HV.out]; rfl, four_set1 HF.out _, fun o => by simpa using HZ.out o, HB.out.setCell (Nat.le_refl _) _⟩
        case measure => simp [intOf]
    · obtain rfl : j = 5 := hj
      obtain ⟨c, d, hc, hd, e1, e2, hdrop⟩ := HP.out 5 (by omega)
      have HD : Hid ((CP.bytes s).drop 5 = c :: d :: (CP.bytes s).drop 7) := hdrop
      clear hdrop
      have pk := HF.out.2.2.2.1
      have pf := HZ.out 2
      have lc := CP.dig_le c
      have ld := CP.dig_le d
      obtain ⟨X, hX⟩ : ∃ X, CP.dig c = X := ⟨_, rfl⟩
      obtain ⟨Y, hY⟩ : ∃ Y, CP.dig d = Y := ⟨_, rfl⟩
      have K1 : Hid (∀ w, Calls Tryd.prog 16 #[.int .u8 c] w fun e w' => e = .returned (.int .i64 X) ∧ w' = w) := fun w => by rw [← hX]; exact rdigit_any c w hc
      have K2 : Hid (∀ w, Calls Tryd.prog 16 #[.int .u8 d] w fun e w' => e = .returned (.int .i64 Y) ∧ w' = w) := fun w => by rw [← hY]; exact rdigit_any d w hd
      rw [hX] at lc
      rw [hY] at ld
      have HX : Hid (CP.dig c = X) := hX
      have HY : Hid (CP.dig d = Y) := hY
      clear hX hY
      by_cases hbad : X < 0 ∨ Y < 0
      · have HN : Hid (R = none) := by show _ = _; rw [HS.out, HD.out]; exact scan_bad (by rw [HX.out, HY.out]; exact hbad)
        have hdec : (decide (X < 0) || decide (Y < 0)) = true := by simpa using hbad
        rcases hbad with hbad | hbad
        all_goals go_wp2_with (first | (go_at_call_has 16 (Value.int IntKind.u8 (c : Int)); refine (K1.out _).mono ?_; rintro e w' ⟨rfl, rfl⟩) | (go_at_call_has 16 (Value.int IntKind.u8 (d : Int)); refine (K2.out _).mono ?_; rintro e w' ⟨rfl, rfl⟩))
        all_goals exact bodyPost_ret (v := .tuple #[.agg #[.int .u8 0, .int .u8 0, .int .u8 0, .int .u8 0], .bool false]) (by simp [results, Tryd.results8, go_sem, q0, q1, q2, q3]) rfl ⟨.inr ⟨HN.out, rfl⟩, below_four HW.out (Nat.le_refl _) _ _ _ _⟩
      · obtain ⟨x, rfl⟩ : ∃ x : Nat, X = x := ⟨X.toNat, by omega⟩
        obtain ⟨y, rfl⟩ : ∃ y : Nat, Y = y := ⟨Y.toNat, by omega⟩
        obtain ⟨v, hv⟩ : ∃ v, 16 * x + y = v := ⟨_, rfl⟩
        have hlt : v < 256 := by omega
        have hsum : 16 * (x : Int) + (y : Int) = (v : Int) := by omega
        have HV : Hid (16 * x + y = v) := hv
        clear hv
        go_wp2_with (first | (go_at_call_has 16 (Value.int IntKind.u8 (c : Int)); refine (K1.out _).mono ?_; rintro e w' ⟨rfl, rfl⟩) | (go_at_call_has 16 (Value.int IntKind.u8 (d : Int)); refine (K2.out _).mono ?_; rintro e w' ⟨rfl, rfl⟩))
        go_roundw
        case rel => exact ⟨3, 7, p0, p1, v, p3, by omega, by omega, by go_num, by show _ = _; rw [HS.out, HD.out, scan_on HX.out HY.out, HV.out]; rfl, four_set2 HF.out _, fun o => by simpa using HZ.out o, HB.out.setCell (Nat.le_refl _) _⟩
        case measure => simp [intOf]
    · obtain rfl : j = 7 := hj
      obtain ⟨c, d, hc, hd, e1, e2, hdrop⟩ := HP.out 7 (by omega)
      have HD : Hid ((CP.bytes s).drop 7 = c :: d :: (CP.bytes s).drop 9) := hdrop
      clear hdrop
      have pk := HF.out.2.2.2.2
      have pf := HZ.out 3
      have lc := CP.dig_le c
      have ld := CP.dig_le d
      obtain ⟨X, hX⟩ : ∃ X, CP.dig c = X := ⟨_, rfl⟩
      obtain ⟨Y, hY⟩ : ∃ Y, CP.dig d = Y := ⟨_, rfl⟩
      have K1 : Hid (∀ w, Calls Tryd.prog 16 #[.int .u8 c] w fun e w' => e = .returned (.int .i64 X) ∧ w' = w) := fun w => by rw [← hX]; exact rdigit_any c w hc
      have K2 : Hid (∀ w, Calls Tryd.prog 16 #[.int .u8 d] w fun e w' => e = .returned (.int .i64 Y) ∧ w' = w) := fun w => by rw [← hY]; exact rdigit_any d w hd
      rw [hX] at lc
      rw [hY] at ld
      have HX : Hid (CP.dig c = X) := hX
      have HY : Hid (CP.dig d = Y) := hY
      clear hX hY
      by_cases hbad : X < 0 ∨ Y < 0
      · have HN : Hid (R = none) := by show _ = _; rw [HS.out, HD.out]; exact scan_bad (by rw [HX.out, HY.out]; exact hbad)
        have hdec : (decide (X < 0) || decide (Y < 0)) = true := by simpa using hbad
        rcases hbad with hbad | hbad
        all_goals go_wp2_with (first | (go_at_call_has 16 (Value.int IntKind.u8 (c : Int)); refine (K1.out _).mono ?_; rintro e w' ⟨rfl, rfl⟩) | (go_at_call_has 16 (Value.int IntKind.u8 (d : Int)); refine (K2.out _).mono ?_; rintro e w' ⟨rfl, rfl⟩))
        all_goals exact bodyPost_ret (v := .tuple #[.agg #[.int .u8 0, .int .u8 0, .int .u8 0, .int .u8 0], .bool false]) (by simp [results, Tryd.results8, go_sem, q0, q1, q2, q3]) rfl ⟨.inr ⟨HN.out, rfl⟩, below_four HW.out (Nat.le_refl _) _ _ _ _⟩
      · obtain ⟨x, rfl⟩ : ∃ x : Nat, X = x := ⟨X.toNat, by omega⟩
        obtain ⟨y, rfl⟩ : ∃ y : Nat, Y = y := ⟨Y.toNat, by omega⟩
        obtain ⟨v, hv⟩ : ∃ v, 16 * x + y = v := ⟨_, rfl⟩
        have hlt : v < 256 := by omega
        have hsum : 16 * (x : Int) + (y : Int) = (v : Int) := by omega
        have HV : Hid (16 * x + y = v) := hv
        clear hv
        go_wp2_with (first | (go_at_call_has 16 (Value.int IntKind.u8 (c : Int)); refine (K1.out _).mono ?_; rintro e w' ⟨rfl, rfl⟩) | (go_at_call_has 16 (Value.int IntKind.u8 (d : Int)); refine (K2.out _).mono ?_; rintro e w' ⟨rfl, rfl⟩))
        go_roundw
        case rel => exact ⟨4, 9, p0, p1, p2, v, by omega, by omega, by go_num, by show _ = _; rw [HS.out, HD.out, scan_on HX.out HY.out, HV.out]; rfl, four_set3 HF.out _, fun o => by simpa using HZ.out o, HB.out.setCell (Nat.le_refl _) _⟩
        case measure => simp [intOf]
    · obtain rfl : j = 9 := hj
      have HN : Hid (R = some [p0, p1, p2, p3]) := by show _ = _; rw [HS.out, HL.out]; rfl
      obtain ⟨_, c0, c1, c2, c3⟩ := HF.out
      go_wp2
      exact bodyPost_ret (v := .tuple #[.agg #[.int .u8 p0, .int .u8 p1, .int .u8 p2, .int .u8 p3], .bool true]) (by simp [results, Tryd.results8, go_sem, q0, q1, q2, q3]) rfl ⟨.inl ⟨p0, p1, p2, p3, HN.out, rfl⟩, below_four HW.out (Nat.le_refl _) _ _ _ _⟩

theorem rparse_any (s : ByteArray) (w : World) : Calls Tryd.prog 8 #[.string s] w (RParsePost w (CP.parse (CP.bytes s))) := by
  by_cases h7 : s.size = 7
  · by_cases h0 : (CP.bytes s).head? = some 35
    · exact rparse_7 s w h7 h0
    · exact rparse_sign s w (.inl h7) h0
  · by_cases h9 : s.size = 9
    · by_cases h0 : (CP.bytes s).head? = some 35
      · exact rparse_9 s w h9 h0
      · exact rparse_sign s w (.inr h9) h0
    · exact rparse_len s w h7 h9

theorem rparse_some (s : ByteArray) (w : World) (r g b a : Nat) (h : CP.parse (CP.bytes s) = some [r, g, b, a]) :
    Calls Tryd.prog 8 #[.string s] w fun e w' => e = .returned (.tuple #[.agg #[.int .u8 r, .int .u8 g, .int .u8 b, .int .u8 a], .bool true]) ∧ Below w.heap.size w w' := by
  refine (rparse_any s w).mono ?_
  rintro e w' ⟨⟨r', g', b', a', hR, rfl⟩ | ⟨hR, _⟩, hb⟩
  · rw [h] at hR
    simp only [Option.some.injEq, List.cons.injEq, and_true] at hR
    obtain ⟨rfl, rfl, rfl, rfl⟩ := hR
    exact ⟨rfl, hb⟩
  · rw [h] at hR; cases hR

theorem rparse_none (s : ByteArray) (w : World) (h : CP.parse (CP.bytes s) = none) :
    Calls Tryd.prog 8 #[.string s] w fun e w' => e = .returned (.tuple #[.agg #[.int .u8 0, .int .u8 0, .int .u8 0, .int .u8 0], .bool false]) ∧ Below w.heap.size w w' := by
  refine (rparse_any s w).mono ?_
  rintro e w' ⟨⟨r', g', b', a', hR, _⟩ | ⟨_, rfl⟩, hb⟩
  · rw [h] at hR; cases hR
  · exact ⟨rfl, hb⟩

end Go.Proofs.YtlgcbjipfolmbaaDoor

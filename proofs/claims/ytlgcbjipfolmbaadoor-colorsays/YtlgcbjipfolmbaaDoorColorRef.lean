/-
  The document's own answers on colors, walked over their text: a part's two digits, a color's text, its wide parts, a digit's number.
-/
import Derived.Test.YtlgcbjipfolmbaaDoorColorParse
namespace Go.Proofs.YtlgcbjipfolmbaaDoor
open Go.RowKit

theorem conv_two (w : World) (x y : Nat) (hx : x < 256) (hy : y < 256) (cap : Nat) : (convert 37 9 (.slice (some ⟨w.heap.size, 0, none⟩) 2 cap)).run Tryd.prog (w.alloc (.cells #[.int .u8 x, .int .u8 y] 5)).drew = .ok (.string (CP.str [x, y])) (w.alloc (.cells #[.int .u8 x, .int .u8 y] 5)).drew := by
  refine conv_str (l := [x, y]) (by intro c hc; simp only [List.mem_cons, List.not_mem_nil, or_false] at hc; omega) (fun j hj => ?_)
  have : ∀ j, (w.alloc (.cells #[.int .u8 x, .int .u8 y] 5)).drew.cell? ⟨w.heap.size, j, none⟩ = (#[Value.int .u8 x, .int .u8 y])[j]? := fun j => World.cell?_alloc_mark w _ _ _ j
  rw [Addr.add_lit, Nat.zero_add, this]
  match j, hj with
  | 0, _ => rfl
  | 1, _ => rfl

set_option maxRecDepth 20000 in
set_option maxHeartbeats 1000000 in
theorem hex_any (p : Nat) (w : World) (hp : p < 256) : Calls Tryd.prog 18 #[.int .u8 p] w fun e w' => e = .returned (.string (CP.str (CP.two p))) ∧ Below w.heap.size w w' := by
  have d1 := digits_at (p / 16) (by omega)
  have d2 := digits_at (p % 16) (by omega)
  have x256 := CP.hx_lt (p / 16) (by omega)
  have y256 := CP.hx_lt (p % 16) (by omega)
  obtain ⟨x, hx⟩ : ∃ x, CP.hx (p / 16) = x := ⟨_, rfl⟩
  obtain ⟨y, hy⟩ : ∃ y, CP.hx (p % 16) = y := ⟨_, rfl⟩
  have HT : Hid (CP.two p = [x, y]) := by show _ = _; rw [CP.two, hx, hy]
  rw [hx] at d1 x256
  rw [hy] at d2 y256
  clear hx hy
  obtain ⟨q, hq⟩ : ∃ q, p % 16 = q := ⟨_, rfl⟩
  have hq16 : q < 16 := by omega
  rw [hq] at d2
  obtain ⟨r, hr⟩ : ∃ r, p / 16 = r := ⟨_, rfl⟩
  have hr16 : r < 16 := by omega
  rw [hr] at d1
  have hr' : (p : Int) / 16 = (r : Int) := by omega
  have hq' : (p : Int) % 16 = (q : Int) := by omega
  have hr2 : (p : Int).tdiv 16 = (r : Int) := by rw [Int.tdiv_eq_ediv_of_nonneg (by omega)]; exact hr'
  have hq2 : (p : Int).tmod 16 = (q : Int) := by rw [Int.tmod_eq_emod_of_nonneg (by omega)]; exact hq'
  clear hq hr
  have hri : (r : Int) < 16 := by omega
  have hqi : (q : Int) < 16 := by omega
  have hcv := conv_two w x y x256 y256 2
  go_enter Tryd.func18, Tryd.ntmps18
  go_wp2
  go_region
  all_goals go_wp2
  all_goals
    go_ret
    rw [HT.out]
    exact ⟨rfl, ((Below.refl _ _).alloc (Nat.le_refl _) _).drew⟩

theorem rdigit_any (c : Nat) (w : World) (hc : c < 256) : Calls Tryd.prog 16 #[.int .u8 c] w fun e w' => e = .returned (.int .i64 (CP.dig c)) ∧ w' = w := by
  by_cases h1 : 48 ≤ c ∧ c ≤ 57
  · have HD : Hid (CP.dig c = (c : Int) - 48) := if_pos h1
    have h2 := h1.1
    have h3 := h1.2
    go_enter Tryd.func16, Tryd.ntmps16
    go_wp2
    go_ret
    exact ⟨ret_int HD.out.symm, rfl⟩
  · by_cases h2 : 97 ≤ c ∧ c ≤ 102
    · have HD : Hid (CP.dig c = (c : Int) - 87) := by show _ = _; unfold CP.dig; rw [if_neg h1, if_pos h2]
      have h3 := h2.1
      have h4 := h2.2
      go_enter Tryd.func16, Tryd.ntmps16
      go_wp2
      go_ret
      exact ⟨ret_int (by rw [HD.out]; omega), rfl⟩
    · have HD : Hid (CP.dig c = -1) := by show _ = _; unfold CP.dig; rw [if_neg h1, if_neg h2]
      go_enter Tryd.func16, Tryd.ntmps16
      go_wp2
      all_goals
        go_ret
        exact ⟨ret_int HD.out.symm, rfl⟩

theorem rwide_any (r g b a : Nat) (w : World) (hr : r < 256) (hg : g < 256) (hb : b < 256) (ha : a < 256) :
    Calls Tryd.prog 14 #[.agg #[.int .u8 r, .int .u8 g, .int .u8 b, .int .u8 a]] w fun e w' => e = .returned (.agg #[.int .i64 (257 * (r : Int)), .int .i64 (257 * (g : Int)), .int .i64 (257 * (b : Int)), .int .i64 (257 * (a : Int))]) ∧ Below w.heap.size w w' := by
  go_enter Tryd.func14, Tryd.ntmps14
  go_wp2
  exact bodyPost_ret (v := .agg #[.int .i64 (257 * (r : Int)), .int .i64 (257 * (g : Int)), .int .i64 (257 * (b : Int)), .int .i64 (257 * (a : Int))]) (by simp [results, Tryd.results14, go_sem]) rfl ⟨rfl, ((Below.refl _ _).alloc (Nat.le_refl _) _).alloc (by simp) _⟩

theorem four_three {W : World} {A : Nat} {v0 v1 v2 v3 : Value} (h : Four W A v0 v1 v2 v3) : W.cell? ⟨A, 0, none⟩ = some v0 ∧ W.cell? ⟨A, 1, none⟩ = some v1 ∧ W.cell? ⟨A, 2, none⟩ = some v2 := ⟨h.2.1, h.2.2.1, h.2.2.2.1⟩

theorem str_join (r g b : Nat) : (⟨#[35]⟩ : ByteArray) ++ CP.str (CP.two r) ++ CP.str (CP.two g) ++ CP.str (CP.two b) = CP.str (CP.text r g b 255) := by
  apply ByteArray.ext
  simp [ByteArray.data_append, CP.str, CP.text]

theorem str_join4 (r g b a : Nat) (h : a ≠ 255) : CP.str (CP.text r g b 255) ++ CP.str (CP.two a) = CP.str (CP.text r g b a) := by
  apply ByteArray.ext
  simp [ByteArray.data_append, CP.str, CP.text, h]

set_option maxRecDepth 20000 in
set_option maxHeartbeats 1000000 in
theorem rshow_any (r g b a : Nat) (w : World) (hr : r < 256) (hg : g < 256) (hb : b < 256) (ha : a < 256) :
    Calls Tryd.prog 10 #[.agg #[.int .u8 r, .int .u8 g, .int .u8 b, .int .u8 a]] w fun e w' => e = .returned (.string (CP.str (CP.text r g b a))) ∧ Below w.heap.size w w' := by
  have kr : Hid (∀ w, Calls Tryd.prog 18 #[.int .u8 r] w fun e w' => e = .returned (.string (CP.str (CP.two r))) ∧ Below w.heap.size w w') := fun w => hex_any r w hr
  have kg : Hid (∀ w, Calls Tryd.prog 18 #[.int .u8 g] w fun e w' => e = .returned (.string (CP.str (CP.two g))) ∧ Below w.heap.size w w') := fun w => hex_any g w hg
  have kb : Hid (∀ w, Calls Tryd.prog 18 #[.int .u8 b] w fun e w' => e = .returned (.string (CP.str (CP.two b))) ∧ Below w.heap.size w w') := fun w => hex_any b w hb
  have ka : Hid (∀ w, Calls Tryd.prog 18 #[.int .u8 a] w fun e w' => e = .returned (.string (CP.str (CP.two a))) ∧ Below w.heap.size w w') := fun w => hex_any a w ha
  have J3 : (⟨#[35]⟩ : ByteArray) ++ CP.str (CP.two r) ++ CP.str (CP.two g) ++ CP.str (CP.two b) = CP.str (CP.text r g b 255) := str_join r g b
  have J4 : Hid (a ≠ 255 → CP.str (CP.text r g b 255) ++ CP.str (CP.two a) = CP.str (CP.text r g b a)) := str_join4 r g b a
  have sr : (CP.str (CP.two r)).size = 2 := CP.str_size _
  have sg : (CP.str (CP.two g)).size = 2 := CP.str_size _
  have sb : (CP.str (CP.two b)).size = 2 := CP.str_size _
  have sa : (CP.str (CP.two a)).size = 2 := CP.str_size _
  have s3 : (CP.str (CP.text r g b 255)).size = 7 := by rw [CP.str_size, CP.text_len]; rfl
  obtain ⟨X, hX⟩ : ∃ X, CP.str (CP.two r) = X := ⟨_, rfl⟩
  obtain ⟨Y, hY⟩ : ∃ X, CP.str (CP.two g) = X := ⟨_, rfl⟩
  obtain ⟨Z, hZ⟩ : ∃ X, CP.str (CP.two b) = X := ⟨_, rfl⟩
  obtain ⟨U, hU⟩ : ∃ X, CP.str (CP.two a) = X := ⟨_, rfl⟩
  obtain ⟨T, hT⟩ : ∃ X, CP.str (CP.text r g b 255) = X := ⟨_, rfl⟩
  have HT : Hid (CP.str (CP.text r g b 255) = T) := hT
  rw [hX] at kr J3 sr
  rw [hY] at kg J3 sg
  rw [hZ] at kb J3 sb
  rw [hU] at ka J4 sa
  rw [hT] at J3 J4 s3
  clear hX hY hZ hU hT
  go_enter Tryd.func10, Tryd.ntmps10
  go_wp2
  have F0 : Hid (Four (w.alloc (.cells #[.int .u8 r, .int .u8 g, .int .u8 b, .int .u8 a] 23)) w.heap.size (.int .u8 r) (.int .u8 g) (.int .u8 b) (.int .u8 a)) := four_new w _ _ _ _ _ _
  go_region_held3 (fun W => W.cell? ⟨w.heap.size, 0, none⟩ = some (.int .u8 r) ∧ W.cell? ⟨w.heap.size, 1, none⟩ = some (.int .u8 g) ∧ W.cell? ⟨w.heap.size, 2, none⟩ = some (.int .u8 b))
    (first | exact four_three (F0.out.below B3.out) | exact four_three (F0.out.below B2.out) | exact four_three (F0.out.below B1.out) | exact four_three F0.out)
    (first
    | (go_at_call_has 18 (Value.int IntKind.u8 (b : Int)); refine (kb.out w2).mono ?_; rintro e w3 ⟨rfl, hb3⟩; have B3 : Hid (Below (w.alloc (.cells #[.int .u8 r, .int .u8 g, .int .u8 b, .int .u8 a] 23)).heap.size (w.alloc (.cells #[.int .u8 r, .int .u8 g, .int .u8 b, .int .u8 a] 23)) w3) := B2.out.trans (hb3.mono B2.out.size); clear hb3)
    | (go_at_call_has 18 (Value.int IntKind.u8 (g : Int)); refine (kg.out w1).mono ?_; rintro e w2 ⟨rfl, hb2⟩; have B2 : Hid (Below (w.alloc (.cells #[.int .u8 r, .int .u8 g, .int .u8 b, .int .u8 a] 23)).heap.size (w.alloc (.cells #[.int .u8 r, .int .u8 g, .int .u8 b, .int .u8 a] 23)) w2) := B1.out.trans (hb2.mono B1.out.size); clear hb2)
    | (go_at_call_has 18 (Value.int IntKind.u8 (r : Int)); refine (kr.out _).mono ?_; rintro e w1 ⟨rfl, hb1⟩; have B1 : Hid (Below (w.alloc (.cells #[.int .u8 r, .int .u8 g, .int .u8 b, .int .u8 a] 23)).heap.size (w.alloc (.cells #[.int .u8 r, .int .u8 g, .int .u8 b, .int .u8 a] 23)) w1) := below_of_drew hb1; clear hb1))
  obtain ⟨_, _, _, _, a3⟩ := F0.out.below B3.out
  have B : Hid (Below w.heap.size w w3) := ((Below.refl _ _).alloc (Nat.le_refl _) _).trans (B3.out.mono (by simp))
  clear J3
  by_cases h255 : a = 255
  · have e255 : ((a : Int) == 255) = true := by simp; omega
    have H255 : Hid (a = 255) := h255
    clear h255
    go_wp2
    go_ret
    exact ⟨by rw [H255.out, HT.out]; rfl, B.out⟩
  · have e255 : ((a : Int) == 255) = false := by simp; omega
    have J := J4.out h255
    go_wp2_with (go_at_call 18; refine (ka.out w3).mono ?_; rintro e w4 ⟨rfl, hb4⟩)
    go_ret
    exact ⟨rfl, B.out.trans (hb4.mono B.out.size)⟩

end Go.Proofs.YtlgcbjipfolmbaaDoor

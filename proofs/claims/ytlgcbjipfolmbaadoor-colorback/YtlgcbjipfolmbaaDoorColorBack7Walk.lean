/-
  The road of the statement ColorBack where the color's text has 7 bytes, walked over the program.
-/
import Derived.Test.YtlgcbjipfolmbaaDoorColorBytes
namespace Go.Proofs.YtlgcbjipfolmbaaDoor
open Go.RowKit

set_option maxRecDepth 100000 in
set_option maxHeartbeats 8000000 in
theorem back_7 (r g b : Nat) (at' : Int) (c : Nat) (ea : Addr) (w : World) (hr : r < 256) (hg : g < 256) (hb : b < 256) (hc : c < 256) (hE : ErrAt w ea) (t : Int) (ht : at'.tmod 7 = t) (ht0 : -6 ≤ t) (ht1 : t ≤ 6) (K : Nat) (hK : (t + 7).tmod 7 = K) (hKN : K < 7) :
    Calls Tryd.prog 4 #[.agg #[.int .u8 r, .int .u8 g, .int .u8 b, .int .u8 255], .int .i64 at', .int .u8 c] w fun e w' => e = .returned (.bool true) ∧ Below w.heap.size w w' := by
  have HE : Hid (ErrAt w ea) := hE
  clear hE
  have T256 := CP.text_lt r g b 255 hr hg hb (by omega)
  have TL : (CP.text r g b 255).length = 7 := by rw [CP.text_len]; rfl
  have ks : Hid (∀ w, Calls Tryd.prog 9 #[.agg #[.int .u8 r, .int .u8 g, .int .u8 b, .int .u8 255]] w fun e w' => e = .returned (.string (CP.str (CP.text r g b 255))) ∧ Below w.heap.size w w') := fun w => show_any r g b 255 w hr hg hb (by omega)
  have kc : Hid (∀ w, Calls Tryd.prog 11 #[.agg #[.int .u8 r, .int .u8 g, .int .u8 b, .int .u8 255], .agg #[.int .u8 r, .int .u8 g, .int .u8 b, .int .u8 255]] w fun e w' => e = .returned (.bool true) ∧ Below w.heap.size w w') := fun w => by
    have := same_any r g b 255 r g b 255 w
    simpa using this
  have k1 : Hid (∀ W, ErrAt W ea → Calls Tryd.prog 7 #[.string (CP.str (CP.text r g b 255))] W fun e w' => e = .returned (.tuple #[.agg #[.int .u8 r, .int .u8 g, .int .u8 b, .int .u8 255], .nilIface]) ∧ Below W.heap.size W w') := fun W h => parse_some _ ea W h r g b 255 (by rw [CP.bytes_str _ T256]; exact CP.parse_text r g b 255 hr hg hb (by omega))
  have hS : (CP.str (CP.text r g b 255)).size = 7 := by rw [CP.str_size, TL]
  have k2 : Hid (∀ W, ErrAt W ea → Calls Tryd.prog 7 #[.string (CP.str (CP.text r g b 255) ++ ⟨#[102, 102]⟩)] W fun e w' => e = .returned (.tuple #[.agg #[.int .u8 r, .int .u8 g, .int .u8 b, .int .u8 255], .nilIface]) ∧ Below W.heap.size W w') := fun W h => parse_some _ ea W h r g b 255 (tell_full r g b hr hg hb)
  have k3 : Hid (∀ W, ErrAt W ea → Calls Tryd.prog 7 #[.string ((CP.str (CP.text r g b 255)).extract 0 6)] W fun e w' => e = .returned (.tuple #[.agg #[.int .u8 0, .int .u8 0, .int .u8 0, .int .u8 0], .iface 63 (.pointer (some ea))]) ∧ Below W.heap.size W w') := fun W h => parse_none _ ea W h (tell_short _ 7 TL T256 (by omega))
  have k4 : Hid (∀ W, ErrAt W ea → Calls Tryd.prog 7 #[.string ((CP.str (CP.text r g b 255) ++ ⟨#[102, 102]⟩) ++ ⟨#[48]⟩)] W fun e w' => e = .returned (.tuple #[.agg #[.int .u8 0, .int .u8 0, .int .u8 0, .int .u8 0], .iface 63 (.pointer (some ea))]) ∧ Below W.heap.size W w') := fun W h => parse_none _ ea W h (tell_more _ (by rw [ByteArray.size_append, hS]; rfl))
  have hset := CP.parse_set r g b 255 K c hr hg hb (by omega) (by rw [TL]; exact hKN)
  have S256 : ∀ x ∈ (CP.text r g b 255).set K c, x < 256 := fun x hx => by
    rcases List.mem_or_eq_of_mem_set hx with hx | rfl
    · exact T256 x hx
    · exact hc
  have hbs : CP.bytes (CP.str ((CP.text r g b 255).set K c)) = (CP.text r g b 255).set K c := CP.bytes_str _ S256
  have KCV : Hid (∀ (W : World) (gb cap : Nat), (∀ j (h : j < (CP.str (CP.text r g b 255)).size), W.cell? ⟨gb, j, none⟩ = some (.int .u8 (((CP.str (CP.text r g b 255))[j]'h).toNat : Int))) →
      (convert 37 9 (.slice (some ⟨gb, 0, none⟩) 7 cap)).run Tryd.prog (W.setCell ⟨gb, K, none⟩ (.int .u8 c)) = .ok (.string (CP.str ((CP.text r g b 255).set K c))) (W.setCell ⟨gb, K, none⟩ (.int .u8 c))) := fun W gb cap h => by
    have := conv_set (w := W) (g := gb) (cap := cap) (K := K) (c := c) T256 hc h
    rw [TL] at this
    exact this
  obtain ⟨V, hV⟩ : ∃ V, CP.str ((CP.text r g b 255).set K c) = V := ⟨_, rfl⟩
  rw [← hbs, hV] at hset
  rw [hV] at KCV
  generalize CP.str (CP.text r g b 255) = S at ks k1 k2 k3 k4 hS KCV
  clear T256 TL S256 hbs hV
  simp only [Int.not_lt] at hset
  obtain ⟨G0, hG0⟩ : ∃ G, decide (0 ≤ CP.dig c) = G := ⟨_, rfl⟩
  rw [hG0] at hset
  have HG0 : Hid (decide (0 ≤ CP.dig c) = G0) := hG0
  have HSET : Hid ((CP.parse (CP.bytes V)).isSome = if K = 0 then decide (c = 35) else G0) := hset
  clear hG0 hset
  have hKi : (K : Int) < 7 := by omega
  go_enter Tryd.func4, Tryd.ntmps4
  go_upto_region 16 with (first
    | (go_at_call 7; refine (k4.out _ (HE.out.below (B6.out.alloc B6.out.size _))).mono ?_; rintro e w7 ⟨rfl, hb7⟩
       have B7 : Hid (Below w.heap.size w w7) := (B6.out.alloc B6.out.size _).trans (hb7.mono (by simp; have := B6.out.size; omega))
       have HA7 : Hid (Four w7 w.heap.size (.int .u8 r) (.int .u8 g) (.int .u8 b) (.int .u8 255)) := (HA6.out.alloc _).below hb7
       have HF7 : Hid (Four w7 w5.heap.size (.int .u8 r) (.int .u8 g) (.int .u8 b) (.int .u8 255)) := (HF6.out.alloc _).below hb7
       clear hb7)
    | (go_at_call 7; refine (k3.out _ (HE.out.below (B5.out.alloc B5.out.size _))).mono ?_; rintro e w6 ⟨rfl, hb6⟩
       have B6 : Hid (Below w.heap.size w w6) := (B5.out.alloc B5.out.size _).trans (hb6.mono (by simp; have := B5.out.size; omega))
       have HA6 : Hid (Four w6 w.heap.size (.int .u8 r) (.int .u8 g) (.int .u8 b) (.int .u8 255)) := (HA5.out.alloc _).below hb6
       have HF6 : Hid (Four w6 w5.heap.size (.int .u8 r) (.int .u8 g) (.int .u8 b) (.int .u8 255)) := (four_new w5 _ _ _ _ 23 (0, 0)).below hb6
       clear hb6)
    | (go_at_call 7; refine (k2.out w4 (HE.out.below B4.out)).mono ?_; rintro e w5 ⟨rfl, hb5⟩
       have B5 : Hid (Below w.heap.size w w5) := B4.out.trans (hb5.mono B4.out.size)
       have HA5 : Hid (Four w5 w.heap.size (.int .u8 r) (.int .u8 g) (.int .u8 b) (.int .u8 255)) := HA4.out.below hb5
       clear hb5)
    | (go_at_call 11; refine (kc.out _).mono ?_; rintro e w4 ⟨rfl, hb4⟩
       have B4 : Hid (Below w.heap.size w w4) := (B3.out.alloc B3.out.size _).trans (hb4.mono (by simp; have := B3.out.size; omega))
       have HA4 : Hid (Four w4 w.heap.size (.int .u8 r) (.int .u8 g) (.int .u8 b) (.int .u8 255)) := (HA3.out.alloc _).below hb4
       clear hb4 z3 a0 a1 a2 a3)
    | (go_at_call 7; refine (k1.out w2 (HE.out.below B2.out)).mono ?_; rintro e w3 ⟨rfl, hb3⟩
       have B3 : Hid (Below w.heap.size w w3) := B2.out.trans (hb3.mono B2.out.size)
       have HA3 : Hid (Four w3 w.heap.size (.int .u8 r) (.int .u8 g) (.int .u8 b) (.int .u8 255)) := HA2.out.below hb3
       clear hb3
       obtain ⟨z3, a0, a1, a2, a3⟩ := HA3.out)
    | (go_at_call 9; refine (ks.out w1).mono ?_; rintro e w2 ⟨rfl, hb2⟩
       have B2 : Hid (Below w.heap.size w w2) := B1.out.trans (hb2.mono B1.out.size)
       have HA2 : Hid (Four w2 w.heap.size (.int .u8 r) (.int .u8 g) (.int .u8 b) (.int .u8 255)) := HA1.out.below hb2
       clear hb2 a0 a1 a2 a3)
    | (go_at_call 6; refine (first_any _).mono ?_; rintro e w1 ⟨rfl, hb1⟩
       have B1 : Hid (Below w.heap.size w w1) := ((Below.refl _ _).alloc (Nat.le_refl _) _).trans (hb1.mono (by simp))
       have HA1 : Hid (Four w1 w.heap.size (.int .u8 r) (.int .u8 g) (.int .u8 b) (.int .u8 255)) := (four_new w _ _ _ _ 23 (0, 0)).below hb1
       clear hb1
       obtain ⟨_, a0, a1, a2, a3⟩ := HA1.out)
    | (refine wpList_bytes _ rfl (.tmp 77) rfl S rfl ?_; intro w8 cap hb8 hc8 hf8 hs8))
  have B8 : Hid (Below w.heap.size w w8) := (B7.out.alloc B7.out.size _).trans (hb8.mono (by simp; have := B7.out.size; omega))
  have HA8 : Hid (Four w8 w.heap.size (.int .u8 r) (.int .u8 g) (.int .u8 b) (.int .u8 255)) := (HA7.out.alloc _).below hb8
  have HF8 : Hid (Four w8 w5.heap.size (.int .u8 r) (.int .u8 g) (.int .u8 b) (.int .u8 255)) := (HF7.out.alloc _).below hb8
  have HC8 : Hid (∀ j (h : j < S.size), w8.cell? ⟨w7.heap.size + 1, j, none⟩ = some (.int .u8 ((S[j]'h).toNat : Int))) := fun j h => by have := hc8.out j h; rwa [size_alloc] at this
  have HZ8 : Hid (∀ j, j < S.size → w8.frozen? ⟨w7.heap.size + 1, j, none⟩ = false) := fun j h => by have := hf8.out j h; rwa [size_alloc] at this
  clear hb8 hc8 hf8 hs8
  have B8s : Hid (Below w.heap.size w (w8.setCell ⟨w7.heap.size + 1, K, none⟩ (.int .u8 c))) := B8.out.setCell (Nat.le_succ_of_le B7.out.size) _
  have HA8s : Hid (Four (w8.setCell ⟨w7.heap.size + 1, K, none⟩ (.int .u8 c)) w.heap.size (.int .u8 r) (.int .u8 g) (.int .u8 b) (.int .u8 255)) := HA8.out.far (by have := HA7.out.1; show w7.heap.size + 1 ≠ _; omega)
  have HF8s : Hid (Four (w8.setCell ⟨w7.heap.size + 1, K, none⟩ (.int .u8 c)) w5.heap.size (.int .u8 r) (.int .u8 g) (.int .u8 b) (.int .u8 255)) := HF8.out.far (by have := HF7.out.1; show w7.heap.size + 1 ≠ _; omega)
  clear HA8 HF8 B7 HA7 HF7 B6 HA6 HF6 B5 HA5 B4 HA4 B3 HA3 B2 HA2 B1 HA1 ks k1 k3 k4 k2
  go_cut [20] from 89 (fun s x => s = .bool G0 ∧ x = w8)
  case first =>
    clear HSET KCV HC8 HZ8 HE kc
    have hcl : c < 48 ∨ (48 ≤ c ∧ c ≤ 57) ∨ (57 < c ∧ c < 97) ∨ (97 ≤ c ∧ c ≤ 102) ∨ 102 < c := by omega
    have g0 : G0 = decide (0 ≤ CP.dig c) := HG0.out.symm
    unfold CP.dig at g0
    rcases hcl with h | ⟨h, h'⟩ | ⟨h, h'⟩ | ⟨h, h'⟩ | h
    · rw [if_neg (by omega), if_neg (by omega)] at g0
      obtain rfl : G0 = false := by rw [g0]; rfl
      clear g0 HG0
      have d1 : decide (48 ≤ (c : Int)) = false := by simp; omega
      have d2 : decide (97 ≤ (c : Int)) = false := by simp; omega
      go_wp2_with fail
      go_meet
      case rel => exact ⟨rfl, rfl⟩
    · rw [if_pos ⟨h, h'⟩] at g0
      obtain rfl : G0 = true := by rw [g0]; simp; omega
      clear g0 HG0
      have d1 : decide (48 ≤ (c : Int)) = true := by simp; omega
      have d2 : decide ((c : Int) ≤ 57) = true := by simp; omega
      go_wp2_with fail
      go_meet
      case rel => exact ⟨rfl, rfl⟩
    · rw [if_neg (by omega), if_neg (by omega)] at g0
      obtain rfl : G0 = false := by rw [g0]; rfl
      clear g0 HG0
      have d1 : decide (48 ≤ (c : Int)) = true := by simp; omega
      have d2 : decide ((c : Int) ≤ 57) = false := by simp; omega
      have d3 : decide (97 ≤ (c : Int)) = false := by simp; omega
      go_wp2_with fail
      go_meet
      case rel => exact ⟨rfl, rfl⟩
    · rw [if_neg (by omega), if_pos ⟨h, h'⟩] at g0
      obtain rfl : G0 = true := by rw [g0]; simp; omega
      clear g0 HG0
      have d1 : decide (48 ≤ (c : Int)) = true := by simp; omega
      have d2 : decide ((c : Int) ≤ 57) = false := by simp; omega
      have d3 : decide (97 ≤ (c : Int)) = true := by simp; omega
      have d4 : decide ((c : Int) ≤ 102) = true := by simp; omega
      go_wp2_with fail
      go_meet
      case rel => exact ⟨rfl, rfl⟩
    · rw [if_neg (by omega), if_neg (by omega)] at g0
      obtain rfl : G0 = false := by rw [g0]; rfl
      clear g0 HG0
      have d1 : decide (48 ≤ (c : Int)) = true := by simp; omega
      have d2 : decide ((c : Int) ≤ 57) = false := by simp; omega
      have d3 : decide (97 ≤ (c : Int)) = true := by simp; omega
      have d4 : decide ((c : Int) ≤ 102) = false := by simp; omega
      go_wp2_with fail
      go_meet
      case rel => exact ⟨rfl, rfl⟩
  case rest =>
    obtain ⟨rfl, rfl⟩ := hcut
    clear HG0
    have ck := HC8.out K (by rw [hS]; exact hKN)
    have fk := HZ8.out K (by rw [hS]; exact hKN)
    have hcv := KCV.out wc (w7.heap.size + 1) cap HC8.out
    clear HC8 HZ8 KCV
    by_cases hK0 : K = 0
    · subst hK0
      rw [if_pos rfl] at HSET
      by_cases h35 : c = 35
      · have e35 : ((c : Int) == 35) = true := by simp; omega
        have H35 : Hid (c = 35) := h35
        clear h35
        obtain ⟨R, hp⟩ : ∃ R, CP.parse (CP.bytes V) = some R := Option.isSome_iff_exists.1 (HSET.out.trans (by first | rfl | exact decide_eq_true H35.out))
        obtain ⟨r', g', b', a', rfl, _⟩ := CP.parse_shape hp
        have k5 : Hid (∀ W, ErrAt W ea → Calls Tryd.prog 7 #[.string V] W fun e w' => e = .returned (.tuple #[.agg #[.int .u8 r', .int .u8 g', .int .u8 b', .int .u8 a'], .nilIface]) ∧ Below W.heap.size W w') := fun W h => parse_some V ea W h r' g' b' a' hp
        clear hp
        clear HSET
        go_wp2_with (first
          | (go_at_call 11; refine (kc.out _).mono ?_; rintro e w10 ⟨rfl, hb10⟩
             have B10 : Hid (Below w.heap.size w w10) := (B9.out.alloc B9.out.size _).trans (hb10.mono (by simp; have := B9.out.size; omega)))
          | (go_at_call 7; refine (k5.out _ (HE.out.below B8s.out)).mono ?_; rintro e w9 ⟨rfl, hb9⟩
             have B9 : Hid (Below w.heap.size w w9) := B8s.out.trans (hb9.mono B8s.out.size)
             obtain ⟨z9, a0, a1, a2, a3⟩ := HA8s.out.below hb9
             obtain ⟨y9, f0, f1, f2, f3⟩ := HF8s.out.below hb9
             clear hb9 ck fk hcv))
        go_ret
        exact ⟨rfl, B10.out⟩
      · have e35 : ((c : Int) == 35) = false := by simp; omega
        have hp : CP.parse (CP.bytes V) = none := by
          cases h : CP.parse (CP.bytes V) with
          | none => rfl
          | some R => have := HSET.out; rw [h] at this; simp [h35] at this
        have k5 : Hid (∀ W, ErrAt W ea → Calls Tryd.prog 7 #[.string V] W fun e w' => e = .returned (.tuple #[.agg #[.int .u8 0, .int .u8 0, .int .u8 0, .int .u8 0], .iface 63 (.pointer (some ea))]) ∧ Below W.heap.size W w') := fun W h => parse_none V ea W h hp
        clear hp
        clear HSET
        go_wp2_with (first
          | (go_at_call 11; refine (kc.out _).mono ?_; rintro e w10 ⟨rfl, hb10⟩
             have B10 : Hid (Below w.heap.size w w10) := (B9.out.alloc B9.out.size _).trans (hb10.mono (by simp; have := B9.out.size; omega)))
          | (go_at_call 7; refine (k5.out _ (HE.out.below B8s.out)).mono ?_; rintro e w9 ⟨rfl, hb9⟩
             have B9 : Hid (Below w.heap.size w w9) := B8s.out.trans (hb9.mono B8s.out.size)
             obtain ⟨z9, a0, a1, a2, a3⟩ := HA8s.out.below hb9
             obtain ⟨y9, f0, f1, f2, f3⟩ := HF8s.out.below hb9
             clear hb9 ck fk hcv))
        go_ret
        exact ⟨rfl, B10.out⟩
    · have eK : ((K : Int) == 0) = false := by simp; omega
      rw [if_neg hK0] at HSET
      cases G0 with
      | true =>
        obtain ⟨R, hp⟩ : ∃ R, CP.parse (CP.bytes V) = some R := Option.isSome_iff_exists.1 (HSET.out.trans (by first | rfl | exact decide_eq_true H35.out))
        obtain ⟨r', g', b', a', rfl, _⟩ := CP.parse_shape hp
        have k5 : Hid (∀ W, ErrAt W ea → Calls Tryd.prog 7 #[.string V] W fun e w' => e = .returned (.tuple #[.agg #[.int .u8 r', .int .u8 g', .int .u8 b', .int .u8 a'], .nilIface]) ∧ Below W.heap.size W w') := fun W h => parse_some V ea W h r' g' b' a' hp
        clear hp
        clear HSET
        go_wp2_with (first
          | (go_at_call 11; refine (kc.out _).mono ?_; rintro e w10 ⟨rfl, hb10⟩
             have B10 : Hid (Below w.heap.size w w10) := (B9.out.alloc B9.out.size _).trans (hb10.mono (by simp; have := B9.out.size; omega)))
          | (go_at_call 7; refine (k5.out _ (HE.out.below B8s.out)).mono ?_; rintro e w9 ⟨rfl, hb9⟩
             have B9 : Hid (Below w.heap.size w w9) := B8s.out.trans (hb9.mono B8s.out.size)
             obtain ⟨z9, a0, a1, a2, a3⟩ := HA8s.out.below hb9
             obtain ⟨y9, f0, f1, f2, f3⟩ := HF8s.out.below hb9
             clear hb9 ck fk hcv))
        go_ret
        exact ⟨rfl, B10.out⟩
      | false =>
        have hp : CP.parse (CP.bytes V) = none := by
          cases h : CP.parse (CP.bytes V) with
          | none => rfl
          | some R => have := HSET.out; rw [h] at this; simp at this
        have k5 : Hid (∀ W, ErrAt W ea → Calls Tryd.prog 7 #[.string V] W fun e w' => e = .returned (.tuple #[.agg #[.int .u8 0, .int .u8 0, .int .u8 0, .int .u8 0], .iface 63 (.pointer (some ea))]) ∧ Below W.heap.size W w') := fun W h => parse_none V ea W h hp
        clear hp
        clear HSET
        go_wp2_with (first
          | (go_at_call 11; refine (kc.out _).mono ?_; rintro e w10 ⟨rfl, hb10⟩
             have B10 : Hid (Below w.heap.size w w10) := (B9.out.alloc B9.out.size _).trans (hb10.mono (by simp; have := B9.out.size; omega)))
          | (go_at_call 7; refine (k5.out _ (HE.out.below B8s.out)).mono ?_; rintro e w9 ⟨rfl, hb9⟩
             have B9 : Hid (Below w.heap.size w w9) := B8s.out.trans (hb9.mono B8s.out.size)
             obtain ⟨z9, a0, a1, a2, a3⟩ := HA8s.out.below hb9
             obtain ⟨y9, f0, f1, f2, f3⟩ := HF8s.out.below hb9
             clear hb9 ck fk hcv))
        go_ret
        exact ⟨rfl, B10.out⟩

end Go.Proofs.YtlgcbjipfolmbaaDoor

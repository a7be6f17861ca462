/-
  The road of the statement ColorSays, walked over the program: every answer of package color is the document's.
-/
import Derived.DeepKeys
import Derived.Test.YtlgcbjipfolmbaaDoorColorParse3
import Derived.Test.YtlgcbjipfolmbaaDoorColorRefParse
import Derived.Test.YtlgcbjipfolmbaaDoorErrSee
namespace Go.Proofs.YtlgcbjipfolmbaaDoor
open Go.RowKit

theorem guard_wide : Tryd.prog.eqGuardType Tryd.prog.depth 34 = false := by kernel_rfl

theorem eql_wide (a b c d : Int) (W : World) : (Op.equalIn 10000 34 (.agg #[.int .i64 a, .int .i64 b, .int .i64 c, .int .i64 d]) (.agg #[.int .i64 a, .int .i64 b, .int .i64 c, .int .i64 d])).run Tryd.prog W = .ok true W := by
  obtain ⟨i, hi⟩ : ∃ i, Tryd.prog.info? 2 = some i := Option.isSome_iff_exists.1 (show (Tryd.prog.info? 2).isSome = true by kernel_rfl)
  have hc : Tryd.prog.cellsOf 2 = 1 := by kernel_rfl
  rw [run_equalIn_array W 9999 _ _ Tryd.underlying34 hi]
  have hr : List.range 4 = [0, 1, 2, 3] := by decide
  simp [hr, hc, Op.eqItems, go_sem]

theorem four_all {W : World} {A B C : Nat} {v0 v1 v2 v3 u0 u1 u2 u3 t0 t1 t2 t3 : Value} (h : Four W A v0 v1 v2 v3) (g : Four W B u0 u1 u2 u3) (k : Four W C t0 t1 t2 t3) :
    W.cell? ⟨A, 0, none⟩ = some v0 ∧ W.cell? ⟨A, 1, none⟩ = some v1 ∧ W.cell? ⟨A, 2, none⟩ = some v2 ∧ W.cell? ⟨A, 3, none⟩ = some v3 ∧ W.cell? ⟨B, 0, none⟩ = some u0 ∧ W.cell? ⟨B, 1, none⟩ = some u1 ∧ W.cell? ⟨B, 2, none⟩ = some u2 ∧ W.cell? ⟨B, 3, none⟩ = some u3 ∧
      W.cell? ⟨C, 0, none⟩ = some t0 ∧ W.cell? ⟨C, 1, none⟩ = some t1 ∧ W.cell? ⟨C, 2, none⟩ = some t2 ∧ W.cell? ⟨C, 3, none⟩ = some t3 :=
  ⟨h.2.1, h.2.2.1, h.2.2.2.1, h.2.2.2.2, g.2.1, g.2.2.1, g.2.2.2.1, g.2.2.2.2, k.2.1, k.2.2.1, k.2.2.2.1, k.2.2.2.2⟩

set_option maxRecDepth 20000 in
set_option maxHeartbeats 1000000 in
theorem says_long (r g b a : Nat) (s : ByteArray) (w : World) (hl : 30 < s.size) (hm : s.size ≤ maxLen) :
    Calls Tryd.prog 3 #[.agg #[.int .u8 r, .int .u8 g, .int .u8 b, .int .u8 a], .string s] w fun e w' => e = .returned (.bool true) ∧ Below w.heap.size w w' := by
  unfold maxLen at hm
  go_enter Tryd.func3, Tryd.ntmps3
  go_wp2_with (go_at_call 6; refine (first_any _).mono ?_; rintro e w1 ⟨rfl, hb1⟩)
  go_ret
  exact ⟨rfl, ((Below.refl _ _).alloc (Nat.le_refl _) _).trans (hb1.mono (by simp))⟩

set_option maxRecDepth 100000 in
set_option maxHeartbeats 4000000 in
theorem says_some (r g b a : Nat) (s : ByteArray) (A : Nat → Addr) (w : World) (hr : r < 256) (hg : g < 256) (hb : b < 256) (ha : a < 256) (hl : s.size ≤ 30) (hE13 : Errs13 w A) (r' g' b' a' : Nat) (hp : CP.parse (CP.bytes s) = some [r', g', b', a']) :
    Calls Tryd.prog 3 #[.agg #[.int .u8 r, .int .u8 g, .int .u8 b, .int .u8 a], .string s] w fun e w' => e = .returned (.bool true) ∧ Below w.heap.size w w' := by
  have hE : ∀ W, Below w.heap.size w W → ErrAt W (A 0) := fun W hb => by
    obtain ⟨h1, h2, _⟩ := hE13.below hb 0 (by omega)
    exact ⟨h1, h2⟩
  have kp : Hid (∀ W, Below w.heap.size w W → Calls Tryd.prog 7 #[.string s] W fun e w' => e = .returned (.tuple #[.agg #[.int .u8 r', .int .u8 g', .int .u8 b', .int .u8 a'], .nilIface]) ∧ Below W.heap.size W w') := fun W hb => parse_some s (A 0) W (hE W hb) r' g' b' a' hp
  have kr : Hid (∀ W, Calls Tryd.prog 8 #[.string s] W fun e w' => e = .returned (.tuple #[.agg #[.int .u8 r', .int .u8 g', .int .u8 b', .int .u8 a'], .bool true]) ∧ Below W.heap.size W w') := fun W => rparse_some s W r' g' b' a' hp
  have ki : Hid (∀ W, Below w.heap.size w W → Calls Tryd.prog 12 #[.nilIface, .int .i64 0] W fun e w' => e = .returned (.bool true) ∧ Below W.heap.size W w') := fun W _ => is_nil W
  have kc : Hid (∀ W, Calls Tryd.prog 11 #[.agg #[.int .u8 r', .int .u8 g', .int .u8 b', .int .u8 a'], .agg #[.int .u8 r', .int .u8 g', .int .u8 b', .int .u8 a']] W fun e w' => e = .returned (.bool true) ∧ Below W.heap.size W w') := fun W => by
    have := same_any r' g' b' a' r' g' b' a' W
    simpa using this
  have k1 : Hid (∀ w, Calls Tryd.prog 9 #[.agg #[.int .u8 r, .int .u8 g, .int .u8 b, .int .u8 a]] w fun e w' => e = .returned (.string (CP.str (CP.text r g b a))) ∧ Below w.heap.size w w') := fun w => show_any r g b a w hr hg hb ha
  have k2 : Hid (∀ w, Calls Tryd.prog 10 #[.agg #[.int .u8 r, .int .u8 g, .int .u8 b, .int .u8 a]] w fun e w' => e = .returned (.string (CP.str (CP.text r g b a))) ∧ Below w.heap.size w w') := fun w => rshow_any r g b a w hr hg hb ha
  have k3 : Hid (∀ w, Calls Tryd.prog 13 #[.agg #[.int .u8 r, .int .u8 g, .int .u8 b, .int .u8 a]] w fun e w' => e = .returned (.agg #[.int .i64 (257 * (r : Int)), .int .i64 (257 * (g : Int)), .int .i64 (257 * (b : Int)), .int .i64 (257 * (a : Int))]) ∧ Below w.heap.size w w') := fun w => wide_any r g b a w hr hg hb ha
  have k4 : Hid (∀ w, Calls Tryd.prog 14 #[.agg #[.int .u8 r, .int .u8 g, .int .u8 b, .int .u8 a]] w fun e w' => e = .returned (.agg #[.int .i64 (257 * (r : Int)), .int .i64 (257 * (g : Int)), .int .i64 (257 * (b : Int)), .int .i64 (257 * (a : Int))]) ∧ Below w.heap.size w w') := fun w => rwide_any r g b a w hr hg hb ha
  generalize CP.str (CP.text r g b a) = T at k1 k2
  have heq := fun W => eql_wide (257 * (r : Int)) (257 * (g : Int)) (257 * (b : Int)) (257 * (a : Int)) W
  generalize 257 * (r : Int) = X0 at k3 k4 heq
  generalize 257 * (g : Int) = X1 at k3 k4 heq
  generalize 257 * (b : Int) = X2 at k3 k4 heq
  generalize 257 * (a : Int) = X3 at k3 k4 heq
  have hgd := guard_wide
  clear hE hE13 hp
  go_enter Tryd.func3, Tryd.ntmps3
  go_wp2_with (first
    | (go_at_call 8; refine (kr.out (w2.alloc (.cells #[.int .u8 r', .int .u8 g', .int .u8 b', .int .u8 a'] 23))).mono ?_; rintro e w3 ⟨rfl, hb3⟩
       have B3 : Hid (Below w.heap.size w w3) := (B2.out.alloc B2.out.size _).trans (hb3.mono (by simp; have := B2.out.size; omega))
       have HA3 : Hid (Four w3 w.heap.size (.int .u8 r) (.int .u8 g) (.int .u8 b) (.int .u8 a)) := (HA2.out.alloc _).below hb3
       have HX3 : Hid (Four w3 w2.heap.size (.int .u8 r') (.int .u8 g') (.int .u8 b') (.int .u8 a')) := (four_new w2 _ _ _ _ 23 (0, 0)).below hb3
       clear hb3)
    | (go_at_call 7; refine (kp.out w1 B1.out).mono ?_; rintro e w2 ⟨rfl, hb2⟩
       have B2 : Hid (Below w.heap.size w w2) := B1.out.trans (hb2.mono B1.out.size)
       have HA2 : Hid (Four w2 w.heap.size (.int .u8 r) (.int .u8 g) (.int .u8 b) (.int .u8 a)) := HA1.out.below hb2
       clear hb2)
    | (go_at_call 6; refine (first_any _).mono ?_; rintro e w1 ⟨rfl, hb1⟩
       have B1 : Hid (Below w.heap.size w w1) := ((Below.refl _ _).alloc (Nat.le_refl _) _).trans (hb1.mono (by simp))
       have HA1 : Hid (Four w1 w.heap.size (.int .u8 r) (.int .u8 g) (.int .u8 b) (.int .u8 a)) := (four_new w _ _ _ _ 23 (0, 0)).below hb1
       clear hb1))
  have HA : Hid (Four (w3.alloc (.cells #[.int .u8 r', .int .u8 g', .int .u8 b', .int .u8 a'] 23)) w.heap.size (.int .u8 r) (.int .u8 g) (.int .u8 b) (.int .u8 a)) := HA3.out.alloc _
  have HX : Hid (Four (w3.alloc (.cells #[.int .u8 r', .int .u8 g', .int .u8 b', .int .u8 a'] 23)) w2.heap.size (.int .u8 r') (.int .u8 g') (.int .u8 b') (.int .u8 a')) := HX3.out.alloc _
  have HY : Hid (Four (w3.alloc (.cells #[.int .u8 r', .int .u8 g', .int .u8 b', .int .u8 a'] 23)) w3.heap.size (.int .u8 r') (.int .u8 g') (.int .u8 b') (.int .u8 a')) := four_new w3 _ _ _ _ 23 (0, 0)
  have BW : Hid (Below w.heap.size w (w3.alloc (.cells #[.int .u8 r', .int .u8 g', .int .u8 b', .int .u8 a'] 23))) := B3.out.alloc B3.out.size _
  clear HA3 HX3 HA2 HA1 B3 B2 B1 kp kr
  go_region_held3 (fun W => W.cell? ⟨w.heap.size, 0, none⟩ = some (.int .u8 r) ∧ W.cell? ⟨w.heap.size, 1, none⟩ = some (.int .u8 g) ∧ W.cell? ⟨w.heap.size, 2, none⟩ = some (.int .u8 b) ∧ W.cell? ⟨w.heap.size, 3, none⟩ = some (.int .u8 a) ∧ W.cell? ⟨w2.heap.size, 0, none⟩ = some (.int .u8 r') ∧ W.cell? ⟨w2.heap.size, 1, none⟩ = some (.int .u8 g') ∧ W.cell? ⟨w2.heap.size, 2, none⟩ = some (.int .u8 b') ∧ W.cell? ⟨w2.heap.size, 3, none⟩ = some (.int .u8 a') ∧ W.cell? ⟨w3.heap.size, 0, none⟩ = some (.int .u8 r') ∧ W.cell? ⟨w3.heap.size, 1, none⟩ = some (.int .u8 g') ∧ W.cell? ⟨w3.heap.size, 2, none⟩ = some (.int .u8 b') ∧ W.cell? ⟨w3.heap.size, 3, none⟩ = some (.int .u8 a'))
    (first | exact four_all (HA.out.below B9.out) (HX.out.below B9.out) (HY.out.below B9.out) | exact four_all (HA.out.below B8.out) (HX.out.below B8.out) (HY.out.below B8.out) | exact four_all (HA.out.below B7.out) (HX.out.below B7.out) (HY.out.below B7.out) | exact four_all (HA.out.below B6.out) (HX.out.below B6.out) (HY.out.below B6.out) | exact four_all (HA.out.below B5.out) (HX.out.below B5.out) (HY.out.below B5.out) | exact four_all (HA.out.below B4.out) (HX.out.below B4.out) (HY.out.below B4.out) | exact four_all HA.out HX.out HY.out)
    (first
    | (go_at_call 14; refine (k4.out w8).mono ?_; rintro e w9 ⟨rfl, hb9⟩; have B9 : Hid (Below (w3.alloc (.cells #[.int .u8 r', .int .u8 g', .int .u8 b', .int .u8 a'] 23)).heap.size (w3.alloc (.cells #[.int .u8 r', .int .u8 g', .int .u8 b', .int .u8 a'] 23)) w9) := B8.out.trans (hb9.mono B8.out.size); clear hb9)
    | (go_at_call 13; refine (k3.out w7).mono ?_; rintro e w8 ⟨rfl, hb8⟩; have B8 : Hid (Below (w3.alloc (.cells #[.int .u8 r', .int .u8 g', .int .u8 b', .int .u8 a'] 23)).heap.size (w3.alloc (.cells #[.int .u8 r', .int .u8 g', .int .u8 b', .int .u8 a'] 23)) w8) := B7.out.trans (hb8.mono B7.out.size); clear hb8)
    | (go_at_call 12; refine (ki.out w6 (BW.out.trans (B6.out.mono BW.out.size))).mono ?_; rintro e w7 ⟨rfl, hb7⟩; have B7 : Hid (Below (w3.alloc (.cells #[.int .u8 r', .int .u8 g', .int .u8 b', .int .u8 a'] 23)).heap.size (w3.alloc (.cells #[.int .u8 r', .int .u8 g', .int .u8 b', .int .u8 a'] 23)) w7) := B6.out.trans (hb7.mono B6.out.size); clear hb7)
    | (go_at_call 11; refine (kc.out w5).mono ?_; rintro e w6 ⟨rfl, hb6⟩; have B6 : Hid (Below (w3.alloc (.cells #[.int .u8 r', .int .u8 g', .int .u8 b', .int .u8 a'] 23)).heap.size (w3.alloc (.cells #[.int .u8 r', .int .u8 g', .int .u8 b', .int .u8 a'] 23)) w6) := B5.out.trans (hb6.mono B5.out.size); clear hb6)
    | (go_at_call 10; refine (k2.out w4).mono ?_; rintro e w5 ⟨rfl, hb5⟩; have B5 : Hid (Below (w3.alloc (.cells #[.int .u8 r', .int .u8 g', .int .u8 b', .int .u8 a'] 23)).heap.size (w3.alloc (.cells #[.int .u8 r', .int .u8 g', .int .u8 b', .int .u8 a'] 23)) w5) := B4.out.trans (hb5.mono B4.out.size); clear hb5)
    | (go_at_call 9; refine (k1.out _).mono ?_; rintro e w4 ⟨rfl, hb4⟩; have B4 : Hid (Below (w3.alloc (.cells #[.int .u8 r', .int .u8 g', .int .u8 b', .int .u8 a'] 23)).heap.size (w3.alloc (.cells #[.int .u8 r', .int .u8 g', .int .u8 b', .int .u8 a'] 23)) w4) := below_of_drew hb4; clear hb4))
  go_wp2
  go_ret
  exact ⟨by simp, BW.out.trans (B9.out.mono BW.out.size)⟩

set_option maxRecDepth 100000 in
set_option maxHeartbeats 4000000 in
theorem says_none (r g b a : Nat) (s : ByteArray) (A : Nat → Addr) (w : World) (hr : r < 256) (hg : g < 256) (hb : b < 256) (ha : a < 256) (hl : s.size ≤ 30) (hE13 : Errs13 w A) (hp : CP.parse (CP.bytes s) = none) :
    Calls Tryd.prog 3 #[.agg #[.int .u8 r, .int .u8 g, .int .u8 b, .int .u8 a], .string s] w fun e w' => e = .returned (.bool true) ∧ Below w.heap.size w w' := by
  have hE : ∀ W, Below w.heap.size w W → ErrAt W (A 0) := fun W hb => by
    obtain ⟨h1, h2, _⟩ := hE13.below hb 0 (by omega)
    exact ⟨h1, h2⟩
  have kp : Hid (∀ W, Below w.heap.size w W → Calls Tryd.prog 7 #[.string s] W fun e w' => e = .returned (.tuple #[.agg #[.int .u8 0, .int .u8 0, .int .u8 0, .int .u8 0], .iface 63 (.pointer (some (A 0)))]) ∧ Below W.heap.size W w') := fun W hb => parse_none s (A 0) W (hE W hb) hp
  have kr : Hid (∀ W, Calls Tryd.prog 8 #[.string s] W fun e w' => e = .returned (.tuple #[.agg #[.int .u8 0, .int .u8 0, .int .u8 0, .int .u8 0], .bool false]) ∧ Below W.heap.size W w') := fun W => rparse_none s W hp
  have ki : Hid (∀ W, Below w.heap.size w W → Calls Tryd.prog 12 #[.iface 63 (.pointer (some (A 0))), .int .i64 101] W fun e w' => e = .returned (.bool true) ∧ Below W.heap.size W w') := fun W hb => is_bare A W (hE13.below hb) 0 (by omega) (A 0) rfl 101 (by omega)
  have kc : Hid (∀ W, Calls Tryd.prog 11 #[.agg #[.int .u8 0, .int .u8 0, .int .u8 0, .int .u8 0], .agg #[.int .u8 0, .int .u8 0, .int .u8 0, .int .u8 0]] W fun e w' => e = .returned (.bool true) ∧ Below W.heap.size W w') := fun W => by
    have := same_any 0 0 0 0 0 0 0 0 W
    simpa using this
  have k1 : Hid (∀ w, Calls Tryd.prog 9 #[.agg #[.int .u8 r, .int .u8 g, .int .u8 b, .int .u8 a]] w fun e w' => e = .returned (.string (CP.str (CP.text r g b a))) ∧ Below w.heap.size w w') := fun w => show_any r g b a w hr hg hb ha
  have k2 : Hid (∀ w, Calls Tryd.prog 10 #[.agg #[.int .u8 r, .int .u8 g, .int .u8 b, .int .u8 a]] w fun e w' => e = .returned (.string (CP.str (CP.text r g b a))) ∧ Below w.heap.size w w') := fun w => rshow_any r g b a w hr hg hb ha
  have k3 : Hid (∀ w, Calls Tryd.prog 13 #[.agg #[.int .u8 r, .int .u8 g, .int .u8 b, .int .u8 a]] w fun e w' => e = .returned (.agg #[.int .i64 (257 * (r : Int)), .int .i64 (257 * (g : Int)), .int .i64 (257 * (b : Int)), .int .i64 (257 * (a : Int))]) ∧ Below w.heap.size w w') := fun w => wide_any r g b a w hr hg hb ha
  have k4 : Hid (∀ w, Calls Tryd.prog 14 #[.agg #[.int .u8 r, .int .u8 g, .int .u8 b, .int .u8 a]] w fun e w' => e = .returned (.agg #[.int .i64 (257 * (r : Int)), .int .i64 (257 * (g : Int)), .int .i64 (257 * (b : Int)), .int .i64 (257 * (a : Int))]) ∧ Below w.heap.size w w') := fun w => rwide_any r g b a w hr hg hb ha
  generalize CP.str (CP.text r g b a) = T at k1 k2
  have heq := fun W => eql_wide (257 * (r : Int)) (257 * (g : Int)) (257 * (b : Int)) (257 * (a : Int)) W
  generalize 257 * (r : Int) = X0 at k3 k4 heq
  generalize 257 * (g : Int) = X1 at k3 k4 heq
  generalize 257 * (b : Int) = X2 at k3 k4 heq
  generalize 257 * (a : Int) = X3 at k3 k4 heq
  have hgd := guard_wide
  clear hE hE13 hp
  go_enter Tryd.func3, Tryd.ntmps3
  go_wp2_with (first
    | (go_at_call 8; refine (kr.out (w2.alloc (.cells #[.int .u8 0, .int .u8 0, .int .u8 0, .int .u8 0] 23))).mono ?_; rintro e w3 ⟨rfl, hb3⟩
       have B3 : Hid (Below w.heap.size w w3) := (B2.out.alloc B2.out.size _).trans (hb3.mono (by simp; have := B2.out.size; omega))
       have HA3 : Hid (Four w3 w.heap.size (.int .u8 r) (.int .u8 g) (.int .u8 b) (.int .u8 a)) := (HA2.out.alloc _).below hb3
       have HX3 : Hid (Four w3 w2.heap.size (.int .u8 0) (.int .u8 0) (.int .u8 0) (.int .u8 0)) := (four_new w2 _ _ _ _ 23 (0, 0)).below hb3
       clear hb3)
    | (go_at_call 7; refine (kp.out w1 B1.out).mono ?_; rintro e w2 ⟨rfl, hb2⟩
       have B2 : Hid (Below w.heap.size w w2) := B1.out.trans (hb2.mono B1.out.size)
       have HA2 : Hid (Four w2 w.heap.size (.int .u8 r) (.int .u8 g) (.int .u8 b) (.int .u8 a)) := HA1.out.below hb2
       clear hb2)
    | (go_at_call 6; refine (first_any _).mono ?_; rintro e w1 ⟨rfl, hb1⟩
       have B1 : Hid (Below w.heap.size w w1) := ((Below.refl _ _).alloc (Nat.le_refl _) _).trans (hb1.mono (by simp))
       have HA1 : Hid (Four w1 w.heap.size (.int .u8 r) (.int .u8 g) (.int .u8 b) (.int .u8 a)) := (four_new w _ _ _ _ 23 (0, 0)).below hb1
       clear hb1))
  have HA : Hid (Four (w3.alloc (.cells #[.int .u8 0, .int .u8 0, .int .u8 0, .int .u8 0] 23)) w.heap.size (.int .u8 r) (.int .u8 g) (.int .u8 b) (.int .u8 a)) := HA3.out.alloc _
  have HX : Hid (Four (w3.alloc (.cells #[.int .u8 0, .int .u8 0, .int .u8 0, .int .u8 0] 23)) w2.heap.size (.int .u8 0) (.int .u8 0) (.int .u8 0) (.int .u8 0)) := HX3.out.alloc _
  have HY : Hid (Four (w3.alloc (.cells #[.int .u8 0, .int .u8 0, .int .u8 0, .int .u8 0] 23)) w3.heap.size (.int .u8 0) (.int .u8 0) (.int .u8 0) (.int .u8 0)) := four_new w3 _ _ _ _ 23 (0, 0)
  have BW : Hid (Below w.heap.size w (w3.alloc (.cells #[.int .u8 0, .int .u8 0, .int .u8 0, .int .u8 0] 23))) := B3.out.alloc B3.out.size _
  clear HA3 HX3 HA2 HA1 B3 B2 B1 kp kr
  go_region_held3 (fun W => W.cell? ⟨w.heap.size, 0, none⟩ = some (.int .u8 r) ∧ W.cell? ⟨w.heap.size, 1, none⟩ = some (.int .u8 g) ∧ W.cell? ⟨w.heap.size, 2, none⟩ = some (.int .u8 b) ∧ W.cell? ⟨w.heap.size, 3, none⟩ = some (.int .u8 a) ∧ W.cell? ⟨w2.heap.size, 0, none⟩ = some (.int .u8 0) ∧ W.cell? ⟨w2.heap.size, 1, none⟩ = some (.int .u8 0) ∧ W.cell? ⟨w2.heap.size, 2, none⟩ = some (.int .u8 0) ∧ W.cell? ⟨w2.heap.size, 3, none⟩ = some (.int .u8 0) ∧ W.cell? ⟨w3.heap.size, 0, none⟩ = some (.int .u8 0) ∧ W.cell? ⟨w3.heap.size, 1, none⟩ = some (.int .u8 0) ∧ W.cell? ⟨w3.heap.size, 2, none⟩ = some (.int .u8 0) ∧ W.cell? ⟨w3.heap.size, 3, none⟩ = some (.int .u8 0))
    (first | exact four_all (HA.out.below B9.out) (HX.out.below B9.out) (HY.out.below B9.out) | exact four_all (HA.out.below B8.out) (HX.out.below B8.out) (HY.out.below B8.out) | exact four_all (HA.out.below B7.out) (HX.out.below B7.out) (HY.out.below B7.out) | exact four_all (HA.out.below B6.out) (HX.out.below B6.out) (HY.out.below B6.out) | exact four_all (HA.out.below B5.out) (HX.out.below B5.out) (HY.out.below B5.out) | exact four_all (HA.out.below B4.out) (HX.out.below B4.out) (HY.out.below B4.out) | exact four_all HA.out HX.out HY.out)
    (first
    | (go_at_call 14; refine (k4.out w8).mono ?_; rintro e w9 ⟨rfl, hb9⟩; have B9 : Hid (Below (w3.alloc (.cells #[.int .u8 0, .int .u8 0, .int .u8 0, .int .u8 0] 23)).heap.size (w3.alloc (.cells #[.int .u8 0, .int .u8 0, .int .u8 0, .int .u8 0] 23)) w9) := B8.out.trans (hb9.mono B8.out.size); clear hb9)
    | (go_at_call 13; refine (k3.out w7).mono ?_; rintro e w8 ⟨rfl, hb8⟩; have B8 : Hid (Below (w3.alloc (.cells #[.int .u8 0, .int .u8 0, .int .u8 0, .int .u8 0] 23)).heap.size (w3.alloc (.cells #[.int .u8 0, .int .u8 0, .int .u8 0, .int .u8 0] 23)) w8) := B7.out.trans (hb8.mono B7.out.size); clear hb8)
    | (go_at_call 12; refine (ki.out w6 (BW.out.trans (B6.out.mono BW.out.size))).mono ?_; rintro e w7 ⟨rfl, hb7⟩; have B7 : Hid (Below (w3.alloc (.cells #[.int .u8 0, .int .u8 0, .int .u8 0, .int .u8 0] 23)).heap.size (w3.alloc (.cells #[.int .u8 0, .int .u8 0, .int .u8 0, .int .u8 0] 23)) w7) := B6.out.trans (hb7.mono B6.out.size); clear hb7)
    | (go_at_call 11; refine (kc.out w5).mono ?_; rintro e w6 ⟨rfl, hb6⟩; have B6 : Hid (Below (w3.alloc (.cells #[.int .u8 0, .int .u8 0, .int .u8 0, .int .u8 0] 23)).heap.size (w3.alloc (.cells #[.int .u8 0, .int .u8 0, .int .u8 0, .int .u8 0] 23)) w6) := B5.out.trans (hb6.mono B5.out.size); clear hb6)
    | (go_at_call 10; refine (k2.out w4).mono ?_; rintro e w5 ⟨rfl, hb5⟩; have B5 : Hid (Below (w3.alloc (.cells #[.int .u8 0, .int .u8 0, .int .u8 0, .int .u8 0] 23)).heap.size (w3.alloc (.cells #[.int .u8 0, .int .u8 0, .int .u8 0, .int .u8 0] 23)) w5) := B4.out.trans (hb5.mono B4.out.size); clear hb5)
    | (go_at_call 9; refine (k1.out _).mono ?_; rintro e w4 ⟨rfl, hb4⟩; have B4 : Hid (Below (w3.alloc (.cells #[.int .u8 0, .int .u8 0, .int .u8 0, .int .u8 0] 23)).heap.size (w3.alloc (.cells #[.int .u8 0, .int .u8 0, .int .u8 0, .int .u8 0] 23)) w4) := below_of_drew hb4; clear hb4))
  go_wp2
  go_ret
  exact ⟨by simp, BW.out.trans (B9.out.mono BW.out.size)⟩

end Go.Proofs.YtlgcbjipfolmbaaDoor

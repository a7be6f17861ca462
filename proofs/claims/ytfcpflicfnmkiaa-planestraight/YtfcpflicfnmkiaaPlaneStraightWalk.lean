/-
  PlaneStraight, walked over the program.
-/
import Derived.Test.YtfcpflicfnmkiaaPlaneLines
namespace Go.Proofs.Ytfcpflicfnmkiaa
open Go.RowKit

theorem number_same (n k : Int) (w : World) (h0 : 0 ≤ n) (h1 : 1 ≤ k) :
    Calls Try.prog 21 #[.int .i64 n, .int .i64 k] w fun e w' => e = .returned (.int .i64 (n % k)) ∧ w = w' :=
  (number_any n k w h0 h1).mono fun _ _ h => ⟨h.1, h.2.symm⟩

theorem turn_exact (x y : Int) (w : World) (h : -9223372036854775807 ≤ y ∧ y ≤ 9223372036854775807) :
    Calls Try.prog 22 #[.agg #[.int .i64 x, .int .i64 y]] w fun e w' => e = .returned (.agg #[.int .i64 (-y), .int .i64 x]) ∧ w' = (w.alloc (.cells #[.int .i64 x, .int .i64 y] 23)).alloc (.cells #[.int .i64 (-y), .int .i64 x] 23) := by
  go_enter Try.func22, Try.ntmps22
  go_wp2
  exact bodyPost_ret (v := .agg #[.int .i64 (-y), .int .i64 x]) (by simp [results, Try.results22, go_sem]) rfl ⟨rfl, rfl⟩

/-- Three points, turned in their places, and what was made on the way. -/
theorem turned9 {w w1 W : World} {t : TypeId} {x0 x1 y0 y1 z0 z1 : Value} {o1 o2 o3 o4 o5 o6 : Obj} (B1 : Below w.heap.size w w1)
    (hW : W = (((((((((w1.alloc (.cells #[x0, x1] t)).alloc (.cells #[y0, y1] t)).alloc (.cells #[z0, z1] t)).alloc o1).alloc o2).alloc o3).alloc o4).alloc o5).alloc o6).drew) :
    Two W w1.heap.size x0 x1 ∧ Two W (w1.heap.size + 1) y0 y1 ∧ Two W (w1.heap.size + 1 + 1) z0 z1 ∧ Below w.heap.size w W := by
  have hb := B1.size
  obtain ⟨W3, h3⟩ : ∃ W, ((w1.alloc (.cells #[x0, x1] t)).alloc (.cells #[y0, y1] t)).alloc (.cells #[z0, z1] t) = W := ⟨_, rfl⟩
  rw [h3] at hW
  have A : Two W3 w1.heap.size x0 x1 := by rw [← h3]; exact ((two_new w1 _ _ t (0, 0)).alloc _).alloc _
  have B : Two W3 (w1.heap.size + 1) y0 y1 := by have := (two_new (w1.alloc (.cells #[x0, x1] t)) y0 y1 t (0, 0)).alloc (.cells #[z0, z1] t); rw [h3, size_alloc] at this; exact this
  have C : Two W3 (w1.heap.size + 1 + 1) z0 z1 := by have := two_new ((w1.alloc (.cells #[x0, x1] t)).alloc (.cells #[y0, y1] t)) z0 z1 t (0, 0); rw [h3, size_alloc, size_alloc] at this; exact this
  have D : Below w.heap.size w W3 := by rw [← h3]; exact ((B1.alloc hb _).alloc (by simp only [size_alloc]; omega) _).alloc (by simp only [size_alloc]; omega) _
  have E : Below W3.heap.size W3 W := by
    rw [hW]
    refine Below.drew (Below.alloc (Below.alloc (Below.alloc (Below.alloc (Below.alloc (Below.alloc (Below.refl _ _) ?_ _) ?_ _) ?_ _) ?_ _) ?_ _) ?_ _)
    all_goals first | exact Nat.le_refl _ | (simp only [size_alloc]; omega)
  exact ⟨A.below E, B.below E, C.below E, chain D E⟩

set_option maxRecDepth 100000 in
set_option maxHeartbeats 4000000 in
theorem straight_walk (c0 c1 c2 c3 c4 : Int) (dn : Bool) (w : World) :
    Calls Try.prog 5 #[.int .i64 c0, .int .i64 c1, .int .i64 c2, .int .i64 c3, .int .i64 c4, .bool dn] w fun e w' => e = .returned (.bool true) ∧ Below w.heap.size w w' := by
  have p1 : 0 ≤ bits .and .i64 c1 16777215 := by rw [low24]; omega
  have p2 : 0 ≤ bits .and .i64 c4 16777215 := by rw [low24]; omega
  obtain ⟨M1, hM1⟩ : ∃ u, bits .and .i64 c1 16777215 = u := ⟨_, rfl⟩
  obtain ⟨M2, hM2⟩ : ∃ u, bits .and .i64 c4 16777215 = u := ⟨_, rfl⟩
  rw [hM1] at p1
  rw [hM2] at p2
  have kq1 : Hid (∀ w, Calls Try.prog 21 #[.int .i64 M1, .int .i64 10000] w fun e w' => e = .returned (.int .i64 (M1 % 10000)) ∧ w = w') := fun w => number_same M1 10000 w p1 (by omega)
  have kq2 : Hid (∀ w, Calls Try.prog 21 #[.int .i64 M2, .int .i64 40000] w fun e w' => e = .returned (.int .i64 (M2 % 40000)) ∧ w = w') := fun w => number_same M2 40000 w p2 (by omega)
  have r1 : 0 ≤ M1 % 10000 ∧ M1 % 10000 ≤ 9999 := by omega
  have r2 : 0 ≤ M2 % 40000 ∧ M2 % 40000 ≤ 39999 := by omega
  clear p1 p2
  generalize M1 % 10000 = q1 at kq1 r1
  generalize M2 % 40000 = k at kq2 r2
  obtain ⟨l, hl⟩ : ∃ u, q1 + 1 = u := ⟨_, rfl⟩
  have r3 : 1 ≤ l ∧ l ≤ 10000 := by omega
  have t0 := tmod_in c0 100000 (by omega)
  have t2 := tmod_in c2 20000 (by omega)
  have t3 := tmod_in c3 20000 (by omega)
  obtain ⟨z, hz⟩ : ∃ u, c0.tmod 100000 = u := ⟨_, rfl⟩
  obtain ⟨x, hx⟩ : ∃ u, c2.tmod 20000 = u := ⟨_, rfl⟩
  obtain ⟨y, hy⟩ : ∃ u, c3.tmod 20000 = u := ⟨_, rfl⟩
  rw [hz] at t0
  rw [hx] at t2
  rw [hy] at t3
  obtain ⟨o, ho⟩ : ∃ o, Out x l o := by
    by_cases h1 : x < 0
    · exact ⟨-x, .inl ⟨h1, rfl⟩⟩
    · by_cases h2 : x ≤ l
      · exact ⟨0, .inr (.inl ⟨by omega, h2, rfl⟩)⟩
      · exact ⟨x - l, .inr (.inr ⟨by omega, rfl⟩)⟩
  have HO : Hid (Out x l o) := ho
  have ob : -29999 ≤ o ∧ o ≤ 29999 := by unfold Out at ho; omega
  have en := near_axis z l x y k o r3.1 ho
  clear ho
  have b1 := PL.mulb o o 29999 29999 (by omega) (by omega)
  have b2 := PL.mulb y y 20000 20000 (by omega) (by omega)
  have b3 := PL.w_bound k r2.1 (by omega)
  obtain ⟨a0, a1, b0, b1', p0, p1, HD, hn, i1, i2, i3, i4, i5, i6⟩ : ∃ a0 a1 b0 b1 p0 p1 : Int, Hid ((dn = false ∧ a0 = z ∧ a1 = 7 ∧ b0 = z + l ∧ b1 = 7 ∧ p0 = z + x ∧ p1 = 7 + y) ∨ (dn = true ∧ a0 = -7 ∧ a1 = z ∧ b0 = -7 ∧ b1 = z + l ∧ p0 = -(7 + y) ∧ p1 = z + x)) ∧
      PL.near a0 a1 b0 b1 p0 p1 k = PL.near z 7 (z + l) 7 (z + x) (7 + y) k ∧ PL.In a0 ∧ PL.In a1 ∧ PL.In b0 ∧ PL.In b1 ∧ PL.In p0 ∧ PL.In p1 := by
    cases dn
    · exact ⟨z, 7, z + l, 7, z + x, 7 + y, Or.inl ⟨rfl, rfl, rfl, rfl, rfl, rfl, rfl⟩, rfl, ⟨by omega, by omega⟩, ⟨by omega, by omega⟩, ⟨by omega, by omega⟩, ⟨by omega, by omega⟩, ⟨by omega, by omega⟩, ⟨by omega, by omega⟩⟩
    · exact ⟨-7, z, -7, z + l, -(7 + y), z + x, Or.inr ⟨rfl, rfl, rfl, rfl, rfl, rfl, rfl⟩, PL.near_turn _ _ _ _ _ _ _, ⟨by omega, by omega⟩, ⟨by omega, by omega⟩, ⟨by omega, by omega⟩, ⟨by omega, by omega⟩, ⟨by omega, by omega⟩, ⟨by omega, by omega⟩⟩
  have kn : Hid (∀ w, Calls Try.prog 16 #[.agg #[.int .i64 a0, .int .i64 a1], .agg #[.int .i64 b0, .int .i64 b1'], .agg #[.int .i64 p0, .int .i64 p1], .int .i64 k] w fun e w' => e = .returned (.bool (decide (4 * (o * o + y * y) ≤ k * k))) ∧ Below w.heap.size w w') := fun w => by
    have := near_any a0 a1 b0 b1' p0 p1 k w i1 i2 i3 i4 i5 i6 r2.1 (by omega)
    rw [hn, en] at this
    exact this
  have s1 : Hid (∀ w, Calls Try.prog 22 #[.agg #[.int .i64 z, .int .i64 7]] w fun e w' => e = .returned (.agg #[.int .i64 (-7), .int .i64 z]) ∧ w' = (w.alloc (.cells #[.int .i64 z, .int .i64 7] 23)).alloc (.cells #[.int .i64 (-7), .int .i64 z] 23)) := fun w => turn_exact z 7 w (by omega)
  have s2 : Hid (∀ w, Calls Try.prog 22 #[.agg #[.int .i64 (z + l), .int .i64 7]] w fun e w' => e = .returned (.agg #[.int .i64 (-7), .int .i64 (z + l)]) ∧ w' = (w.alloc (.cells #[.int .i64 (z + l), .int .i64 7] 23)).alloc (.cells #[.int .i64 (-7), .int .i64 (z + l)] 23)) := fun w => turn_exact (z + l) 7 w (by omega)
  have s3 : Hid (∀ w, Calls Try.prog 22 #[.agg #[.int .i64 (z + x), .int .i64 (7 + y)]] w fun e w' => e = .returned (.agg #[.int .i64 (-(7 + y)), .int .i64 (z + x)]) ∧ w' = (w.alloc (.cells #[.int .i64 (z + x), .int .i64 (7 + y)] 23)).alloc (.cells #[.int .i64 (-(7 + y)), .int .i64 (z + x)] 23)) := fun w => turn_exact (z + x) (7 + y) w (by omega)
  clear hn en i1 i2 i3 i4 i5 i6
  obtain ⟨O, hO⟩ : ∃ u, o * o = u := ⟨_, rfl⟩
  obtain ⟨Y, hY⟩ : ∃ u, y * y = u := ⟨_, rfl⟩
  obtain ⟨K, hK⟩ : ∃ u, k * k = u := ⟨_, rfl⟩
  rw [hO] at b1 kn
  rw [hY] at b2 kn
  rw [hK] at b3 kn
  have HOO : Hid (o * o = O) := hO
  clear hO
  go_enter Try.func5, Try.ntmps5
  go_upto_region 12 with (first
    | (go_at_call 21; with_reducible refine (kq1.out _).mono ?_; rintro e w9 ⟨rfl, rfl⟩)
    | (go_at_call 21; with_reducible refine (kq2.out _).mono ?_; rintro e w9 ⟨rfl, rfl⟩)
    | (go_at_call 8; refine (first_any w).mono ?_; rintro e w1 ⟨rfl, hb1⟩
       have B1 : Hid (Below w.heap.size w w1) := hb1
       clear hb1))
  clear kq1 kq2 hM1 hM2 hz hx hy
  obtain ⟨W, hW⟩ : ∃ W, ((w1.alloc (.cells #[.int .i64 z, .int .i64 7] 23)).alloc (.cells #[.int .i64 (z + l), .int .i64 7] 23)).alloc (.cells #[.int .i64 (z + x), .int .i64 (7 + y)] 23) = W := ⟨_, rfl⟩
  have HA : Hid (Box W w1.heap.size (.int .i64 z) (.int .i64 7)) := by rw [← hW]; exact ((box_new w1 _ _ 23).alloc _).alloc _
  have HB : Hid (Box W (w1.heap.size + 1) (.int .i64 (z + l)) (.int .i64 7)) := by have := (box_new (w1.alloc (.cells #[.int .i64 z, .int .i64 7] 23)) (.int .i64 (z + l)) (.int .i64 7) 23).alloc (.cells #[.int .i64 (z + x), .int .i64 (7 + y)] 23); rw [hW, size_alloc] at this; exact this
  have HP : Hid (Box W (w1.heap.size + 1 + 1) (.int .i64 (z + x)) (.int .i64 (7 + y))) := by have := box_new ((w1.alloc (.cells #[.int .i64 z, .int .i64 7] 23)).alloc (.cells #[.int .i64 (z + l), .int .i64 7] 23)) (.int .i64 (z + x)) (.int .i64 (7 + y)) 23; rw [hW, size_alloc, size_alloc] at this; exact this
  have BW : Hid (Below w.heap.size w W) := by rw [← hW]; exact ((B1.out.alloc B1.out.size _).alloc (by simp; have := B1.out.size; omega) _).alloc (by simp; have := B1.out.size; omega) _
  rw [hW]
  have HEW : Hid (_ = W) := hW
  clear hW
  go_upto_if 46 with fail
  go_cut [46] from 47 (fun s x' => s = .bool dn ∧ Two x' w1.heap.size (.int .i64 a0) (.int .i64 a1) ∧ Two x' (w1.heap.size + 1) (.int .i64 b0) (.int .i64 b1') ∧ Two x' (w1.heap.size + 1 + 1) (.int .i64 p0) (.int .i64 p1) ∧ Below w.heap.size w x')
  case first =>
    rcases HD.out with ⟨rfl, rfl, rfl, rfl, rfl, rfl, rfl⟩ | ⟨rfl, rfl, rfl, rfl, rfl, rfl, rfl⟩
    · go_wp2_with fail
      go_meet
      case rel => exact ⟨rfl, HA.out.1, HB.out.1, HP.out.1, BW.out⟩
    · go_wp2_with fail
      rw [← HEW.out]
      go_region_with (first
        | (go_at_call 22; with_reducible refine (s1.out _).mono ?_; rintro e w5 ⟨rfl, rfl⟩)
        | (go_at_call 22; with_reducible refine (s2.out _).mono ?_; rintro e w5 ⟨rfl, rfl⟩)
        | (go_at_call 22; with_reducible refine (s3.out _).mono ?_; rintro e w5 ⟨rfl, rfl⟩))
      all_goals
        go_wp2_with fail
        go_meet
        exact ⟨rfl, turned9 B1.out rfl⟩
  case rest =>
    obtain ⟨rfl, ta, tb, tp, hbc⟩ := hcut
    have Hc : Hid (Below w.heap.size w wc) := hbc
    obtain ⟨_, ca0, ca1⟩ := ta
    obtain ⟨_, cb0, cb1⟩ := tb
    obtain ⟨_, cp0, cp1⟩ := tp
    clear hbc HA HB HP BW HEW HD B1 s1 s2 s3
    rcases HO.out with ⟨h0, ho⟩ | ⟨h0, h1, ho⟩ | ⟨h0, ho⟩
    · have e1 : -x = o := ho.symm
      have e2 : o * o = O := HOO.out
      have g : ¬ l < x := by omega
      clear ho HO HOO
      go_wp2_with (go_at_call 16; refine (kn.out wc).mono ?_; rintro e w2 ⟨rfl, hb2⟩)
      go_ret
      exact ⟨by simp, chain Hc.out hb2⟩
    · have e2 : O = 0 := by rw [← HOO.out, ho]; rfl
      rw [e2, Int.zero_add] at kn
      have g : ¬ l < x := by omega
      have g2 : ¬ x < 0 := by omega
      clear ho HO HOO e2
      go_wp2_with (go_at_call 16; refine (kn.out wc).mono ?_; rintro e w2 ⟨rfl, hb2⟩)
      go_ret
      exact ⟨by simp, chain Hc.out hb2⟩
    · have e1 : x - l = o := ho.symm
      have e2 : o * o = O := HOO.out
      have g2 : ¬ x < 0 := by omega
      clear ho HO HOO
      go_wp2_with (go_at_call 16; refine (kn.out wc).mono ?_; rintro e w2 ⟨rfl, hb2⟩)
      go_ret
      exact ⟨by simp, chain Hc.out hb2⟩

end Go.Proofs.Ytfcpflicfnmkiaa

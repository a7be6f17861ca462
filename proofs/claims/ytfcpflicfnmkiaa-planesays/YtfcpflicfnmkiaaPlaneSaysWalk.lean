/-
  PlaneSays, walked over the program.
-/
import Derived.Test.YtfcpflicfnmkiaaPlaneGrow
namespace Go.Proofs.Ytfcpflicfnmkiaa
open Go.RowKit

set_option maxRecDepth 100000 in
set_option maxHeartbeats 4000000 in
theorem says_walk (ax ay bx bY px py c k : Int) (w : World) (n : Int) (hn : c < 0 ∧ -9223372036854775808 ≤ c ∧ -(c + 1) = n ∨ 0 ≤ c ∧ c = n) (hk : n.tmod 268435457 = k) (k0 : 0 ≤ k) (k1 : k ≤ 268435456) :
    Calls Try.prog 3 #[.agg #[.int .i64 ax, .int .i64 ay], .agg #[.int .i64 bx, .int .i64 bY], .agg #[.int .i64 px, .int .i64 py], .int .i64 c] w fun e w' => e = .returned (.bool true) ∧ Below w.heap.size w w' := by
  have qa : Hid (∀ w, Calls Try.prog 9 #[.agg #[.int .i64 ax, .int .i64 ay]] w fun e w' => e = .returned (.agg #[.int .i64 (ax.tmod 134217729), .int .i64 (ay.tmod 134217729)]) ∧ Below w.heap.size w w') := fun w => cut_any ax ay w
  have qb : Hid (∀ w, Calls Try.prog 9 #[.agg #[.int .i64 bx, .int .i64 bY]] w fun e w' => e = .returned (.agg #[.int .i64 (bx.tmod 134217729), .int .i64 (bY.tmod 134217729)]) ∧ Below w.heap.size w w') := fun w => cut_any bx bY w
  have qp : Hid (∀ w, Calls Try.prog 9 #[.agg #[.int .i64 px, .int .i64 py]] w fun e w' => e = .returned (.agg #[.int .i64 (px.tmod 134217729), .int .i64 (py.tmod 134217729)]) ∧ Below w.heap.size w w') := fun w => cut_any px py w
  have i1 : Hid (PL.In _) := in_tmod ax
  have i2 : Hid (PL.In _) := in_tmod ay
  have i3 : Hid (PL.In _) := in_tmod bx
  have i4 : Hid (PL.In _) := in_tmod bY
  have i5 : Hid (PL.In _) := in_tmod px
  have i6 : Hid (PL.In _) := in_tmod py
  generalize ax.tmod 134217729 = Ax at qa i1
  generalize ay.tmod 134217729 = Ay at qa i2
  generalize bx.tmod 134217729 = Bx at qb i3
  generalize bY.tmod 134217729 = By at qb i4
  generalize px.tmod 134217729 = Px at qp i5
  generalize py.tmod 134217729 = Py at qp i6
  have kx : Hid (∀ w, Calls Try.prog 10 #[.agg #[.int .i64 Ax, .int .i64 Ay], .agg #[.int .i64 Bx, .int .i64 By], .agg #[.int .i64 Px, .int .i64 Py]] w fun e w' => e = .returned (.int .i64 (PL.cross Ax Ay Bx By Px Py)) ∧ Below w.heap.size w w') := fun w => cross_any Ax Ay Bx By Px Py w (i1.out) (i2.out) (i3.out) (i4.out) (i5.out) (i6.out)
  have rx : Hid (∀ w, Calls Try.prog 11 #[.agg #[.int .i64 Ax, .int .i64 Ay], .agg #[.int .i64 Bx, .int .i64 By], .agg #[.int .i64 Px, .int .i64 Py]] w fun e w' => e = .returned (.int .i64 (PL.cross Ax Ay Bx By Px Py)) ∧ Below w.heap.size w w') := fun w => rcross_any Ax Ay Bx By Px Py w (i1.out) (i2.out) (i3.out) (i4.out) (i5.out) (i6.out)
  have kd : Hid (∀ w, Calls Try.prog 12 #[.agg #[.int .i64 Ax, .int .i64 Ay], .agg #[.int .i64 Bx, .int .i64 By], .agg #[.int .i64 Px, .int .i64 Py]] w fun e w' => e = .returned (.int .i64 (PL.dot Ax Ay Bx By Px Py)) ∧ Below w.heap.size w w') := fun w => dot_any Ax Ay Bx By Px Py w (i1.out) (i2.out) (i3.out) (i4.out) (i5.out) (i6.out)
  have rd : Hid (∀ w, Calls Try.prog 13 #[.agg #[.int .i64 Ax, .int .i64 Ay], .agg #[.int .i64 Bx, .int .i64 By], .agg #[.int .i64 Px, .int .i64 Py]] w fun e w' => e = .returned (.int .i64 (PL.dot Ax Ay Bx By Px Py)) ∧ Below w.heap.size w w') := fun w => rdot_any Ax Ay Bx By Px Py w (i1.out) (i2.out) (i3.out) (i4.out) (i5.out) (i6.out)
  have kl : Hid (∀ w, Calls Try.prog 14 #[.agg #[.int .i64 Ax, .int .i64 Ay], .agg #[.int .i64 Bx, .int .i64 By]] w fun e w' => e = .returned (.int .i64 (PL.len2 Ax Ay Bx By)) ∧ Below w.heap.size w w') := fun w => len2_any Ax Ay Bx By w (i1.out) (i2.out) (i3.out) (i4.out)
  have rl : Hid (∀ w, Calls Try.prog 15 #[.agg #[.int .i64 Ax, .int .i64 Ay], .agg #[.int .i64 Bx, .int .i64 By]] w fun e w' => e = .returned (.int .i64 (PL.len2 Ax Ay Bx By)) ∧ Below w.heap.size w w') := fun w => rlen2_any Ax Ay Bx By w (i1.out) (i2.out) (i3.out) (i4.out)
  have kn : Hid (∀ w, Calls Try.prog 16 #[.agg #[.int .i64 Ax, .int .i64 Ay], .agg #[.int .i64 Bx, .int .i64 By], .agg #[.int .i64 Px, .int .i64 Py], .int .i64 k] w fun e w' => e = .returned (.bool (PL.near Ax Ay Bx By Px Py k)) ∧ Below w.heap.size w w') := fun w => near_any Ax Ay Bx By Px Py k w (i1.out) (i2.out) (i3.out) (i4.out) (i5.out) (i6.out) k0 k1
  have rn : Hid (∀ w, Calls Try.prog 17 #[.agg #[.int .i64 Ax, .int .i64 Ay], .agg #[.int .i64 Bx, .int .i64 By], .agg #[.int .i64 Px, .int .i64 Py], .int .i64 k] w fun e w' => e = .returned (.bool (PL.near Ax Ay Bx By Px Py k)) ∧ Below w.heap.size w w') := fun w => rnear_any Ax Ay Bx By Px Py k w (i1.out) (i2.out) (i3.out) (i4.out) (i5.out) (i6.out) k0 k1
  have j1 := i1.out
  have j2 := i2.out
  have j3 := i3.out
  have j4 := i4.out
  unfold PL.In at j1 j2 j3 j4
  have ka : Hid (∀ w, Calls Try.prog 19 #[.agg #[.int .i64 Ax, .int .i64 Ay], .agg #[.int .i64 Bx, .int .i64 By]] w fun e w' => e = .returned (.agg #[.int .i64 (Ax + Bx), .int .i64 (Ay + By)]) ∧ Below w.heap.size w w') := fun w => add_any Ax Ay Bx By w (by omega) (by omega)
  have ks : Hid (∀ w, Calls Try.prog 20 #[.agg #[.int .i64 Ax, .int .i64 Ay], .agg #[.int .i64 Bx, .int .i64 By]] w fun e w' => e = .returned (.agg #[.int .i64 (Ax - Bx), .int .i64 (Ay - By)]) ∧ Below w.heap.size w w') := fun w => sub_below Ax Ay Bx By w (by omega) (by omega)
  generalize PL.cross Ax Ay Bx By Px Py = X at kx rx
  generalize PL.dot Ax Ay Bx By Px Py = D at kd rd
  generalize PL.len2 Ax Ay Bx By = L at kl rl
  generalize PL.near Ax Ay Bx By Px Py k = R at kn rn
  have s1 : Hid (∀ w, Calls Try.prog 18 #[.agg #[.int .i64 (Ax + Bx), .int .i64 (Ay + By)], .agg #[.int .i64 (Ax + Bx), .int .i64 (Ay + By)]] w fun e w' => e = .returned (.bool true) ∧ Below w.heap.size w w') := fun w => samept_any _ _ w
  have s2 : Hid (∀ w, Calls Try.prog 18 #[.agg #[.int .i64 (Ax - Bx), .int .i64 (Ay - By)], .agg #[.int .i64 (Ax - Bx), .int .i64 (Ay - By)]] w fun e w' => e = .returned (.bool true) ∧ Below w.heap.size w w') := fun w => samept_any _ _ w
  clear i1 i2 i3 i4 i5 i6
  obtain ⟨W0, hW0⟩ : ∃ W, ((w.alloc (.cells #[.int .i64 ax, .int .i64 ay] 23)).alloc (.cells #[.int .i64 bx, .int .i64 bY] 23)).alloc (.cells #[.int .i64 px, .int .i64 py] 23) = W := ⟨_, rfl⟩
  have HA : Hid (Box W0 w.heap.size (.int .i64 ax) (.int .i64 ay)) := by rw [← hW0]; exact ((box_new w _ _ 23).alloc _).alloc _
  have HB : Hid (Box W0 (w.heap.size + 1) (.int .i64 bx) (.int .i64 bY)) := by have := (box_new (w.alloc (.cells #[.int .i64 ax, .int .i64 ay] 23)) (.int .i64 bx) (.int .i64 bY) 23).alloc (.cells #[.int .i64 px, .int .i64 py] 23); rw [hW0, size_alloc] at this; exact this
  have HP : Hid (Box W0 (w.heap.size + 1 + 1) (.int .i64 px) (.int .i64 py)) := by have := box_new ((w.alloc (.cells #[.int .i64 ax, .int .i64 ay] 23)).alloc (.cells #[.int .i64 bx, .int .i64 bY] 23)) (.int .i64 px) (.int .i64 py) 23; rw [hW0, size_alloc, size_alloc] at this; exact this
  have BW : Hid (Below w.heap.size w W0) := by rw [← hW0]; exact (((Below.refl _ _).alloc (by omega) _).alloc (by simp) _).alloc (by simp; omega) _
  have HE : Hid (_ = W0) := hW0
  clear hW0
  go_enter Try.func3, Try.ntmps3
  go_upto_region 7 with (first
    | (go_at_call 9; refine (qp.out (set2 w3 (w.heap.size + 1) (.int .i64 Bx) (.int .i64 By))).mono ?_; rintro e w4 ⟨rfl, hb4⟩
       have B4 : Hid (Below w.heap.size w w4) := chain (below_set2 B3.out (by omega) _ _) hb4
       have HA4 : Hid (Box w4 w.heap.size (.int .i64 Ax) (.int .i64 Ay)) := (HA3.out.far (by omega) _ _).below hb4
       have HB4 : Hid (Box w4 (w.heap.size + 1) (.int .i64 Bx) (.int .i64 By)) := (HB3.out.set _ _).below hb4
       have HP4 : Hid (Box w4 (w.heap.size + 1 + 1) (.int .i64 px) (.int .i64 py)) := (HP3.out.far (by omega) _ _).below hb4
       clear hb4
       obtain ⟨⟨_, a0, a1⟩, f0, f1⟩ := HP4.out)
    | (go_at_call 9; refine (qb.out (set2 w2 w.heap.size (.int .i64 Ax) (.int .i64 Ay))).mono ?_; rintro e w3 ⟨rfl, hb3⟩
       have B3 : Hid (Below w.heap.size w w3) := chain (below_set2 B2.out (by omega) _ _) hb3
       have HA3 : Hid (Box w3 w.heap.size (.int .i64 Ax) (.int .i64 Ay)) := (HA2.out.set _ _).below hb3
       have HB3 : Hid (Box w3 (w.heap.size + 1) (.int .i64 bx) (.int .i64 bY)) := (HB2.out.far (by omega) _ _).below hb3
       have HP3 : Hid (Box w3 (w.heap.size + 1 + 1) (.int .i64 px) (.int .i64 py)) := (HP2.out.far (by omega) _ _).below hb3
       clear hb3
       obtain ⟨⟨_, a0, a1⟩, f0, f1⟩ := HB3.out
       obtain ⟨⟨_, c0, c1⟩, g0, g1⟩ := HP3.out)
    | (go_at_call 9; refine (qa.out w1).mono ?_; rintro e w2 ⟨rfl, hb2⟩
       have B2 : Hid (Below w.heap.size w w2) := chain B1.out hb2
       have HA2 : Hid (Box w2 w.heap.size (.int .i64 ax) (.int .i64 ay)) := HA1.out.below hb2
       have HB2 : Hid (Box w2 (w.heap.size + 1) (.int .i64 bx) (.int .i64 bY)) := HB1.out.below hb2
       have HP2 : Hid (Box w2 (w.heap.size + 1 + 1) (.int .i64 px) (.int .i64 py)) := HP1.out.below hb2
       clear hb2
       obtain ⟨⟨_, a0, a1⟩, f0, f1⟩ := HA2.out
       obtain ⟨⟨_, b0, b1⟩, g0, g1⟩ := HB2.out)
    | (go_at_call 8; rw [HE.out]; refine (first_any W0).mono ?_; rintro e w1 ⟨rfl, hb1⟩
       have B1 : Hid (Below w.heap.size w w1) := chain BW.out hb1
       have HA1 : Hid (Box w1 w.heap.size (.int .i64 ax) (.int .i64 ay)) := HA.out.below hb1
       have HB1 : Hid (Box w1 (w.heap.size + 1) (.int .i64 bx) (.int .i64 bY)) := HB.out.below hb1
       have HP1 : Hid (Box w1 (w.heap.size + 1 + 1) (.int .i64 px) (.int .i64 py)) := HP.out.below hb1
       clear hb1
       obtain ⟨⟨_, a0, a1⟩, f0, f1⟩ := HA1.out))
  clear B1 B2 B3 HA1 HB1 HP1 HA2 HB2 HP2 HA3 HB3 HP3 qa qb qp HA HB HP HE BW
  obtain ⟨W4, hW4⟩ : ∃ W, set2 w4 (w.heap.size + 1 + 1) (.int .i64 Px) (.int .i64 Py) = W := ⟨_, rfl⟩
  have HA : Hid (Box W4 w.heap.size (.int .i64 Ax) (.int .i64 Ay)) := by rw [← hW4]; exact HA4.out.far (by omega) _ _
  have HB : Hid (Box W4 (w.heap.size + 1) (.int .i64 Bx) (.int .i64 By)) := by rw [← hW4]; exact HB4.out.far (by omega) _ _
  have HP : Hid (Box W4 (w.heap.size + 1 + 1) (.int .i64 Px) (.int .i64 Py)) := by rw [← hW4]; exact HP4.out.set _ _
  have BW : Hid (Below w.heap.size w W4) := by rw [← hW4]; exact below_set2 B4.out (by omega) _ _
  unfold set2 at hW4
  rw [hW4]
  clear hW4 HA4 HB4 HP4 B4 a0 a1 f0 f1
  have HN : Hid (_ ∨ _) := hn
  clear hn
  go_upto_if 20 with fail
  go_cut [3] from 21 (fun s x => s = .int .i64 n ∧ W4 = x)
  case first =>
    rcases HN.out with ⟨n0, n1, hn⟩ | ⟨n0, rfl⟩
    · go_wp2_with fail
      go_meet
      case rel => exact ⟨rfl, rfl⟩
    · go_wp2_with fail
      go_meet
      case rel => exact ⟨rfl, rfl⟩
  case rest =>
    obtain ⟨rfl, rfl⟩ := hcut
    clear HN
    go_wp2
    dsimp only [List.append]
    obtain ⟨ca0, ca1⟩ := Grown.two HA.out.1
    obtain ⟨cb0, cb1⟩ := Grown.two HB.out.1
    obtain ⟨cp0, cp1⟩ := Grown.two HP.out.1
    have hne := Grown.some W4
    refine wp_region_grow (by kernel_rfl) (by kernel_rfl) ?_
    repeat (go_big_quiet_step (first
      | (go_at_call 10; exact grow_of (kx.out _))
      | (go_at_call 11; exact grow_of (rx.out _))
      | (go_at_call 12; exact grow_of (kd.out _))
      | (go_at_call 13; exact grow_of (rd.out _))
      | (go_at_call 14; exact grow_of (kl.out _))
      | (go_at_call 15; exact grow_of (rl.out _))
      | (go_at_call 16; exact grow_of (kn.out _))
      | (go_at_call 17; exact grow_of (rn.out _))
      | (go_at_call 19; exact grow_of (ka.out _))
      | (go_at_call 20; exact grow_of (ks.out _))
      | (go_at_call_has 18 (Ax + Bx); exact grow_of (s1.out _))
      | (go_at_call_has 18 (Ax - Bx); exact grow_of (s2.out _))))
    refine wpQuiet_nil ?_
    rintro _ ⟨g, rfl⟩
    go_wp2
    go_ret
    exact ⟨by simp, chain BW.out g.below⟩

end Go.Proofs.Ytfcpflicfnmkiaa

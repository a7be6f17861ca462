/-
  PlaneSays, walked over the program.
-/
import Derived.Test.YtfcpflicfnmkiaaPlaneBox
namespace Go.Proofs.Ytfcpflicfnmkiaa
open Go.RowKit

set_option maxRecDepth 100000 in
set_option maxHeartbeats 4000000 in
theorem says_walk (ax ay bx bY px py c k : Int) (w : World) (n : Int) (hn : c < 0 ∧ -9223372036854775808 ≤ c ∧ -(c + 1) = n ∨ 0 ≤ c ∧ c = n) (hk : n.tmod 268435457 = k) (k0 : 0 ≤ k) (k1 : k ≤ 268435456) :
    Calls Try.prog 3 #[.agg #[.int .i64 ax, .int .i64 ay], .agg #[.int .i64 bx, .int .i64 bY], .agg #[.int .i64 px, .int .i64 py], .int .i64 c] w fun e w' => e = .returned (.bool true) ∧ Below w.heap.size w w' := by
  have qa : Hid (∀ w, Calls Try.prog 9 #[.agg #[.int .i64 ax, .int .i64 ay]] w fun e w' => e = .returned (.agg #[.int .i64 (ax.tmod 134217729), .int .i64 (ay.tmod 134217729)]) ∧ Below w.heap.size w w') := fun w => cut_any ax ay w
  have qb : Hid (∀ w, Calls Try.prog 9 #[.agg #[.int .i64 bx, .int .i64 bY]] w fun e w' => e = .returned (.agg #[.int .i64 (bx.tmod 134217729), .int .i64 (bY.tmod 134217729)]) ∧ Below w.heap.size w w') := fun w => cut_any bx bY w
  have qp : Hid (∀ w, Calls Try.prog 9 #[.agg #[.int .i64 px, .int .i64 py]] w fun e w' => e = .returned (.agg #[.int .i64 (px.tmod 134217729), .int .i64 (py.tmod 134217729)]) ∧ Below w.heap.size w w') := fun w => cut_any px py w
  have i1 : Hid (PL.In _) := in_tmod ax
  have i2 : Hid (PL.In _) := in_tmod ay
  have i3 : Hid (PL.In _) := in_tmod bx
  have i4 : Hid (PL.In _) := in_tmod bY
  have i5 : Hid (PL.In _) := in_tmod px
  have i6 : Hid (PL.In _) := in_tmod py
  generalize ax.tmod 134217729 = Ax at qa i1
  generalize ay.tmod 134217729 = Ay at qa i2
  generalize bx.tmod 134217729 = Bx at qb i3
  generalize bY.tmod 134217729 = By at qb i4
  generalize px.tmod 134217729 = Px at qp i5
  generalize py.tmod 134217729 = Py at qp i6
  have kx : Hid (∀ w, Calls Try.prog 10 #[.agg #[.int .i64 Ax, .int .i64 Ay], .agg #[.int .i64 Bx, .int .i64 By], .agg #[.int .i64 Px, .int .i64 Py]] w fun e w' => e = .returned (.int .i64 (PL.cross Ax Ay Bx By Px Py)) ∧ Below w.heap.size w w') := fun w => cross_any Ax Ay Bx By Px Py w (i1.out) (i2.out) (i3.out) (i4.out) (i5.out) (i6.out)
  have rx : Hid (∀ w, Calls Try.prog 11 #[.agg #[.int .i64 Ax, .int .i64 Ay], .agg #[.int .i64 Bx, .int .i64 By], .agg #[.int .i64 Px, .int .i64 Py]] w fun e w' => e = .returned (.int .i64 (PL.cross Ax Ay Bx By Px Py)) ∧ Below w.heap.size w w') := fun w => rcross_any Ax Ay Bx By Px Py w (i1.out) (i2.out) (i3.out) (i4.out) (i5.out) (i6.out)
  have kd : Hid (∀ w, Calls Try.prog 12 #[.agg #[.int .i64 Ax, .int .i64 Ay], .agg #[.int .i64 Bx, .int .i64 By], .agg #[.int .i64 Px, .int .i64 Py]] w fun e w' => e = .returned (.int .i64 (PL.dot Ax Ay Bx By Px Py)) ∧ Below w.heap.size w w') := fun w => dot_any Ax Ay Bx By Px Py w (i1.out) (i2.out) (i3.out) (i4.out) (i5.out) (i6.out)
  have rd : Hid (∀ w, Calls Try.prog 13 #[.agg #[.int .i64 Ax, .int .i64 Ay], .agg #[.int .i64 Bx, .int .i64 By], .agg #[.int .i64 Px, .int .i64 Py]] w fun e w' => e = .returned (.int .i64 (PL.dot Ax Ay Bx By Px Py)) ∧ Below w.heap.size w w') := fun w => rdot_any Ax Ay Bx By Px Py w (i1.out) (i2.out) (i3.out) (i4.out) (i5.out) (i6.out)
  have kl : Hid (∀ w, Calls Try.prog 14 #[.agg #[.int .i64 Ax, .int .i64 Ay], .agg #[.int .i64 Bx, .int .i64 By]] w fun e w' => e = .returned (.int .i64 (PL.len2 Ax Ay Bx By)) ∧ Below w.heap.size w w') := fun w => len2_any Ax Ay Bx By w (i1.out) (i2.out) (i3.out) (i4.out)
  have rl : Hid (∀ w, Calls Try.prog 15 #[.agg #[.int .i64 Ax, .int .i64 Ay], .agg #[.int .i64 Bx, .int .i64 By]] w fun e w' => e = .returned (.int .i64 (PL.len2 Ax Ay Bx By)) ∧ Below w.heap.size w w') := fun w => rlen2_any Ax Ay Bx By w (i1.out) (i2.out) (i3.out) (i4.out)
  have kn : Hid (∀ w, Calls Try.prog 16 #[.agg #[.int .i64 Ax, .int .i64 Ay], .agg #[.int .i64 Bx, .int .i64 By], .agg #[.int .i64 Px, .int .i64 Py], .int .i64 k] w fun e w' => e = .returned (.bool (PL.near Ax Ay Bx By Px Py k)) ∧ Below w.heap.size w w') := fun w => near_any Ax Ay Bx By Px Py k w (i1.out) (i2.out) (i3.out) (i4.out) (i5.out) (i6.out) k0 k1
  have rn : Hid (∀ w, Calls Try.prog 17 #[.agg #[.int .i64 Ax, .int .i64 Ay], .agg #[.int .i64 Bx, .int .i64 By], .agg #[.int .i64 Px, .int .i64 Py], .int .i64 k] w fun e w' => e = .returned (.bool (PL.near Ax Ay Bx By Px Py k)) ∧ Below w.heap.size w w') := fun w => rnear_any Ax Ay Bx By Px Py k w (i1.out) (i2.out) (i3.out) (i4.out) (i5.out) (i6.out) k0 k1
  have j1 := i1.out
  have j2 := i2.out
  have j3 := i3.out
  have j4 := i4.out
  unfold PL.In at j1 j2 j3 j4
  have ka : Hid (∀ w, Calls Try.prog 19 #[.agg #[.int .i64 Ax, .int .i64 Ay], .agg #[.int .i64 Bx, .int .i64 By]] w fun e w' => e = .returned (.agg #[.int .i64 (Ax + Bx), .int .i64 (Ay + By)]) ∧ Below w.heap.size w w') := fun w => add_any Ax Ay Bx By w (by omega) (by omega)
  have ks : Hid (∀ w, Calls Try.prog 20 #[.agg #[.int .i64 Ax, .int .i64 Ay], .agg #[.int .i64 Bx, .int .i64 By]] w fun e w' => e = .returned (.agg #[.int .i64 (Ax - Bx), .int .i64 (Ay - By)]) ∧ Below w.heap.size w w') := fun w => sub_below Ax Ay Bx By w (by omega) (by omega)
  generalize PL.cross Ax Ay Bx By Px Py = X at kx rx
  generalize PL.dot Ax Ay Bx By Px Py = D at kd rd
  generalize PL.len2 Ax Ay Bx By = L at kl rl
  generalize PL.near Ax Ay Bx By Px Py k = R at kn rn
  have e1 : Hid (IntKind.i64.wrap (Ax + Bx) = Ax + Bx) := by show _ = _; rw [IntKind.wrap_i64]; omega
  have e2 : Hid (IntKind.i64.wrap (Ay + By) = Ay + By) := by show _ = _; rw [IntKind.wrap_i64]; omega
  have e3 : Hid (IntKind.i64.wrap (Ax - Bx) = Ax - Bx) := by show _ = _; rw [IntKind.wrap_i64]; omega
  have e4 : Hid (IntKind.i64.wrap (Ay - By) = Ay - By) := by show _ = _; rw [IntKind.wrap_i64]; omega
  clear i1 i2 i3 i4 i5 i6 j1 j2 j3 j4
  obtain ⟨W0, hW0⟩ : ∃ W, ((w.alloc (.cells #[.int .i64 ax, .int .i64 ay] 23)).alloc (.cells #[.int .i64 bx, .int .i64 bY] 23)).alloc (.cells #[.int .i64 px, .int .i64 py] 23) = W := ⟨_, rfl⟩
  have HA : Hid (Box W0 w.heap.size (.int .i64 ax) (.int .i64 ay)) := by rw [← hW0]; exact ((box_new w _ _ 23).alloc _).alloc _
  have HB : Hid (Box W0 (w.heap.size + 1) (.int .i64 bx) (.int .i64 bY)) := by have := (box_new (w.alloc (.cells #[.int .i64 ax, .int .i64 ay] 23)) (.int .i64 bx) (.int .i64 bY) 23).alloc (.cells #[.int .i64 px, .int .i64 py] 23); rw [hW0, size_alloc] at this; exact this
  have HP : Hid (Box W0 (w.heap.size + 1 + 1) (.int .i64 px) (.int .i64 py)) := by have := box_new ((w.alloc (.cells #[.int .i64 ax, .int .i64 ay] 23)).alloc (.cells #[.int .i64 bx, .int .i64 bY] 23)) (.int .i64 px) (.int .i64 py) 23; rw [hW0, size_alloc, size_alloc] at this; exact this
  have BW : Hid (Below w.heap.size w W0) := by rw [← hW0]; exact (((Below.refl _ _).alloc (by omega) _).alloc (by simp) _).alloc (by simp; omega) _
  have HE : Hid (_ = W0) := hW0
  clear hW0
  go_enter Try.func3, Try.ntmps3
  go_upto_region 7 with (first
    | (go_at_call 9; refine (qp.out (set2 w3 (w.heap.size + 1) (.int .i64 Bx) (.int .i64 By))).mono ?_; rintro e w4 ⟨rfl, hb4⟩
       have B4 : Hid (Below w.heap.size w w4) := chain (below_set2 B3.out (by omega) _ _) hb4
       have HA4 : Hid (Box w4 w.heap.size (.int .i64 Ax) (.int .i64 Ay)) := (HA3.out.far (by omega) _ _).below hb4
       have HB4 : Hid (Box w4 (w.heap.size + 1) (.int .i64 Bx) (.int .i64 By)) := (HB3.out.set _ _).below hb4
       have HP4 : Hid (Box w4 (w.heap.size + 1 + 1) (.int .i64 px) (.int .i64 py)) := (HP3.out.far (by omega) _ _).below hb4
       clear hb4
       obtain ⟨⟨_, a0, a1⟩, f0, f1⟩ := HP4.out)
    | (go_at_call 9; refine (qb.out (set2 w2 w.heap.size (.int .i64 Ax) (.int .i64 Ay))).mono ?_; rintro e w3 ⟨rfl, hb3⟩
       have B3 : Hid (Below w.heap.size w w3) := chain (below_set2 B2.out (by omega) _ _) hb3
       have HA3 : Hid (Box w3 w.heap.size (.int .i64 Ax) (.int .i64 Ay)) := (HA2.out.set _ _).below hb3
       have HB3 : Hid (Box w3 (w.heap.size + 1) (.int .i64 bx) (.int .i64 bY)) := (HB2.out.far (by omega) _ _).below hb3
       have HP3 : Hid (Box w3 (w.heap.size + 1 + 1) (.int .i64 px) (.int .i64 py)) := (HP2.out.far (by omega) _ _).below hb3
       clear hb3
       obtain ⟨⟨_, a0, a1⟩, f0, f1⟩ := HB3.out
       obtain ⟨⟨_, c0, c1⟩, g0, g1⟩ := HP3.out)
    | (go_at_call 9; refine (qa.out w1).mono ?_; rintro e w2 ⟨rfl, hb2⟩
       have B2 : Hid (Below w.heap.size w w2) := chain B1.out hb2
       have HA2 : Hid (Box w2 w.heap.size (.int .i64 ax) (.int .i64 ay)) := HA1.out.below hb2
       have HB2 : Hid (Box w2 (w.heap.size + 1) (.int .i64 bx) (.int .i64 bY)) := HB1.out.below hb2
       have HP2 : Hid (Box w2 (w.heap.size + 1 + 1) (.int .i64 px) (.int .i64 py)) := HP1.out.below hb2
       clear hb2
       obtain ⟨⟨_, a0, a1⟩, f0, f1⟩ := HA2.out
       obtain ⟨⟨_, b0, b1⟩, g0, g1⟩ := HB2.out)
    | (go_at_call 8; rw [HE.out]; refine (first_any W0).mono ?_; rintro e w1 ⟨rfl, hb1⟩
       have B1 : Hid (Below w.heap.size w w1) := chain BW.out hb1
       have HA1 : Hid (Box w1 w.heap.size (.int .i64 ax) (.int .i64 ay)) := HA.out.below hb1
       have HB1 : Hid (Box w1 (w.heap.size + 1) (.int .i64 bx) (.int .i64 bY)) := HB.out.below hb1
       have HP1 : Hid (Box w1 (w.heap.size + 1 + 1) (.int .i64 px) (.int .i64 py)) := HP.out.below hb1
       clear hb1
       obtain ⟨⟨_, a0, a1⟩, f0, f1⟩ := HA1.out))
  clear B1 B2 B3 HA1 HB1 HP1 HA2 HB2 HP2 HA3 HB3 HP3 qa qb qp HA HB HP HE BW
  obtain ⟨W4, hW4⟩ : ∃ W, set2 w4 (w.heap.size + 1 + 1) (.int .i64 Px) (.int .i64 Py) = W := ⟨_, rfl⟩
  have HA : Hid (Box W4 w.heap.size (.int .i64 Ax) (.int .i64 Ay)) := by rw [← hW4]; exact HA4.out.far (by omega) _ _
  have HB : Hid (Box W4 (w.heap.size + 1) (.int .i64 Bx) (.int .i64 By)) := by rw [← hW4]; exact HB4.out.far (by omega) _ _
  have HP : Hid (Box W4 (w.heap.size + 1 + 1) (.int .i64 Px) (.int .i64 Py)) := by rw [← hW4]; exact HP4.out.set _ _
  have BW : Hid (Below w.heap.size w W4) := by rw [← hW4]; exact below_set2 B4.out (by omega) _ _
  unfold set2 at hW4
  rw [hW4]
  clear hW4 HA4 HB4 HP4 B4 a0 a1 f0 f1
  have HN : Hid (_ ∨ _) := hn
  clear hn
  go_upto_if 20 with fail
  go_cut [3] from 21 (fun s x => s = .int .i64 n ∧ W4 = x)
  case first =>
    rcases HN.out with ⟨n0, n1, hn⟩ | ⟨n0, rfl⟩
    · go_wp2_with fail
      go_meet
      case rel => exact ⟨rfl, rfl⟩
    · go_wp2_with fail
      go_meet
      case rel => exact ⟨rfl, rfl⟩
  case rest =>
    obtain ⟨rfl, rfl⟩ := hcut
    clear HN
    go_wp2
    dsimp only [List.append]
    go_region_held3 (fun W => W.cell? ⟨w.heap.size, 0, none⟩ = some (.int .i64 Ax) ∧ W.cell? ⟨w.heap.size, 1, none⟩ = some (.int .i64 Ay) ∧ W.cell? ⟨w.heap.size + 1, 0, none⟩ = some (.int .i64 Bx) ∧ W.cell? ⟨w.heap.size + 1, 1, none⟩ = some (.int .i64 By) ∧ W.cell? ⟨w.heap.size + 1 + 1, 0, none⟩ = some (.int .i64 Px) ∧ W.cell? ⟨w.heap.size + 1 + 1, 1, none⟩ = some (.int .i64 Py))
      (first | exact cells_of3 ((HA.out.below B16.out).1) ((HB.out.below B16.out).1) ((HP.out.below B16.out).1) | exact cells_of3 ((HA.out.below B15.out).1) ((HB.out.below B15.out).1) ((HP.out.below B15.out).1) | exact cells_of3 ((HA.out.below B14.out).1) ((HB.out.below B14.out).1) ((HP.out.below B14.out).1) | exact cells_of3 ((HA.out.below B13.out).1) ((HB.out.below B13.out).1) ((HP.out.below B13.out).1) | exact cells_of3 ((HA.out.below B12.out).1) ((HB.out.below B12.out).1) ((HP.out.below B12.out).1) | exact cells_of3 ((HA.out.below B11.out).1) ((HB.out.below B11.out).1) ((HP.out.below B11.out).1) | exact cells_of3 ((HA.out.below B10.out).1) ((HB.out.below B10.out).1) ((HP.out.below B10.out).1) | exact cells_of3 ((HA.out.below B9.out).1) ((HB.out.below B9.out).1) ((HP.out.below B9.out).1) | exact cells_of3 ((HA.out.below B8.out).1) ((HB.out.below B8.out).1) ((HP.out.below B8.out).1) | exact cells_of3 ((HA.out.below B7.out).1) ((HB.out.below B7.out).1) ((HP.out.below B7.out).1) | exact cells_of3 ((HA.out.below B6.out).1) ((HB.out.below B6.out).1) ((HP.out.below B6.out).1) | exact cells_of3 ((HA.out.below B5.out).1) ((HB.out.below B5.out).1) ((HP.out.below B5.out).1) | exact cells_of3 (HA.out.1) (HB.out.1) (HP.out.1))
      (first
      | (go_at_call 18; refine (samept_eq (Ax - Bx) (Ay - By) _ _ w15 e3.out e4.out).mono ?_; rintro e w16 ⟨rfl, hb16⟩; have B16 : Hid (Below W4.heap.size W4 w16) := chain B15.out hb16; clear hb16)
      | (go_at_call 20; refine (ks.out w14).mono ?_; rintro e w15 ⟨rfl, hb15⟩; have B15 : Hid (Below W4.heap.size W4 w15) := chain B14.out hb15; clear hb15)
      | (go_at_call 18; refine (samept_eq (Ax + Bx) (Ay + By) _ _ w13 e1.out e2.out).mono ?_; rintro e w14 ⟨rfl, hb14⟩; have B14 : Hid (Below W4.heap.size W4 w14) := chain B13.out hb14; clear hb14)
      | (go_at_call 19; refine (ka.out w12).mono ?_; rintro e w13 ⟨rfl, hb13⟩; have B13 : Hid (Below W4.heap.size W4 w13) := chain B12.out hb13; clear hb13)
      | (go_at_call 17; refine (rn.out w11).mono ?_; rintro e w12 ⟨rfl, hb12⟩; have B12 : Hid (Below W4.heap.size W4 w12) := chain B11.out hb12; clear hb12)
      | (go_at_call 16; refine (kn.out w10).mono ?_; rintro e w11 ⟨rfl, hb11⟩; have B11 : Hid (Below W4.heap.size W4 w11) := chain B10.out hb11; clear hb11)
      | (go_at_call 15; refine (rl.out w9).mono ?_; rintro e w10 ⟨rfl, hb10⟩; have B10 : Hid (Below W4.heap.size W4 w10) := chain B9.out hb10; clear hb10)
      | (go_at_call 14; refine (kl.out w8).mono ?_; rintro e w9 ⟨rfl, hb9⟩; have B9 : Hid (Below W4.heap.size W4 w9) := chain B8.out hb9; clear hb9)
      | (go_at_call 13; refine (rd.out w7).mono ?_; rintro e w8 ⟨rfl, hb8⟩; have B8 : Hid (Below W4.heap.size W4 w8) := chain B7.out hb8; clear hb8)
      | (go_at_call 12; refine (kd.out w6).mono ?_; rintro e w7 ⟨rfl, hb7⟩; have B7 : Hid (Below W4.heap.size W4 w7) := chain B6.out hb7; clear hb7)
      | (go_at_call 11; refine (rx.out w5).mono ?_; rintro e w6 ⟨rfl, hb6⟩; have B6 : Hid (Below W4.heap.size W4 w6) := chain B5.out hb6; clear hb6)
      | (go_at_call 10; refine (kx.out W4.drew).mono ?_; rintro e w5 ⟨rfl, hb5⟩; have B5 : Hid (Below W4.heap.size W4 w5) := below_of_drew hb5; clear hb5))
    go_wp2
    go_ret
    exact ⟨by simp, chain BW.out B16.out⟩

end Go.Proofs.Ytfcpflicfnmkiaa

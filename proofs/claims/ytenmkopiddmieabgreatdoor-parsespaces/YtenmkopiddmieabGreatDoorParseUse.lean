/-
  A shape's use, walked over the program.
-/
import Derived.Test.YtenmkopiddmieabGreatDoorParsePath
namespace Go.Proofs.YtenmkopiddmieabGreatDoor
open Go.RowKit

theorem slice_at2 (b : Nat) (W : World) : (Instr.sliceAt 91 (.pointer (some ⟨b, 4, none⟩)) none none none).run Tryz.prog W = .ok (.slice (some ⟨b, 4, none⟩) 2 2) W := by
  kernel_rfl

set_option maxRecDepth 20000 in
set_option maxHeartbeats 8000000 in
theorem use_any {x : Cx} {q : Nat} {w0 W : World} {s : PP.St} (h : Hid (At x q w0 s W)) :
    Calls Tryz.prog 104 #[.pointer (some ⟨q, 0, none⟩)] W fun e w' => ∃ y : PP.Item × Value, e = .returned (.agg (itemL y).toArray) ∧ y.1 = (PP.use s).1 ∧ Hid (At x q w0 (PP.use s).2 w') ∧ ItemOk w' y := by
  have HW := At.alloc (At.new h) (.cells item0 93)
  have HM : Hid (Mk q w0 (W.alloc (.cells item0 93))) := (At.mk' h).alloc _
  have B0 : Hid (Blk (W.alloc (.cells item0 93)) W.heap.size 93 item0) := blk_new _ _ _
  have hq : q < W.heap.size := (At.rd h).lt
  have hs0 := At.size h
  have k1 := hid'' (next_any (At.new HW))
  have h1 : wagg s.nx = .agg #[.int .i64 (s.nx.1 : Nat), .int .i64 (s.nx.2.1 : Nat), .string ⟨s.nx.2.2.toArray⟩] := rfl
  rw [h1] at k1
  obtain ⟨f0, f1, f2⟩ := fld_w (s.nx.1 : Nat) (s.nx.2.1 : Nat) ⟨s.nx.2.2.toArray⟩
  obtain ⟨p, hp⟩ : ∃ p, s.nx.2.1 = p := ⟨_, rfl⟩
  obtain ⟨s1, hs1⟩ : ∃ s1, s.skip PP.k_use = s1 := ⟨_, rfl⟩
  obtain ⟨n, hn⟩ : ∃ n, PP.nameW s1 = n := ⟨_, rfl⟩
  obtain ⟨⟨nk, np, nm⟩, s2⟩ := n
  obtain ⟨s3, hs3⟩ : ∃ s3, s2.skip PP.k_at = s3 := ⟨_, rfl⟩
  obtain ⟨vx, hvx⟩ : ∃ v, PP.val s3 = v := ⟨_, rfl⟩
  obtain ⟨⟨xn, xi, xp⟩, sx⟩ := vx
  obtain ⟨vy, hvy⟩ : ∃ v, PP.val sx = v := ⟨_, rfl⟩
  obtain ⟨⟨yn, yi, yp⟩, s4⟩ := vy
  have HA : Hid (PP.use s = (⟨true, p, [], nm, ⟨xn, xi, xp⟩, ⟨yn, yi, yp⟩, (PP.useBy p s4).1, (PP.useTurn (PP.useBy p s4).2).1⟩, (PP.useTurn (PP.useBy p s4).2).2.skip PP.m_semi)) := by
    show _ = _
    unfold PP.use
    rw [hp, hs1, hn]
    simp only [hs3, hvx, hvy]
  rw [HA.out]
  have ks : Hid (∀ w0 W, Hid (At x q w0 s W) → Calls Tryz.prog 26 #[.pointer (some ⟨q, 0, none⟩), .string ⟨#[117, 115, 101]⟩] W fun e w' => e = .returned (.tuple #[]) ∧ Hid (At x q w0 s1 w')) := fun w0 W H => by
    have := skip_any PP.k_use H
    rw [hs1] at this
    exact this
  have kn : Hid (∀ w0 W, Hid (At x q w0 s1 W) → Calls Tryz.prog 76 #[.pointer (some ⟨q, 0, none⟩)] W fun e w' => e = .returned (.agg #[.int .i64 (nk : Nat), .int .i64 (np : Nat), .string ⟨nm.toArray⟩]) ∧ Hid (At x q w0 s2 w')) := fun w0 W H => by
    have := name_any H
    rw [hn] at this
    exact this
  have ka : Hid (∀ w0 W, Hid (At x q w0 s2 W) → Calls Tryz.prog 26 #[.pointer (some ⟨q, 0, none⟩), .string ⟨#[97, 116]⟩] W fun e w' => e = .returned (.tuple #[]) ∧ Hid (At x q w0 s3 w')) := fun w0 W H => by
    have := skip_any PP.k_at H
    rw [hs3] at this
    exact this
  have ke : Hid (∀ (z : PP.St) w0 W, Hid (At x q w0 z W) → Calls Tryz.prog 26 #[.pointer (some ⟨q, 0, none⟩), .string ⟨#[59]⟩] W fun e w' => e = .returned (.tuple #[]) ∧ Hid (At x q w0 (z.skip PP.m_semi) w')) := fun z w0 W H => skip_any PP.m_semi H
  have hvs : PP.vals 2 s3 = ([⟨xn, xi, xp⟩, ⟨yn, yi, yp⟩], s4) := by
    simp only [PP.vals, hvx, hvy]
  have kv : Hid (∀ (b : Nat) (W : World), Hid (At x q w0 s3 W) → q < b → w0.heap.size ≤ b → Blk W b 93 #[.bool true, .int .i64 (p : Nat), .slice none 0 0, .string ⟨nm.toArray⟩, .string ⟨#[]⟩, .int .i64 0, .int .i64 0, .string ⟨#[]⟩, .int .i64 0, .int .i64 0, .string ⟨#[]⟩, .int .i64 0, .int .i64 0, .int .i64 0] → Calls Tryz.prog 105 #[.pointer (some ⟨q, 0, none⟩), .slice (some ⟨b, 4, none⟩) 2 2] W fun e w' => e = .returned (.tuple #[]) ∧ Hid (At x q w0 s4 w') ∧ Hid (Blk w' b 93 #[.bool true, .int .i64 (p : Nat), .slice none 0 0, .string ⟨nm.toArray⟩, .string ⟨xn.toArray⟩, .int .i64 xi, .int .i64 (xp : Nat), .string ⟨yn.toArray⟩, .int .i64 yi, .int .i64 (yp : Nat), .string ⟨#[]⟩, .int .i64 0, .int .i64 0, .int .i64 0]) ∧ Hid (Fr q b W w')) := fun b W H hqb h0 hb => by
    have := vals_any (k := 2) (cap := 2) (o := 4) H hb (by decide) hqb h0 (by simp) (by omega) (Nat.le_refl _)
    rw [hvs] at this
    exact this
  have hsl := fun b W => slice_at2 b W
  obtain ⟨g0, g1, g2⟩ := fld_w (nk : Nat) (np : Nat) ⟨nm.toArray⟩
  rw [hp] at k1 f0 f1 f2
  clear h h1 HA hs1 hn hs3 hvx hvy hp HW hvs
  unfold item0 at k1
  go_enter Tryz.func104, Tryz.ntmps104
  go_upto_region 4 with (first
    | go_at_call 76
      refine (kn.out _ _ H3).mono ?_
      rintro e w4 ⟨rfl, H4⟩
      have B4 : Hid (Blk w4 w1.heap.size 93 #[.bool true, .int .i64 (p : Nat), .slice none 0 0, .string ⟨#[]⟩, .string ⟨#[]⟩, .int .i64 0, .int .i64 0, .string ⟨#[]⟩, .int .i64 0, .int .i64 0, .string ⟨#[]⟩, .int .i64 0, .int .i64 0, .int .i64 0]) := At.box H4 (blk_new _ _ _) (by have := (At.rd H1).lt; omega)
      have l4 := B4.out.lt
      obtain ⟨⟨-, -, -, x3, -⟩, y4⟩ := blk14 B4.out
      have y3 := y4 3
      clear y4
    | (go_at_call 26; refine (ks.out _ _ H2).mono ?_; rintro e w3 ⟨rfl, H3⟩)
    | go_at_call 49
      refine k1.out.mono ?_
      rintro e w1 ⟨rfl, H1, B1⟩
      have H2 := At.new (At.alloc H1 (.cells #[.bool true, .int .i64 (p : Nat), .slice none 0 0, .string ⟨#[]⟩, .string ⟨#[]⟩, .int .i64 0, .int .i64 0, .string ⟨#[]⟩, .int .i64 0, .int .i64 0, .string ⟨#[]⟩, .int .i64 0, .int .i64 0, .int .i64 0] 93)))
  obtain ⟨W5, hW5⟩ : ∃ W5, w4.setCell ⟨w1.heap.size, 3, none⟩ (.string ⟨nm.toArray⟩) = W5 := ⟨_, rfl⟩
  obtain ⟨bx, hbx⟩ : ∃ bx, w1.heap.size = bx := ⟨_, rfl⟩
  have hq1 : q < bx := by rw [← hbx]; exact (At.rd H1).lt
  have hrb : W.heap.size < bx := by rw [← hbx]; have := At.size H1; simp at this; omega
  have H5 : Hid (At x q w0 s2 W5) := by
    rw [← hW5]
    exact At.row (At.onto HM.out (At.onto ((At.mk' H1).alloc _) H4)) B4.out (by decide) (by omega) (by omega) 3 [.string ⟨nm.toArray⟩]
  have B5 : Hid (Blk W5 bx 93 #[.bool true, .int .i64 (p : Nat), .slice none 0 0, .string ⟨nm.toArray⟩, .string ⟨#[]⟩, .int .i64 0, .int .i64 0, .string ⟨#[]⟩, .int .i64 0, .int .i64 0, .string ⟨#[]⟩, .int .i64 0, .int .i64 0, .int .i64 0]) := by
    rw [← hW5, ← hbx]
    exact B4.out.set (j := 3) _
  have X5 : Hid (Blk W5 W.heap.size 93 item0) := by
    rw [← hW5]
    exact Blk.far (At.box H4 (Blk.alloc (At.box H1 B0.out (by omega)) _) (by omega)) (p := ⟨w1.heap.size, 3, none⟩) (by show W.heap.size ≠ w1.heap.size; omega) _
  rw [hW5, hbx]
  clear hW5 B4 x3 y3 l4 hbx H4 H3 H2 H1 k1 ks kn
  go_upto_region 7 with (first
    | go_at_call 105
      refine (kv.out bx _ (At.onto (At.mk' H5) H6) hq1 (by omega) (At.box H6 B5.out (by omega))).mono ?_
      rintro e w7 ⟨rfl, H7, B7, F7⟩
      have X7 : Hid (Blk w7 W.heap.size 93 item0) := F7.out _ _ _ (by omega) (by omega) (At.box H6 X5.out (by omega))
      have l7 := B7.out.lt
      obtain ⟨⟨-, x1, -, -, -, -, -, -, -, -, x10, x11, x12, -⟩, y4⟩ := blk14 B7.out
      have y10 := y4 10
      have y11 := y4 11
      have y12 := y4 12
      clear y4
    | (go_at_call 26; refine (ka.out _ _ (At.new H5)).mono ?_; rintro e w6 ⟨rfl, H6⟩))
  obtain ⟨W8, hW8⟩ : ∃ W8, ((w7.setCell ⟨bx, 10, none⟩ (.string ⟨#[]⟩)).setCell ⟨bx, 11, none⟩ (.int .i64 1000000)).setCell ⟨bx, 12, none⟩ (.int .i64 (p : Nat)) = W8 := ⟨_, rfl⟩
  have H8 : Hid (At x q w0 s4 W8) := by
    rw [← hW8]
    exact At.row H7 B7.out (by decide) (by omega) (by omega) 10 [.string ⟨#[]⟩, .int .i64 1000000, .int .i64 (p : Nat)]
  have B8 : Hid (Blk W8 bx 93 #[.bool true, .int .i64 (p : Nat), .slice none 0 0, .string ⟨nm.toArray⟩, .string ⟨xn.toArray⟩, .int .i64 xi, .int .i64 (xp : Nat), .string ⟨yn.toArray⟩, .int .i64 yi, .int .i64 (yp : Nat), .string ⟨#[]⟩, .int .i64 1000000, .int .i64 (p : Nat), .int .i64 0]) := by
    rw [← hW8]
    exact Blk.row [.string ⟨#[]⟩, .int .i64 1000000, .int .i64 (p : Nat)] 10 _ _ B7.out
  have X8 : Hid (Blk W8 W.heap.size 93 item0) := by
    rw [← hW8]
    exact Blk.rowFar (b := bx) (by omega) [.string ⟨#[]⟩, .int .i64 1000000, .int .i64 (p : Nat)] 10 _ _ X7.out
  rw [hW8]
  clear hW8 x1 x10 x11 x12 y10 y11 y12 l7 B7 X7 H7 F7 H6 H5 B5 X5 kv ka
  by_cases hb : s4.is PP.k_by = true
  · obtain ⟨vb, hvb⟩ : ∃ v, PP.val s4.tl = v := ⟨_, rfl⟩
    obtain ⟨⟨bn, bi, bp⟩, s5⟩ := vb
    have HU : Hid (PP.useBy p s4 = (⟨bn, bi, bp⟩, s5)) := by show _ = _; unfold PP.useBy; rw [if_pos hb, hvb]
    have kt : Hid (∀ w0 W, Hid (At x q w0 s4 W) → Calls Tryz.prog 28 #[.pointer (some ⟨q, 0, none⟩), .string ⟨#[98, 121]⟩] W fun e w' => e = .returned (.bool true) ∧ Hid (At x q w0 s4.tl w')) := fun w0 W H => by
      have := try_any PP.k_by H
      unfold St.try' at this
      rw [hb, if_pos rfl] at this
      exact this
    have kv : Hid (∀ w0 W, Hid (At x q w0 s4.tl W) → Calls Tryz.prog 81 #[.pointer (some ⟨q, 0, none⟩)] W fun e w' => e = .returned (.agg #[.string ⟨bn.toArray⟩, .int .i64 bi, .int .i64 (bp : Nat)]) ∧ Hid (At x q w0 s5 w')) := fun w0 W H => by
      have := val_any H
      rw [hvb] at this
      exact this
    clear hb hvb
    go_upto_region 9 with (first
      | go_at_call 81
        refine (kv.out _ _ H9).mono ?_
        rintro e w10 ⟨rfl, H10⟩
        have B10 : Hid (Blk w10 bx 93 #[.bool true, .int .i64 (p : Nat), .slice none 0 0, .string ⟨nm.toArray⟩, .string ⟨xn.toArray⟩, .int .i64 xi, .int .i64 (xp : Nat), .string ⟨yn.toArray⟩, .int .i64 yi, .int .i64 (yp : Nat), .string ⟨#[]⟩, .int .i64 1000000, .int .i64 (p : Nat), .int .i64 0]) := At.box H10 B8.out (by omega)
        have l10 := B10.out.lt
        obtain ⟨⟨-, -, -, -, -, -, -, -, -, -, x10, x11, x12, -⟩, y4⟩ := blk14 B10.out
        have y10 := y4 10
        have y11 := y4 11
        have y12 := y4 12
        clear y4
      | (go_at_call 28; refine (kt.out _ _ (At.new H8)).mono ?_; rintro e w9 ⟨rfl, H9⟩))
    obtain ⟨W11, hW11⟩ : ∃ W11, ((w10.setCell ⟨bx, 10, none⟩ (.string ⟨bn.toArray⟩)).setCell ⟨bx, 11, none⟩ (.int .i64 bi)).setCell ⟨bx, 12, none⟩ (.int .i64 (bp : Nat)) = W11 := ⟨_, rfl⟩
    have H11 : Hid (At x q w0 s5 W11) := by
      rw [← hW11]
      exact At.row (At.onto (At.mk' H8) H10) B10.out (by decide) (by omega) (by omega) 10 [.string ⟨bn.toArray⟩, .int .i64 bi, .int .i64 (bp : Nat)]
    have B11 : Hid (Blk W11 bx 93 #[.bool true, .int .i64 (p : Nat), .slice none 0 0, .string ⟨nm.toArray⟩, .string ⟨xn.toArray⟩, .int .i64 xi, .int .i64 (xp : Nat), .string ⟨yn.toArray⟩, .int .i64 yi, .int .i64 (yp : Nat), .string ⟨bn.toArray⟩, .int .i64 bi, .int .i64 (bp : Nat), .int .i64 0]) := by
      rw [← hW11]
      exact Blk.row [.string ⟨bn.toArray⟩, .int .i64 bi, .int .i64 (bp : Nat)] 10 _ _ B10.out
    have X11 : Hid (Blk W11 W.heap.size 93 item0) := by
      rw [← hW11]
      exact Blk.rowFar (b := bx) (by omega) [.string ⟨bn.toArray⟩, .int .i64 bi, .int .i64 (bp : Nat)] 10 _ _ (At.box H10 X8.out (by omega))
    rw [hW11]
    clear hW11 x10 x11 x12 y10 y11 y12 l10 B10 H10 H9 H8 B8 X8 kt kv
    by_cases hb : s5.is PP.k_turn = true
    · obtain ⟨vt, hvt⟩ : ∃ v, PP.turn s5.tl = v := ⟨_, rfl⟩
      obtain ⟨tn, s6⟩ := vt
      have HT : Hid (PP.useTurn s5 = (tn, s6)) := by show _ = _; unfold PP.useTurn; rw [if_pos hb, hvt]
      have kt : Hid (∀ w0 W, Hid (At x q w0 s5 W) → Calls Tryz.prog 28 #[.pointer (some ⟨q, 0, none⟩), .string ⟨#[116, 117, 114, 110]⟩] W fun e w' => e = .returned (.bool true) ∧ Hid (At x q w0 s5.tl w')) := fun w0 W H => by
        have := try_any PP.k_turn H
        unfold St.try' at this
        rw [hb, if_pos rfl] at this
        exact this
      have kv : Hid (∀ w0 W, Hid (At x q w0 s5.tl W) → Calls Tryz.prog 108 #[.pointer (some ⟨q, 0, none⟩)] W fun e w' => e = .returned (.int .i64 (tn : Nat)) ∧ Hid (At x q w0 s6 w')) := fun w0 W H => by
        have := turn_any H
        rw [hvt] at this
        exact this
      clear hb hvt
      go_upto_region 11 with (first
        | go_at_call 108
          refine (kv.out _ _ H12).mono ?_
          rintro e w13 ⟨rfl, H13⟩
          have B13 : Hid (Blk w13 bx 93 #[.bool true, .int .i64 (p : Nat), .slice none 0 0, .string ⟨nm.toArray⟩, .string ⟨xn.toArray⟩, .int .i64 xi, .int .i64 (xp : Nat), .string ⟨yn.toArray⟩, .int .i64 yi, .int .i64 (yp : Nat), .string ⟨bn.toArray⟩, .int .i64 bi, .int .i64 (bp : Nat), .int .i64 0]) := At.box H13 B11.out (by omega)
          have l13 := B13.out.lt
          obtain ⟨⟨-, -, -, -, -, -, -, -, -, -, -, -, -, x13⟩, y4⟩ := blk14 B13.out
          have y13 := y4 13
          clear y4
        | (go_at_call 28; refine (kt.out _ _ (At.new H11)).mono ?_; rintro e w12 ⟨rfl, H12⟩))
      obtain ⟨W14, hW14⟩ : ∃ W14, w13.setCell ⟨bx, 13, none⟩ (.int .i64 (tn : Nat)) = W14 := ⟨_, rfl⟩
      have H14 : Hid (At x q w0 s6 W14) := by
        rw [← hW14]
        exact At.row (At.onto (At.mk' H11) H13) B13.out (by decide) (by omega) (by omega) 13 [.int .i64 (tn : Nat)]
      have B14 : Hid (Blk W14 bx 93 #[.bool true, .int .i64 (p : Nat), .slice none 0 0, .string ⟨nm.toArray⟩, .string ⟨xn.toArray⟩, .int .i64 xi, .int .i64 (xp : Nat), .string ⟨yn.toArray⟩, .int .i64 yi, .int .i64 (yp : Nat), .string ⟨bn.toArray⟩, .int .i64 bi, .int .i64 (bp : Nat), .int .i64 (tn : Nat)]) := by
        rw [← hW14]
        exact B13.out.set (j := 13) _
      have X14 : Hid (Blk W14 W.heap.size 93 item0) := by
        rw [← hW14]
        exact Blk.far (At.box H13 X11.out (by omega)) (p := ⟨bx, 13, none⟩) (by show W.heap.size ≠ bx; omega) _
      rw [hW14]
      clear hW14 x13 y13 l13 B13 H13 H12 H11 B11 X11 kt kv
      go_wp2_with (first
        | go_at_call 26
          refine (ke.out _ _ _ (At.new H14)).mono ?_
          rintro e w15 ⟨rfl, H15⟩
          have X6 : Hid (Blk w15 W.heap.size 93 item0) := At.box H15 X14.out (by omega)
          obtain ⟨⟨x0, x1, x2, x3, x4, x5, x6, x7, x8, x9, x10, x11, x12, x13⟩, hxf⟩ := blk14 X6.out
          have hx := X6.out.lt
          have y0 := hxf 0
          have y1 := hxf 1
          have y2 := hxf 2
          have y3 := hxf 3
          have y4 := hxf 4
          have y5 := hxf 5
          have y6 := hxf 6
          have y7 := hxf 7
          have y8 := hxf 8
          have y9 := hxf 9
          have y10 := hxf 10
          have y11 := hxf 11
          have y12 := hxf 12
          have y13 := hxf 13
          clear hxf
          have S6 : Hid (Blk w15 bx 93 #[.bool true, .int .i64 (p : Nat), .slice none 0 0, .string ⟨nm.toArray⟩, .string ⟨xn.toArray⟩, .int .i64 xi, .int .i64 (xp : Nat), .string ⟨yn.toArray⟩, .int .i64 yi, .int .i64 (yp : Nat), .string ⟨bn.toArray⟩, .int .i64 bi, .int .i64 (bp : Nat), .int .i64 (tn : Nat)]) := At.box H15 B14.out (by omega)
          obtain ⟨⟨z0, z1, z2, z3, z4, z5, z6, z7, z8, z9, z10, z11, z12, z13⟩, -⟩ := blk14 S6.out
          have hz := S6.out.lt)
      have R1 := At.row (At.onto (At.mk' H14) H15) X6.out (by decide) hq hs0 0 [.bool true, .int .i64 (p : Nat), .slice none 0 0, .string ⟨nm.toArray⟩, .string ⟨xn.toArray⟩, .int .i64 xi, .int .i64 (xp : Nat), .string ⟨yn.toArray⟩, .int .i64 yi, .int .i64 (yp : Nat), .string ⟨bn.toArray⟩, .int .i64 bi, .int .i64 (bp : Nat), .int .i64 (tn : Nat)]
      refine bodyPost_ret (v := .agg #[.bool true, .int .i64 (p : Nat), .slice none 0 0, .string ⟨nm.toArray⟩, .string ⟨xn.toArray⟩, .int .i64 xi, .int .i64 (xp : Nat), .string ⟨yn.toArray⟩, .int .i64 yi, .int .i64 (yp : Nat), .string ⟨bn.toArray⟩, .int .i64 bi, .int .i64 (bp : Nat), .int .i64 (tn : Nat)]) (by simp [results, Tryz.results104, go_sem, x0, x1, x2, x3, x4, x5, x6, x7, x8, x9, x10, x11, x12, x13]) rfl ⟨(⟨true, p, [], nm, ⟨xn, xi, xp⟩, ⟨yn, yi, yp⟩, ⟨bn, bi, bp⟩, tn⟩, .slice none 0 0), rfl, by rw [HU.out, HT.out], by rw [HU.out, HT.out]; exact R1, ?_⟩
      exact ⟨[], rfl, ⟨none, 0, rfl⟩, ⟨rfl, .inl ⟨rfl, rfl⟩⟩, fun _ hp => absurd hp (by simp)⟩
    · have hb : s5.is PP.k_turn = false := by simpa using hb
      have HT : Hid (PP.useTurn s5 = (0, s5)) := by show _ = _; unfold PP.useTurn; rw [if_neg (by rw [hb]; simp)]
      have kt : Hid (∀ w0 W, Hid (At x q w0 s5 W) → Calls Tryz.prog 28 #[.pointer (some ⟨q, 0, none⟩), .string ⟨#[116, 117, 114, 110]⟩] W fun e w' => e = .returned (.bool false) ∧ Hid (At x q w0 s5 w')) := fun w0 W H => by
        have := try_any PP.k_turn H
        unfold St.try' at this
        rw [hb, if_neg (by simp)] at this
        exact this
      clear hb
      go_upto_region 11 with (first
        | (go_at_call 28; refine (kt.out _ _ (At.new H11)).mono ?_; rintro e w12 ⟨rfl, H12⟩))
      have H14 : Hid (At x q w0 s5 w12) := At.onto (At.mk' H11) H12
      have B14 : Hid (Blk w12 bx 93 #[.bool true, .int .i64 (p : Nat), .slice none 0 0, .string ⟨nm.toArray⟩, .string ⟨xn.toArray⟩, .int .i64 xi, .int .i64 (xp : Nat), .string ⟨yn.toArray⟩, .int .i64 yi, .int .i64 (yp : Nat), .string ⟨bn.toArray⟩, .int .i64 bi, .int .i64 (bp : Nat), .int .i64 0]) := At.box H12 B11.out (by omega)
      have X14 : Hid (Blk w12 W.heap.size 93 item0) := At.box H12 X11.out (by omega)
      clear H12 H11 B11 X11 kt
      go_wp2_with (first
        | go_at_call 26
          refine (ke.out _ _ _ (At.new H14)).mono ?_
          rintro e w15 ⟨rfl, H15⟩
          have X6 : Hid (Blk w15 W.heap.size 93 item0) := At.box H15 X14.out (by omega)
          obtain ⟨⟨x0, x1, x2, x3, x4, x5, x6, x7, x8, x9, x10, x11, x12, x13⟩, hxf⟩ := blk14 X6.out
          have hx := X6.out.lt
          have y0 := hxf 0
          have y1 := hxf 1
          have y2 := hxf 2
          have y3 := hxf 3
          have y4 := hxf 4
          have y5 := hxf 5
          have y6 := hxf 6
          have y7 := hxf 7
          have y8 := hxf 8
          have y9 := hxf 9
          have y10 := hxf 10
          have y11 := hxf 11
          have y12 := hxf 12
          have y13 := hxf 13
          clear hxf
          have S6 : Hid (Blk w15 bx 93 #[.bool true, .int .i64 (p : Nat), .slice none 0 0, .string ⟨nm.toArray⟩, .string ⟨xn.toArray⟩, .int .i64 xi, .int .i64 (xp : Nat), .string ⟨yn.toArray⟩, .int .i64 yi, .int .i64 (yp : Nat), .string ⟨bn.toArray⟩, .int .i64 bi, .int .i64 (bp : Nat), .int .i64 0]) := At.box H15 B14.out (by omega)
          obtain ⟨⟨z0, z1, z2, z3, z4, z5, z6, z7, z8, z9, z10, z11, z12, z13⟩, -⟩ := blk14 S6.out
          have hz := S6.out.lt)
      have R1 := At.row (At.onto (At.mk' H14) H15) X6.out (by decide) hq hs0 0 [.bool true, .int .i64 (p : Nat), .slice none 0 0, .string ⟨nm.toArray⟩, .string ⟨xn.toArray⟩, .int .i64 xi, .int .i64 (xp : Nat), .string ⟨yn.toArray⟩, .int .i64 yi, .int .i64 (yp : Nat), .string ⟨bn.toArray⟩, .int .i64 bi, .int .i64 (bp : Nat), .int .i64 0]
      refine bodyPost_ret (v := .agg #[.bool true, .int .i64 (p : Nat), .slice none 0 0, .string ⟨nm.toArray⟩, .string ⟨xn.toArray⟩, .int .i64 xi, .int .i64 (xp : Nat), .string ⟨yn.toArray⟩, .int .i64 yi, .int .i64 (yp : Nat), .string ⟨bn.toArray⟩, .int .i64 bi, .int .i64 (bp : Nat), .int .i64 0]) (by simp [results, Tryz.results104, go_sem, x0, x1, x2, x3, x4, x5, x6, x7, x8, x9, x10, x11, x12, x13]) rfl ⟨(⟨true, p, [], nm, ⟨xn, xi, xp⟩, ⟨yn, yi, yp⟩, ⟨bn, bi, bp⟩, 0⟩, .slice none 0 0), rfl, by rw [HU.out, HT.out], by rw [HU.out, HT.out]; exact R1, ?_⟩
      exact ⟨[], rfl, ⟨none, 0, rfl⟩, ⟨rfl, .inl ⟨rfl, rfl⟩⟩, fun _ hp => absurd hp (by simp)⟩
  · have hb : s4.is PP.k_by = false := by simpa using hb
    obtain ⟨s5, hs5⟩ : ∃ s5, s4 = s5 := ⟨_, rfl⟩
    have HU : Hid (PP.useBy p s4 = (⟨[], 1000000, p⟩, s5)) := by show _ = _; unfold PP.useBy; rw [if_neg (by rw [hb]; simp), hs5]
    have kt : Hid (∀ w0 W, Hid (At x q w0 s4 W) → Calls Tryz.prog 28 #[.pointer (some ⟨q, 0, none⟩), .string ⟨#[98, 121]⟩] W fun e w' => e = .returned (.bool false) ∧ Hid (At x q w0 s4 w')) := fun w0 W H => by
      have := try_any PP.k_by H
      unfold St.try' at this
      rw [hb, if_neg (by simp)] at this
      exact this
    clear hb
    go_upto_region 9 with (first
      | (go_at_call 28; refine (kt.out _ _ (At.new H8)).mono ?_; rintro e w9 ⟨rfl, H9⟩))
    have H11 : Hid (At x q w0 s5 w9) := by rw [← hs5]; exact At.onto (At.mk' H8) H9
    have B11 : Hid (Blk w9 bx 93 #[.bool true, .int .i64 (p : Nat), .slice none 0 0, .string ⟨nm.toArray⟩, .string ⟨xn.toArray⟩, .int .i64 xi, .int .i64 (xp : Nat), .string ⟨yn.toArray⟩, .int .i64 yi, .int .i64 (yp : Nat), .string ⟨#[]⟩, .int .i64 1000000, .int .i64 (p : Nat), .int .i64 0]) := At.box H9 B8.out (by omega)
    have X11 : Hid (Blk w9 W.heap.size 93 item0) := At.box H9 X8.out (by omega)
    clear H9 H8 B8 X8 kt
    clear hs5
    by_cases hb : s5.is PP.k_turn = true
    · obtain ⟨vt, hvt⟩ : ∃ v, PP.turn s5.tl = v := ⟨_, rfl⟩
      obtain ⟨tn, s6⟩ := vt
      have HT : Hid (PP.useTurn s5 = (tn, s6)) := by show _ = _; unfold PP.useTurn; rw [if_pos hb, hvt]
      have kt : Hid (∀ w0 W, Hid (At x q w0 s5 W) → Calls Tryz.prog 28 #[.pointer (some ⟨q, 0, none⟩), .string ⟨#[116, 117, 114, 110]⟩] W fun e w' => e = .returned (.bool true) ∧ Hid (At x q w0 s5.tl w')) := fun w0 W H => by
        have := try_any PP.k_turn H
        unfold St.try' at this
        rw [hb, if_pos rfl] at this
        exact this
      have kv : Hid (∀ w0 W, Hid (At x q w0 s5.tl W) → Calls Tryz.prog 108 #[.pointer (some ⟨q, 0, none⟩)] W fun e w' => e = .returned (.int .i64 (tn : Nat)) ∧ Hid (At x q w0 s6 w')) := fun w0 W H => by
        have := turn_any H
        rw [hvt] at this
        exact this
      clear hb hvt
      go_upto_region 11 with (first
        | go_at_call 108
          refine (kv.out _ _ H12).mono ?_
          rintro e w13 ⟨rfl, H13⟩
          have B13 : Hid (Blk w13 bx 93 #[.bool true, .int .i64 (p : Nat), .slice none 0 0, .string ⟨nm.toArray⟩, .string ⟨xn.toArray⟩, .int .i64 xi, .int .i64 (xp : Nat), .string ⟨yn.toArray⟩, .int .i64 yi, .int .i64 (yp : Nat), .string ⟨#[]⟩, .int .i64 1000000, .int .i64 (p : Nat), .int .i64 0]) := At.box H13 B11.out (by omega)
          have l13 := B13.out.lt
          obtain ⟨⟨-, -, -, -, -, -, -, -, -, -, -, -, -, x13⟩, y4⟩ := blk14 B13.out
          have y13 := y4 13
          clear y4
        | (go_at_call 28; refine (kt.out _ _ (At.new H11)).mono ?_; rintro e w12 ⟨rfl, H12⟩))
      obtain ⟨W14, hW14⟩ : ∃ W14, w13.setCell ⟨bx, 13, none⟩ (.int .i64 (tn : Nat)) = W14 := ⟨_, rfl⟩
      have H14 : Hid (At x q w0 s6 W14) := by
        rw [← hW14]
        exact At.row (At.onto (At.mk' H11) H13) B13.out (by decide) (by omega) (by omega) 13 [.int .i64 (tn : Nat)]
      have B14 : Hid (Blk W14 bx 93 #[.bool true, .int .i64 (p : Nat), .slice none 0 0, .string ⟨nm.toArray⟩, .string ⟨xn.toArray⟩, .int .i64 xi, .int .i64 (xp : Nat), .string ⟨yn.toArray⟩, .int .i64 yi, .int .i64 (yp : Nat), .string ⟨#[]⟩, .int .i64 1000000, .int .i64 (p : Nat), .int .i64 (tn : Nat)]) := by
        rw [← hW14]
        exact B13.out.set (j := 13) _
      have X14 : Hid (Blk W14 W.heap.size 93 item0) := by
        rw [← hW14]
        exact Blk.far (At.box H13 X11.out (by omega)) (p := ⟨bx, 13, none⟩) (by show W.heap.size ≠ bx; omega) _
      rw [hW14]
      clear hW14 x13 y13 l13 B13 H13 H12 H11 B11 X11 kt kv
      go_wp2_with (first
        | go_at_call 26
          refine (ke.out _ _ _ (At.new H14)).mono ?_
          rintro e w15 ⟨rfl, H15⟩
          have X6 : Hid (Blk w15 W.heap.size 93 item0) := At.box H15 X14.out (by omega)
          obtain ⟨⟨x0, x1, x2, x3, x4, x5, x6, x7, x8, x9, x10, x11, x12, x13⟩, hxf⟩ := blk14 X6.out
          have hx := X6.out.lt
          have y0 := hxf 0
          have y1 := hxf 1
          have y2 := hxf 2
          have y3 := hxf 3
          have y4 := hxf 4
          have y5 := hxf 5
          have y6 := hxf 6
          have y7 := hxf 7
          have y8 := hxf 8
          have y9 := hxf 9
          have y10 := hxf 10
          have y11 := hxf 11
          have y12 := hxf 12
          have y13 := hxf 13
          clear hxf
          have S6 : Hid (Blk w15 bx 93 #[.bool true, .int .i64 (p : Nat), .slice none 0 0, .string ⟨nm.toArray⟩, .string ⟨xn.toArray⟩, .int .i64 xi, .int .i64 (xp : Nat), .string ⟨yn.toArray⟩, .int .i64 yi, .int .i64 (yp : Nat), .string ⟨#[]⟩, .int .i64 1000000, .int .i64 (p : Nat), .int .i64 (tn : Nat)]) := At.box H15 B14.out (by omega)
          obtain ⟨⟨z0, z1, z2, z3, z4, z5, z6, z7, z8, z9, z10, z11, z12, z13⟩, -⟩ := blk14 S6.out
          have hz := S6.out.lt)
      have R1 := At.row (At.onto (At.mk' H14) H15) X6.out (by decide) hq hs0 0 [.bool true, .int .i64 (p : Nat), .slice none 0 0, .string ⟨nm.toArray⟩, .string ⟨xn.toArray⟩, .int .i64 xi, .int .i64 (xp : Nat), .string ⟨yn.toArray⟩, .int .i64 yi, .int .i64 (yp : Nat), .string ⟨#[]⟩, .int .i64 1000000, .int .i64 (p : Nat), .int .i64 (tn : Nat)]
      refine bodyPost_ret (v := .agg #[.bool true, .int .i64 (p : Nat), .slice none 0 0, .string ⟨nm.toArray⟩, .string ⟨xn.toArray⟩, .int .i64 xi, .int .i64 (xp : Nat), .string ⟨yn.toArray⟩, .int .i64 yi, .int .i64 (yp : Nat), .string ⟨#[]⟩, .int .i64 1000000, .int .i64 (p : Nat), .int .i64 (tn : Nat)]) (by simp [results, Tryz.results104, go_sem, x0, x1, x2, x3, x4, x5, x6, x7, x8, x9, x10, x11, x12, x13]) rfl ⟨(⟨true, p, [], nm, ⟨xn, xi, xp⟩, ⟨yn, yi, yp⟩, ⟨[], 1000000, p⟩, tn⟩, .slice none 0 0), rfl, by rw [HU.out, HT.out], by rw [HU.out, HT.out]; exact R1, ?_⟩
      exact ⟨[], rfl, ⟨none, 0, rfl⟩, ⟨rfl, .inl ⟨rfl, rfl⟩⟩, fun _ hp => absurd hp (by simp)⟩
    · have hb : s5.is PP.k_turn = false := by simpa using hb
      have HT : Hid (PP.useTurn s5 = (0, s5)) := by show _ = _; unfold PP.useTurn; rw [if_neg (by rw [hb]; simp)]
      have kt : Hid (∀ w0 W, Hid (At x q w0 s5 W) → Calls Tryz.prog 28 #[.pointer (some ⟨q, 0, none⟩), .string ⟨#[116, 117, 114, 110]⟩] W fun e w' => e = .returned (.bool false) ∧ Hid (At x q w0 s5 w')) := fun w0 W H => by
        have := try_any PP.k_turn H
        unfold St.try' at this
        rw [hb, if_neg (by simp)] at this
        exact this
      clear hb
      go_upto_region 11 with (first
        | (go_at_call 28; refine (kt.out _ _ (At.new H11)).mono ?_; rintro e w12 ⟨rfl, H12⟩))
      have H14 : Hid (At x q w0 s5 w12) := At.onto (At.mk' H11) H12
      have B14 : Hid (Blk w12 bx 93 #[.bool true, .int .i64 (p : Nat), .slice none 0 0, .string ⟨nm.toArray⟩, .string ⟨xn.toArray⟩, .int .i64 xi, .int .i64 (xp : Nat), .string ⟨yn.toArray⟩, .int .i64 yi, .int .i64 (yp : Nat), .string ⟨#[]⟩, .int .i64 1000000, .int .i64 (p : Nat), .int .i64 0]) := At.box H12 B11.out (by omega)
      have X14 : Hid (Blk w12 W.heap.size 93 item0) := At.box H12 X11.out (by omega)
      clear H12 H11 B11 X11 kt
      go_wp2_with (first
        | go_at_call 26
          refine (ke.out _ _ _ (At.new H14)).mono ?_
          rintro e w15 ⟨rfl, H15⟩
          have X6 : Hid (Blk w15 W.heap.size 93 item0) := At.box H15 X14.out (by omega)
          obtain ⟨⟨x0, x1, x2, x3, x4, x5, x6, x7, x8, x9, x10, x11, x12, x13⟩, hxf⟩ := blk14 X6.out
          have hx := X6.out.lt
          have y0 := hxf 0
          have y1 := hxf 1
          have y2 := hxf 2
          have y3 := hxf 3
          have y4 := hxf 4
          have y5 := hxf 5
          have y6 := hxf 6
          have y7 := hxf 7
          have y8 := hxf 8
          have y9 := hxf 9
          have y10 := hxf 10
          have y11 := hxf 11
          have y12 := hxf 12
          have y13 := hxf 13
          clear hxf
          have S6 : Hid (Blk w15 bx 93 #[.bool true, .int .i64 (p : Nat), .slice none 0 0, .string ⟨nm.toArray⟩, .string ⟨xn.toArray⟩, .int .i64 xi, .int .i64 (xp : Nat), .string ⟨yn.toArray⟩, .int .i64 yi, .int .i64 (yp : Nat), .string ⟨#[]⟩, .int .i64 1000000, .int .i64 (p : Nat), .int .i64 0]) := At.box H15 B14.out (by omega)
          obtain ⟨⟨z0, z1, z2, z3, z4, z5, z6, z7, z8, z9, z10, z11, z12, z13⟩, -⟩ := blk14 S6.out
          have hz := S6.out.lt)
      have R1 := At.row (At.onto (At.mk' H14) H15) X6.out (by decide) hq hs0 0 [.bool true, .int .i64 (p : Nat), .slice none 0 0, .string ⟨nm.toArray⟩, .string ⟨xn.toArray⟩, .int .i64 xi, .int .i64 (xp : Nat), .string ⟨yn.toArray⟩, .int .i64 yi, .int .i64 (yp : Nat), .string ⟨#[]⟩, .int .i64 1000000, .int .i64 (p : Nat), .int .i64 0]
      refine bodyPost_ret (v := .agg #[.bool true, .int .i64 (p : Nat), .slice none 0 0, .string ⟨nm.toArray⟩, .string ⟨xn.toArray⟩, .int .i64 xi, .int .i64 (xp : Nat), .string ⟨yn.toArray⟩, .int .i64 yi, .int .i64 (yp : Nat), .string ⟨#[]⟩, .int .i64 1000000, .int .i64 (p : Nat), .int .i64 0]) (by simp [results, Tryz.results104, go_sem, x0, x1, x2, x3, x4, x5, x6, x7, x8, x9, x10, x11, x12, x13]) rfl ⟨(⟨true, p, [], nm, ⟨xn, xi, xp⟩, ⟨yn, yi, yp⟩, ⟨[], 1000000, p⟩, 0⟩, .slice none 0 0), rfl, by rw [HU.out, HT.out], by rw [HU.out, HT.out]; exact R1, ?_⟩
      exact ⟨[], rfl, ⟨none, 0, rfl⟩, ⟨rfl, .inl ⟨rfl, rfl⟩⟩, fun _ hp => absurd hp (by simp)⟩

end Go.Proofs.YtenmkopiddmieabGreatDoor

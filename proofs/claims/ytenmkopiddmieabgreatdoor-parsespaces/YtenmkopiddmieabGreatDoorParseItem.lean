/-
  An item, walked over the program.
-/
import Derived.Test.YtenmkopiddmieabGreatDoorParseUse
namespace Go.Proofs.YtenmkopiddmieabGreatDoor
open Go.RowKit

set_option maxRecDepth 20000 in
set_option maxHeartbeats 2000000 in
theorem item_any {x : Cx} {q : Nat} {w0 W : World} {s : PP.St} (h : Hid (At x q w0 s W)) :
    Calls Tryz.prog 95 #[.pointer (some ⟨q, 0, none⟩)] W fun e w' => ∃ y : PP.Item × Value, e = .returned (.agg (itemL y).toArray) ∧ y.1 = (PP.item s).1 ∧ Hid (At x q w0 (PP.item s).2 w') ∧ ItemOk w' y := by
  have HW := At.alloc (At.new h) (.cells item0 93)
  have HM : Hid (Mk q w0 (W.alloc (.cells item0 93))) := (At.mk' h).alloc _
  have B0 : Hid (Blk (W.alloc (.cells item0 93)) W.heap.size 93 item0) := blk_new _ _ _
  have hq : q < W.heap.size := (At.rd h).lt
  have hs0 := At.size h
  have k1 := hid'' (is_any PP.k_path (At.new HW))
  unfold PP.k_path at k1
  have HA : Hid (PP.item s = if s.is PP.k_path = true then PP.path s else PP.use s) := by show _ = _; rfl
  rw [HA.out]
  unfold PP.k_path
  unfold item0 at k1
  obtain ⟨b, hb⟩ : ∃ b, s.is [112, 97, 116, 104] = b := ⟨_, rfl⟩
  rw [hb] at k1 ⊢
  clear h hb HA HW
  cases b with
  | true =>
    rw [if_pos rfl]
    go_enter Tryz.func95, Tryz.ntmps95
    go_wp2_with (first
      | go_at_call 103
        refine (path_any H1).mono ?_
        rintro e w2 ⟨⟨⟨us, po, st, nm, ⟨xn, xi, xp⟩, ⟨yn, yi, yp⟩, ⟨zn, zi, zp⟩, tu⟩, hv⟩, he, hy, H2, hok⟩
        obtain ⟨hd, hn, hc, rfl⟩ := hok.slice
        have he : e = .returned (.agg #[.bool us, .int .i64 (po : Nat), .slice hd hn hc, .string ⟨nm.toArray⟩, .string ⟨xn.toArray⟩, .int .i64 xi, .int .i64 (xp : Nat), .string ⟨yn.toArray⟩, .int .i64 yi, .int .i64 (yp : Nat), .string ⟨zn.toArray⟩, .int .i64 zi, .int .i64 (zp : Nat), .int .i64 (tu : Nat)]) := he
        subst he
        have HOK := hid'' hok
        have HY := hid'' hy
        clear hok hy
        have X6 : Hid (Blk w2 W.heap.size 93 item0) := At.box H2 B0.out (by omega)
        obtain ⟨⟨x0, x1, x2, x3, x4, x5, x6, x7, x8, x9, x10, x11, x12, x13⟩, hxf⟩ := blk14 X6.out
        have hx := X6.out.lt
        have y0 := hxf 0
        have y1 := hxf 1
        have y2 := hxf 2
        have y3 := hxf 3
        have y4 := hxf 4
        have y5 := hxf 5
        have y6 := hxf 6
        have y7 := hxf 7
        have y8 := hxf 8
        have y9 := hxf 9
        have y10 := hxf 10
        have y11 := hxf 11
        have y12 := hxf 12
        have y13 := hxf 13
        clear hxf
      | (go_at_call 51; refine k1.out.mono ?_; rintro e w1 ⟨rfl, H1, -⟩))
    have R1 := At.row (At.onto HM.out H2) X6.out (by decide) hq hs0 0 [.bool us, .int .i64 (po : Nat), .slice hd hn hc, .string ⟨nm.toArray⟩, .string ⟨xn.toArray⟩, .int .i64 xi, .int .i64 (xp : Nat), .string ⟨yn.toArray⟩, .int .i64 yi, .int .i64 (yp : Nat), .string ⟨zn.toArray⟩, .int .i64 zi, .int .i64 (zp : Nat), .int .i64 (tu : Nat)]
    refine bodyPost_ret (v := .agg #[.bool us, .int .i64 (po : Nat), .slice hd hn hc, .string ⟨nm.toArray⟩, .string ⟨xn.toArray⟩, .int .i64 xi, .int .i64 (xp : Nat), .string ⟨yn.toArray⟩, .int .i64 yi, .int .i64 (yp : Nat), .string ⟨zn.toArray⟩, .int .i64 zi, .int .i64 (zp : Nat), .int .i64 (tu : Nat)]) (by simp [results, Tryz.results95, go_sem, x0, x1, x2, x3, x4, x5, x6, x7, x8, x9, x10, x11, x12, x13]) rfl ⟨(⟨us, po, st, nm, ⟨xn, xi, xp⟩, ⟨yn, yi, yp⟩, ⟨zn, zi, zp⟩, tu⟩, .slice hd hn hc), rfl, HY.out, R1, ?_⟩
    exact HOK.out.kt (t := 93) (Kt.row X6.out 0 [.bool us, .int .i64 (po : Nat), .slice hd hn hc, .string ⟨nm.toArray⟩, .string ⟨xn.toArray⟩, .int .i64 xi, .int .i64 (xp : Nat), .string ⟨yn.toArray⟩, .int .i64 yi, .int .i64 (yp : Nat), .string ⟨zn.toArray⟩, .int .i64 zi, .int .i64 (zp : Nat), .int .i64 (tu : Nat)])
  | false =>
    rw [if_neg (by simp)]
    go_enter Tryz.func95, Tryz.ntmps95
    go_wp2_with (first
      | go_at_call 104
        refine (use_any H1).mono ?_
        rintro e w2 ⟨⟨⟨us, po, st, nm, ⟨xn, xi, xp⟩, ⟨yn, yi, yp⟩, ⟨zn, zi, zp⟩, tu⟩, hv⟩, he, hy, H2, hok⟩
        obtain ⟨hd, hn, hc, rfl⟩ := hok.slice
        have he : e = .returned (.agg #[.bool us, .int .i64 (po : Nat), .slice hd hn hc, .string ⟨nm.toArray⟩, .string ⟨xn.toArray⟩, .int .i64 xi, .int .i64 (xp : Nat), .string ⟨yn.toArray⟩, .int .i64 yi, .int .i64 (yp : Nat), .string ⟨zn.toArray⟩, .int .i64 zi, .int .i64 (zp : Nat), .int .i64 (tu : Nat)]) := he
        subst he
        have HOK := hid'' hok
        have HY := hid'' hy
        clear hok hy
        have X6 : Hid (Blk w2 W.heap.size 93 item0) := At.box H2 B0.out (by omega)
        obtain ⟨⟨x0, x1, x2, x3, x4, x5, x6, x7, x8, x9, x10, x11, x12, x13⟩, hxf⟩ := blk14 X6.out
        have hx := X6.out.lt
        have y0 := hxf 0
        have y1 := hxf 1
        have y2 := hxf 2
        have y3 := hxf 3
        have y4 := hxf 4
        have y5 := hxf 5
        have y6 := hxf 6
        have y7 := hxf 7
        have y8 := hxf 8
        have y9 := hxf 9
        have y10 := hxf 10
        have y11 := hxf 11
        have y12 := hxf 12
        have y13 := hxf 13
        clear hxf
      | (go_at_call 51; refine k1.out.mono ?_; rintro e w1 ⟨rfl, H1, -⟩))
    have R1 := At.row (At.onto HM.out H2) X6.out (by decide) hq hs0 0 [.bool us, .int .i64 (po : Nat), .slice hd hn hc, .string ⟨nm.toArray⟩, .string ⟨xn.toArray⟩, .int .i64 xi, .int .i64 (xp : Nat), .string ⟨yn.toArray⟩, .int .i64 yi, .int .i64 (yp : Nat), .string ⟨zn.toArray⟩, .int .i64 zi, .int .i64 (zp : Nat), .int .i64 (tu : Nat)]
    refine bodyPost_ret (v := .agg #[.bool us, .int .i64 (po : Nat), .slice hd hn hc, .string ⟨nm.toArray⟩, .string ⟨xn.toArray⟩, .int .i64 xi, .int .i64 (xp : Nat), .string ⟨yn.toArray⟩, .int .i64 yi, .int .i64 (yp : Nat), .string ⟨zn.toArray⟩, .int .i64 zi, .int .i64 (zp : Nat), .int .i64 (tu : Nat)]) (by simp [results, Tryz.results95, go_sem, x0, x1, x2, x3, x4, x5, x6, x7, x8, x9, x10, x11, x12, x13]) rfl ⟨(⟨us, po, st, nm, ⟨xn, xi, xp⟩, ⟨yn, yi, yp⟩, ⟨zn, zi, zp⟩, tu⟩, .slice hd hn hc), rfl, HY.out, R1, ?_⟩
    exact HOK.out.kt (t := 93) (Kt.row X6.out 0 [.bool us, .int .i64 (po : Nat), .slice hd hn hc, .string ⟨nm.toArray⟩, .string ⟨xn.toArray⟩, .int .i64 xi, .int .i64 (xp : Nat), .string ⟨yn.toArray⟩, .int .i64 yi, .int .i64 (yp : Nat), .string ⟨zn.toArray⟩, .int .i64 zi, .int .i64 (zp : Nat), .int .i64 (tu : Nat)])

end Go.Proofs.YtenmkopiddmieabGreatDoor

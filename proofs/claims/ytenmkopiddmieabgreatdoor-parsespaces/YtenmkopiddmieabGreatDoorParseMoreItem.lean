/-
  One Item more of a list, walked over the program.
-/
import Derived.Test.YtenmkopiddmieabGreatDoorParseRep
namespace Go.Proofs.YtenmkopiddmieabGreatDoor
open Go.RowKit

theorem infoItem : (Tryz.prog.info? 93).map (fun i => (i.zero, i.size, i.bytes)) = some (some (.agg #[.bool false, .int .i64 0, .slice none 0 0, .string ⟨#[]⟩, .string ⟨#[]⟩, .int .i64 0, .int .i64 0, .string ⟨#[]⟩, .int .i64 0, .int .i64 0, .string ⟨#[]⟩, .int .i64 0, .int .i64 0, .int .i64 0]), 14, 160) := by kernel_rfl

set_option maxRecDepth 20000 in
set_option maxHeartbeats 2000000 in
theorem moreItem_any {x : Cx} {q b : Nat} {w0 W : World} {s : PP.St} (most : Nat) (acc : List (PP.Item × Value)) (ad : Option Addr) (cap : Nat) (h : Hid (At x q w0 s W)) (hO : Hid (Own W b 93 14 itemL ad cap acc)) (hqb : q < b) (h0 : w0.heap.size ≤ b) (hbW : b ≤ W.heap.size) (hl : acc.length ≤ 60001)
    (kf : ∀ (w1 W1 : World) (s1 : PP.St), Hid (At x q w1 s1 W1) → Calls Tryz.prog 95 #[.pointer (some ⟨q, 0, none⟩)] W1 fun e w' => ∃ y : PP.Item × Value, e = .returned (.agg (itemL y).toArray) ∧ y.1 = (PP.item s1).1 ∧ Hid (At x q w1 (PP.item s1).2 w') ∧ ItemOk w' y) :
    Calls Tryz.prog 94 #[.pointer (some ⟨q, 0, none⟩), .slice ad acc.length cap, .int .i64 (most : Nat), .func (.func 95) #[.pointer (some ⟨q, 0, none⟩)] #[]] W fun e w' => ∃ (y : PP.Item × Value) (ad' : Option Addr) (cap' : Nat), e = .returned (.slice ad' (acc.length + 1) cap') ∧ Hid (Own w' b 93 14 itemL ad' cap' (acc ++ [y])) ∧ y.1 = (PP.item (s.more most acc.length)).1 ∧ Hid (At x q w0 (PP.item (s.more most acc.length)).2 w') ∧ Hid (Kt 93 W w') ∧ ItemOk w' y := by
  obtain ⟨L, hL⟩ : ∃ L, acc.length = L := ⟨_, rfl⟩
  have HN := At.new h
  have hmk : Hid (Mk q w0 W) := At.mk' h
  have hrb := hid'' (At.rd h).rblk
  have kk := hid'' kf
  have HS : Hid (s.more most L = if L = most then s.fail 5 else s) := by show _ = _; rfl
  have hqW : q < W.heap.size := (At.rd h).lt
  obtain ⟨c1, c2, c3, c4, c5⟩ := At.errs h
  have hLl : L ≤ 60001 := by omega
  rw [hL]
  clear h kf hl
  by_cases he : L = most
  · subst he
    rw [if_pos rfl] at HS
    rw [HS.out]
    go_enter Tryz.func94, Tryz.ntmps94
    go_wp2_with (first
      | at_builtin
        refine wpList_push _ rfl (.tmp 16) (.tmp 19) 60 rfl b 93 _ 14 160 Tryz.underlying60 infoItem rfl (by decide) itemL itemL_len acc ⟨⟨us, po, st, nm, ⟨xn, xi, xp⟩, ⟨yn, yi, yp⟩, ⟨zn, zi, zp⟩, tu⟩, .slice hd hn hc⟩ L hL rfl ((Own.mk hO.out (At.mk' H2) hqb).alloc _) _ rfl (new_cells _ _ _) (by intro u hu; simp only [itemL, List.mem_cons, List.not_mem_nil, or_false] at hu; rcases hu with rfl | rfl | rfl | rfl | rfl | rfl | rfl | rfl | rfl | rfl | rfl | rfl | rfl | rfl <;> rfl) (by omega) (by omega) (by have := At.size H2; simp; omega) ?_
        intro ad2 cap2 w4 hown2 hg2
        have HO4 := hid'' hown2
        have HK4 : Hid (Kt 93 W w4) := ((Kt.at H2 hrb.out).trans (Kt.below ((Below.refl _ _).alloc (Nat.le_refl _) _))).trans (Kt.grown hg2 (Own.typed ((Own.mk hO.out (At.mk' H2) hqb).alloc _)))
        have H4 : Hid (At x q w0 (PP.item (s.fail 5)).2 w4) := At.grown (u := 93) (At.alloc (At.onto hmk.out H2) _) hg2 (Own.typed ((Own.mk hO.out (At.mk' H2) hqb).alloc _)) (by decide) (fun a e => by have := (Own.lt hO.out a e).1; exact ⟨by omega, by omega⟩)
        have HOK4 := hid'' (ItemOk.kt (t := 93) (ItemOk.kt (t := 93) HOK.out (Kt.below ((Below.refl _ _).alloc (Nat.le_refl _) _))) (Kt.grown hg2 (Own.typed ((Own.mk hO.out (At.mk' H2) hqb).alloc _))))
        clear hown2 hg2
      | go_at_call 95
        refine (kk.out _ _ _ H1).mono ?_
        rintro e w2 ⟨⟨⟨us, po, st, nm, ⟨xn, xi, xp⟩, ⟨yn, yi, yp⟩, ⟨zn, zi, zp⟩, tu⟩, hv⟩, he, hy, H2, hok⟩
        obtain ⟨hd, hn, hc, rfl⟩ := hok.slice
        have he : e = .returned (.agg #[.bool us, .int .i64 (po : Nat), .slice hd hn hc, .string ⟨nm.toArray⟩, .string ⟨xn.toArray⟩, .int .i64 xi, .int .i64 (xp : Nat), .string ⟨yn.toArray⟩, .int .i64 yi, .int .i64 (yp : Nat), .string ⟨zn.toArray⟩, .int .i64 zi, .int .i64 (zp : Nat), .int .i64 (tu : Nat)]) := he
        subst he
        have HOK := hid'' hok
        have HY := hid'' hy
        clear hok hy
      | (go_at_call 47; refine (fail5_any HN).mono ?_; rintro e w1 ⟨rfl, H1⟩))
    go_ret
    exact ⟨(⟨⟨us, po, st, nm, ⟨xn, xi, xp⟩, ⟨yn, yi, yp⟩, ⟨zn, zi, zp⟩, tu⟩, .slice hd hn hc⟩ : PP.Item × Value), ad2, cap2, rfl, HO4, HY.out, H4, HK4, HOK4.out⟩
  · rw [if_neg he] at HS
    rw [HS.out]
    have d1 : ¬ (L : Int) = (most : Int) := by omega
    have d2 : ((L : Int) == (most : Int)) = false := by simp; omega
    go_enter Tryz.func94, Tryz.ntmps94
    go_wp2_with (first
      | at_builtin
        refine wpList_push _ rfl (.tmp 16) (.tmp 19) 60 rfl b 93 _ 14 160 Tryz.underlying60 infoItem rfl (by decide) itemL itemL_len acc ⟨⟨us, po, st, nm, ⟨xn, xi, xp⟩, ⟨yn, yi, yp⟩, ⟨zn, zi, zp⟩, tu⟩, .slice hd hn hc⟩ L hL rfl ((Own.mk hO.out (At.mk' H2) hqb).alloc _) _ rfl (new_cells _ _ _) (by intro u hu; simp only [itemL, List.mem_cons, List.not_mem_nil, or_false] at hu; rcases hu with rfl | rfl | rfl | rfl | rfl | rfl | rfl | rfl | rfl | rfl | rfl | rfl | rfl | rfl <;> rfl) (by omega) (by omega) (by have := At.size H2; simp; omega) ?_
        intro ad2 cap2 w4 hown2 hg2
        have HO4 := hid'' hown2
        have HK4 : Hid (Kt 93 W w4) := ((Kt.at H2 hrb.out).trans (Kt.below ((Below.refl _ _).alloc (Nat.le_refl _) _))).trans (Kt.grown hg2 (Own.typed ((Own.mk hO.out (At.mk' H2) hqb).alloc _)))
        have H4 : Hid (At x q w0 (PP.item s).2 w4) := At.grown (u := 93) (At.alloc (At.onto hmk.out H2) _) hg2 (Own.typed ((Own.mk hO.out (At.mk' H2) hqb).alloc _)) (by decide) (fun a e => by have := (Own.lt hO.out a e).1; exact ⟨by omega, by omega⟩)
        have HOK4 := hid'' (ItemOk.kt (t := 93) (ItemOk.kt (t := 93) HOK.out (Kt.below ((Below.refl _ _).alloc (Nat.le_refl _) _))) (Kt.grown hg2 (Own.typed ((Own.mk hO.out (At.mk' H2) hqb).alloc _))))
        clear hown2 hg2
      | go_at_call 95
        refine (kk.out _ _ _ HN).mono ?_
        rintro e w2 ⟨⟨⟨us, po, st, nm, ⟨xn, xi, xp⟩, ⟨yn, yi, yp⟩, ⟨zn, zi, zp⟩, tu⟩, hv⟩, he, hy, H2, hok⟩
        obtain ⟨hd, hn, hc, rfl⟩ := hok.slice
        have he : e = .returned (.agg #[.bool us, .int .i64 (po : Nat), .slice hd hn hc, .string ⟨nm.toArray⟩, .string ⟨xn.toArray⟩, .int .i64 xi, .int .i64 (xp : Nat), .string ⟨yn.toArray⟩, .int .i64 yi, .int .i64 (yp : Nat), .string ⟨zn.toArray⟩, .int .i64 zi, .int .i64 (zp : Nat), .int .i64 (tu : Nat)]) := he
        subst he
        have HOK := hid'' hok
        have HY := hid'' hy
        clear hok hy)
    go_ret
    exact ⟨(⟨⟨us, po, st, nm, ⟨xn, xi, xp⟩, ⟨yn, yi, yp⟩, ⟨zn, zi, zp⟩, tu⟩, .slice hd hn hc⟩ : PP.Item × Value), ad2, cap2, rfl, HO4, HY.out, H4, HK4, HOK4.out⟩

end Go.Proofs.YtenmkopiddmieabGreatDoor

/-
  One Cmd more of a list, walked over the program.
-/
import Derived.Test.YtenmkopiddmieabGreatDoorParseRep
namespace Go.Proofs.YtenmkopiddmieabGreatDoor
open Go.RowKit

theorem infoCmd : (Tryz.prog.info? 71).map (fun i => (i.zero, i.size, i.bytes)) = some (some (.agg #[.int .i64 0, .int .i64 0, .int .i64 0, .string ⟨#[]⟩, .int .i64 0, .int .i64 0, .int .i64 0, .string ⟨#[]⟩, .int .u8 0, .int .u8 0, .int .u8 0, .int .u8 0, .int .i64 0, .string ⟨#[]⟩, .int .u8 0, .int .u8 0, .int .u8 0, .int .u8 0, .int .i64 0, .string ⟨#[]⟩, .int .i64 0, .int .i64 0, .string ⟨#[]⟩, .int .i64 0, .int .i64 0, .string ⟨#[]⟩, .int .i64 0, .int .i64 0, .string ⟨#[]⟩, .int .i64 0, .int .i64 0, .slice none 0 0]), 32, 280) := by kernel_rfl

set_option maxRecDepth 20000 in
set_option maxHeartbeats 2000000 in
theorem moreCmd_any {x : Cx} {q b : Nat} {w0 W : World} {s : PP.St} (most : Nat) (acc : List (PP.Cmd × Value)) (ad : Option Addr) (cap : Nat) (h : Hid (At x q w0 s W)) (hO : Hid (Own W b 71 32 cmdL ad cap acc)) (hqb : q < b) (h0 : w0.heap.size ≤ b) (hbW : b ≤ W.heap.size) (hl : acc.length ≤ 60001)
    (kf : ∀ (w1 W1 : World) (s1 : PP.St), Hid (At x q w1 s1 W1) → Calls Tryz.prog 60 #[.pointer (some ⟨q, 0, none⟩)] W1 fun e w' => ∃ y : PP.Cmd × Value, e = .returned (.agg (cmdL y).toArray) ∧ y.1 = (PP.cmd s1).1 ∧ Hid (At x q w1 (PP.cmd s1).2 w') ∧ CmdOk w' y) :
    Calls Tryz.prog 59 #[.pointer (some ⟨q, 0, none⟩), .slice ad acc.length cap, .int .i64 (most : Nat), .func (.func 60) #[.pointer (some ⟨q, 0, none⟩)] #[]] W fun e w' => ∃ (y : PP.Cmd × Value) (ad' : Option Addr) (cap' : Nat), e = .returned (.slice ad' (acc.length + 1) cap') ∧ Hid (Own w' b 71 32 cmdL ad' cap' (acc ++ [y])) ∧ y.1 = (PP.cmd (s.more most acc.length)).1 ∧ Hid (At x q w0 (PP.cmd (s.more most acc.length)).2 w') ∧ Hid (Kt 71 W w') ∧ CmdOk w' y := by
  obtain ⟨L, hL⟩ : ∃ L, acc.length = L := ⟨_, rfl⟩
  have HN := At.new h
  have hmk : Hid (Mk q w0 W) := At.mk' h
  have hrb := hid'' (At.rd h).rblk
  have kk := hid'' kf
  have HS : Hid (s.more most L = if L = most then s.fail 5 else s) := by show _ = _; rfl
  have hqW : q < W.heap.size := (At.rd h).lt
  obtain ⟨c1, c2, c3, c4, c5⟩ := At.errs h
  have hLl : L ≤ 60001 := by omega
  rw [hL]
  clear h kf hl
  by_cases he : L = most
  · subst he
    rw [if_pos rfl] at HS
    rw [HS.out]
    go_enter Tryz.func59, Tryz.ntmps59
    go_wp2_with (first
      | at_builtin
        refine wpList_push _ rfl (.tmp 16) (.tmp 19) 33 rfl b 71 _ 32 280 Tryz.underlying33 infoCmd rfl (by decide) cmdL cmdL_len acc ⟨⟨kd, ru, po, ⟨xn, xi, xp⟩, ⟨pk, ⟨an, ⟨ar, ag, ab, aa⟩, ap⟩, ⟨bn, ⟨br, bg, bb, ba⟩, bp⟩, ⟨cn, ci, cp⟩, ⟨dn, di, dp⟩, ⟨en, ei, ep⟩, ⟨fn, fi, fp⟩⟩, it⟩, .slice hd hn hc⟩ L hL rfl ((Own.mk hO.out (At.mk' H2) hqb).alloc _) _ rfl (new_cells _ _ _) (by intro u hu; simp only [cmdL, paintL, List.cons_append, List.nil_append, List.mem_cons, List.not_mem_nil, or_false] at hu; rcases hu with rfl | rfl | rfl | rfl | rfl | rfl | rfl | rfl | rfl | rfl | rfl | rfl | rfl | rfl | rfl | rfl | rfl | rfl | rfl | rfl | rfl | rfl | rfl | rfl | rfl | rfl | rfl | rfl | rfl | rfl | rfl | rfl <;> rfl) (by omega) (by omega) (by have := At.size H2; simp; omega) ?_
        intro ad2 cap2 w4 hown2 hg2
        have HO4 := hid'' hown2
        have HK4 : Hid (Kt 71 W w4) := ((Kt.at H2 hrb.out).trans (Kt.below ((Below.refl _ _).alloc (Nat.le_refl _) _))).trans (Kt.grown hg2 (Own.typed ((Own.mk hO.out (At.mk' H2) hqb).alloc _)))
        have H4 : Hid (At x q w0 (PP.cmd (s.fail 5)).2 w4) := At.grown (u := 71) (At.alloc (At.onto hmk.out H2) _) hg2 (Own.typed ((Own.mk hO.out (At.mk' H2) hqb).alloc _)) (by decide) (fun a e => by have := (Own.lt hO.out a e).1; exact ⟨by omega, by omega⟩)
        have HOK4 := hid'' (CmdOk.kt (t := 71) (CmdOk.kt (t := 71) HOK.out (Kt.below ((Below.refl _ _).alloc (Nat.le_refl _) _))) (Kt.grown hg2 (Own.typed ((Own.mk hO.out (At.mk' H2) hqb).alloc _))))
        clear hown2 hg2
      | go_at_call 60
        refine (kk.out _ _ _ H1).mono ?_
        rintro e w2 ⟨⟨⟨kd, ru, po, ⟨xn, xi, xp⟩, ⟨pk, ⟨an, ⟨ar, ag, ab, aa⟩, ap⟩, ⟨bn, ⟨br, bg, bb, ba⟩, bp⟩, ⟨cn, ci, cp⟩, ⟨dn, di, dp⟩, ⟨en, ei, ep⟩, ⟨fn, fi, fp⟩⟩, it⟩, hv⟩, he, hy, H2, hok⟩
        obtain ⟨hd, hn, hc, rfl⟩ := hok.slice
        have he : e = .returned (.agg #[.int .i64 (kd : Nat), .int .i64 (ru : Nat), .int .i64 (po : Nat), .string ⟨xn.toArray⟩, .int .i64 xi, .int .i64 (xp : Nat), .int .i64 (pk : Nat), .string ⟨an.toArray⟩, .int .u8 (ar : Nat), .int .u8 (ag : Nat), .int .u8 (ab : Nat), .int .u8 (aa : Nat), .int .i64 (ap : Nat), .string ⟨bn.toArray⟩, .int .u8 (br : Nat), .int .u8 (bg : Nat), .int .u8 (bb : Nat), .int .u8 (ba : Nat), .int .i64 (bp : Nat), .string ⟨cn.toArray⟩, .int .i64 ci, .int .i64 (cp : Nat), .string ⟨dn.toArray⟩, .int .i64 di, .int .i64 (dp : Nat), .string ⟨en.toArray⟩, .int .i64 ei, .int .i64 (ep : Nat), .string ⟨fn.toArray⟩, .int .i64 fi, .int .i64 (fp : Nat), .slice hd hn hc]) := he
        subst he
        have HOK := hid'' hok
        have HY := hid'' hy
        clear hok hy
      | (go_at_call 47; refine (fail5_any HN).mono ?_; rintro e w1 ⟨rfl, H1⟩))
    go_ret
    exact ⟨(⟨⟨kd, ru, po, ⟨xn, xi, xp⟩, ⟨pk, ⟨an, ⟨ar, ag, ab, aa⟩, ap⟩, ⟨bn, ⟨br, bg, bb, ba⟩, bp⟩, ⟨cn, ci, cp⟩, ⟨dn, di, dp⟩, ⟨en, ei, ep⟩, ⟨fn, fi, fp⟩⟩, it⟩, .slice hd hn hc⟩ : PP.Cmd × Value), ad2, cap2, rfl, HO4, HY.out, H4, HK4, HOK4.out⟩
  · rw [if_neg he] at HS
    rw [HS.out]
    have d1 : ¬ (L : Int) = (most : Int) := by omega
    have d2 : ((L : Int) == (most : Int)) = false := by simp; omega
    go_enter Tryz.func59, Tryz.ntmps59
    go_wp2_with (first
      | at_builtin
        refine wpList_push _ rfl (.tmp 16) (.tmp 19) 33 rfl b 71 _ 32 280 Tryz.underlying33 infoCmd rfl (by decide) cmdL cmdL_len acc ⟨⟨kd, ru, po, ⟨xn, xi, xp⟩, ⟨pk, ⟨an, ⟨ar, ag, ab, aa⟩, ap⟩, ⟨bn, ⟨br, bg, bb, ba⟩, bp⟩, ⟨cn, ci, cp⟩, ⟨dn, di, dp⟩, ⟨en, ei, ep⟩, ⟨fn, fi, fp⟩⟩, it⟩, .slice hd hn hc⟩ L hL rfl ((Own.mk hO.out (At.mk' H2) hqb).alloc _) _ rfl (new_cells _ _ _) (by intro u hu; simp only [cmdL, paintL, List.cons_append, List.nil_append, List.mem_cons, List.not_mem_nil, or_false] at hu; rcases hu with rfl | rfl | rfl | rfl | rfl | rfl | rfl | rfl | rfl | rfl | rfl | rfl | rfl | rfl | rfl | rfl | rfl | rfl | rfl | rfl | rfl | rfl | rfl | rfl | rfl | rfl | rfl | rfl | rfl | rfl | rfl | rfl <;> rfl) (by omega) (by omega) (by have := At.size H2; simp; omega) ?_
        intro ad2 cap2 w4 hown2 hg2
        have HO4 := hid'' hown2
        have HK4 : Hid (Kt 71 W w4) := ((Kt.at H2 hrb.out).trans (Kt.below ((Below.refl _ _).alloc (Nat.le_refl _) _))).trans (Kt.grown hg2 (Own.typed ((Own.mk hO.out (At.mk' H2) hqb).alloc _)))
        have H4 : Hid (At x q w0 (PP.cmd s).2 w4) := At.grown (u := 71) (At.alloc (At.onto hmk.out H2) _) hg2 (Own.typed ((Own.mk hO.out (At.mk' H2) hqb).alloc _)) (by decide) (fun a e => by have := (Own.lt hO.out a e).1; exact ⟨by omega, by omega⟩)
        have HOK4 := hid'' (CmdOk.kt (t := 71) (CmdOk.kt (t := 71) HOK.out (Kt.below ((Below.refl _ _).alloc (Nat.le_refl _) _))) (Kt.grown hg2 (Own.typed ((Own.mk hO.out (At.mk' H2) hqb).alloc _))))
        clear hown2 hg2
      | go_at_call 60
        refine (kk.out _ _ _ HN).mono ?_
        rintro e w2 ⟨⟨⟨kd, ru, po, ⟨xn, xi, xp⟩, ⟨pk, ⟨an, ⟨ar, ag, ab, aa⟩, ap⟩, ⟨bn, ⟨br, bg, bb, ba⟩, bp⟩, ⟨cn, ci, cp⟩, ⟨dn, di, dp⟩, ⟨en, ei, ep⟩, ⟨fn, fi, fp⟩⟩, it⟩, hv⟩, he, hy, H2, hok⟩
        obtain ⟨hd, hn, hc, rfl⟩ := hok.slice
        have he : e = .returned (.agg #[.int .i64 (kd : Nat), .int .i64 (ru : Nat), .int .i64 (po : Nat), .string ⟨xn.toArray⟩, .int .i64 xi, .int .i64 (xp : Nat), .int .i64 (pk : Nat), .string ⟨an.toArray⟩, .int .u8 (ar : Nat), .int .u8 (ag : Nat), .int .u8 (ab : Nat), .int .u8 (aa : Nat), .int .i64 (ap : Nat), .string ⟨bn.toArray⟩, .int .u8 (br : Nat), .int .u8 (bg : Nat), .int .u8 (bb : Nat), .int .u8 (ba : Nat), .int .i64 (bp : Nat), .string ⟨cn.toArray⟩, .int .i64 ci, .int .i64 (cp : Nat), .string ⟨dn.toArray⟩, .int .i64 di, .int .i64 (dp : Nat), .string ⟨en.toArray⟩, .int .i64 ei, .int .i64 (ep : Nat), .string ⟨fn.toArray⟩, .int .i64 fi, .int .i64 (fp : Nat), .slice hd hn hc]) := he
        subst he
        have HOK := hid'' hok
        have HY := hid'' hy
        clear hok hy)
    go_ret
    exact ⟨(⟨⟨kd, ru, po, ⟨xn, xi, xp⟩, ⟨pk, ⟨an, ⟨ar, ag, ab, aa⟩, ap⟩, ⟨bn, ⟨br, bg, bb, ba⟩, bp⟩, ⟨cn, ci, cp⟩, ⟨dn, di, dp⟩, ⟨en, ei, ep⟩, ⟨fn, fi, fp⟩⟩, it⟩, .slice hd hn hc⟩ : PP.Cmd × Value), ad2, cap2, rfl, HO4, HY.out, H4, HK4, HOK4.out⟩

end Go.Proofs.YtenmkopiddmieabGreatDoor

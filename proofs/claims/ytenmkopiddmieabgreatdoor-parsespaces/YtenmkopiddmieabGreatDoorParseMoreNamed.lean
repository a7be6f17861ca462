/-
  One Named more of a list, walked over the program.
-/
import Derived.Test.YtenmkopiddmieabGreatDoorParseRep
namespace Go.Proofs.YtenmkopiddmieabGreatDoor
open Go.RowKit

theorem infoNamed : (Tryz.prog.info? 58).map (fun i => (i.zero, i.size, i.bytes)) = some (some (.agg #[.string ⟨#[]⟩, .int .u8 0, .int .u8 0, .int .u8 0, .int .u8 0, .int .i64 0]), 6, 32) := by kernel_rfl

set_option maxRecDepth 20000 in
set_option maxHeartbeats 2000000 in
theorem moreNamed_any {x : Cx} {q b : Nat} {w0 W : World} {s : PP.St} (most : Nat) (acc : List (PP.Ref)) (ad : Option Addr) (cap : Nat) (h : Hid (At x q w0 s W)) (hO : Hid (Own W b 58 6 refL ad cap acc)) (hqb : q < b) (h0 : w0.heap.size ≤ b) (hbW : b ≤ W.heap.size) (hl : acc.length ≤ 60001)
    (kf : ∀ (w1 W1 : World) (s1 : PP.St), Hid (At x q w1 s1 W1) → Calls Tryz.prog 56 #[.pointer (some ⟨q, 0, none⟩)] W1 fun e w' => ∃ y : PP.Ref, e = .returned (.agg (refL y).toArray) ∧ y = (PP.named s1).1 ∧ Hid (At x q w1 (PP.named s1).2 w')) :
    Calls Tryz.prog 55 #[.pointer (some ⟨q, 0, none⟩), .slice ad acc.length cap, .int .i64 (most : Nat), .func (.func 56) #[.pointer (some ⟨q, 0, none⟩)] #[]] W fun e w' => ∃ (y : PP.Ref) (ad' : Option Addr) (cap' : Nat), e = .returned (.slice ad' (acc.length + 1) cap') ∧ Hid (Own w' b 58 6 refL ad' cap' (acc ++ [y])) ∧ y = (PP.named (s.more most acc.length)).1 ∧ Hid (At x q w0 (PP.named (s.more most acc.length)).2 w') ∧ Hid (Kt 58 W w') := by
  obtain ⟨L, hL⟩ : ∃ L, acc.length = L := ⟨_, rfl⟩
  have HN := At.new h
  have hmk : Hid (Mk q w0 W) := At.mk' h
  have hrb := hid'' (At.rd h).rblk
  have kk := hid'' kf
  have HS : Hid (s.more most L = if L = most then s.fail 5 else s) := by show _ = _; rfl
  have hqW : q < W.heap.size := (At.rd h).lt
  obtain ⟨c1, c2, c3, c4, c5⟩ := At.errs h
  have hLl : L ≤ 60001 := by omega
  rw [hL]
  clear h kf hl
  by_cases he : L = most
  · subst he
    rw [if_pos rfl] at HS
    rw [HS.out]
    go_enter Tryz.func55, Tryz.ntmps55
    go_wp2_with (first
      | at_builtin
        refine wpList_push _ rfl (.tmp 16) (.tmp 19) 31 rfl b 58 _ 6 32 Tryz.underlying31 infoNamed rfl (by decide) refL refL_len acc ⟨xn, ⟨xr, xg, xb, xa⟩, xp⟩ L hL rfl ((Own.mk hO.out (At.mk' H2) hqb).alloc _) _ rfl (new_cells _ _ _) (by intro u hu; simp only [refL, List.mem_cons, List.not_mem_nil, or_false] at hu; rcases hu with rfl | rfl | rfl | rfl | rfl | rfl <;> rfl) (by omega) (by omega) (by have := At.size H2; simp; omega) ?_
        intro ad2 cap2 w4 hown2 hg2
        have HO4 := hid'' hown2
        have HK4 : Hid (Kt 58 W w4) := ((Kt.at H2 hrb.out).trans (Kt.below ((Below.refl _ _).alloc (Nat.le_refl _) _))).trans (Kt.grown hg2 (Own.typed ((Own.mk hO.out (At.mk' H2) hqb).alloc _)))
        have H4 : Hid (At x q w0 (PP.named (s.fail 5)).2 w4) := At.grown (u := 58) (At.alloc (At.onto hmk.out H2) _) hg2 (Own.typed ((Own.mk hO.out (At.mk' H2) hqb).alloc _)) (by decide) (fun a e => by have := (Own.lt hO.out a e).1; exact ⟨by omega, by omega⟩)
        clear hown2 hg2
      | go_at_call 56
        refine (kk.out _ _ _ H1).mono ?_
        rintro e w2 ⟨⟨xn, ⟨xr, xg, xb, xa⟩, xp⟩, he, hy, H2⟩
        have he : e = .returned (.agg #[.string ⟨xn.toArray⟩, .int .u8 (xr : Nat), .int .u8 (xg : Nat), .int .u8 (xb : Nat), .int .u8 (xa : Nat), .int .i64 (xp : Nat)]) := he
        subst he
        have HY := hid'' hy
        clear hy
      | (go_at_call 47; refine (fail5_any HN).mono ?_; rintro e w1 ⟨rfl, H1⟩))
    go_ret
    exact ⟨(⟨xn, ⟨xr, xg, xb, xa⟩, xp⟩ : PP.Ref), ad2, cap2, rfl, HO4, HY.out, H4, HK4⟩
  · rw [if_neg he] at HS
    rw [HS.out]
    have d1 : ¬ (L : Int) = (most : Int) := by omega
    have d2 : ((L : Int) == (most : Int)) = false := by simp; omega
    go_enter Tryz.func55, Tryz.ntmps55
    go_wp2_with (first
      | at_builtin
        refine wpList_push _ rfl (.tmp 16) (.tmp 19) 31 rfl b 58 _ 6 32 Tryz.underlying31 infoNamed rfl (by decide) refL refL_len acc ⟨xn, ⟨xr, xg, xb, xa⟩, xp⟩ L hL rfl ((Own.mk hO.out (At.mk' H2) hqb).alloc _) _ rfl (new_cells _ _ _) (by intro u hu; simp only [refL, List.mem_cons, List.not_mem_nil, or_false] at hu; rcases hu with rfl | rfl | rfl | rfl | rfl | rfl <;> rfl) (by omega) (by omega) (by have := At.size H2; simp; omega) ?_
        intro ad2 cap2 w4 hown2 hg2
        have HO4 := hid'' hown2
        have HK4 : Hid (Kt 58 W w4) := ((Kt.at H2 hrb.out).trans (Kt.below ((Below.refl _ _).alloc (Nat.le_refl _) _))).trans (Kt.grown hg2 (Own.typed ((Own.mk hO.out (At.mk' H2) hqb).alloc _)))
        have H4 : Hid (At x q w0 (PP.named s).2 w4) := At.grown (u := 58) (At.alloc (At.onto hmk.out H2) _) hg2 (Own.typed ((Own.mk hO.out (At.mk' H2) hqb).alloc _)) (by decide) (fun a e => by have := (Own.lt hO.out a e).1; exact ⟨by omega, by omega⟩)
        clear hown2 hg2
      | go_at_call 56
        refine (kk.out _ _ _ HN).mono ?_
        rintro e w2 ⟨⟨xn, ⟨xr, xg, xb, xa⟩, xp⟩, he, hy, H2⟩
        have he : e = .returned (.agg #[.string ⟨xn.toArray⟩, .int .u8 (xr : Nat), .int .u8 (xg : Nat), .int .u8 (xb : Nat), .int .u8 (xa : Nat), .int .i64 (xp : Nat)]) := he
        subst he
        have HY := hid'' hy
        clear hy)
    go_ret
    exact ⟨(⟨xn, ⟨xr, xg, xb, xa⟩, xp⟩ : PP.Ref), ad2, cap2, rfl, HO4, HY.out, H4, HK4⟩

end Go.Proofs.YtenmkopiddmieabGreatDoor

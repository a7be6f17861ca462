/-
  One Step more of a list, walked over the program.
-/
import Derived.Test.YtenmkopiddmieabGreatDoorParseStep2
namespace Go.Proofs.YtenmkopiddmieabGreatDoor
open Go.RowKit

theorem infoStep : (Tryz.prog.info? 119).map (fun i => (i.zero, i.size, i.bytes)) = some (some (.agg #[.int .i64 0, .int .i64 0, .slice none 0 0]), 3, 40) := by kernel_rfl

set_option maxRecDepth 20000 in
set_option maxHeartbeats 2000000 in
theorem moreStep_any {x : Cx} {q b : Nat} {w0 W : World} {s : PP.St} (most : Nat) (acc : List (PP.Step × Value)) (ad : Option Addr) (cap : Nat) (h : Hid (At x q w0 s W)) (hO : Hid (Own W b 119 3 stepL ad cap acc)) (hqb : q < b) (h0 : w0.heap.size ≤ b) (hbW : b ≤ W.heap.size) (hl : acc.length ≤ 60001)
    (kf : ∀ (w1 W1 : World) (s1 : PP.St), Hid (At x q w1 s1 W1) → Calls Tryz.prog 111 #[.pointer (some ⟨q, 0, none⟩)] W1 fun e w' => ∃ y : PP.Step × Value, e = .returned (.agg (stepL y).toArray) ∧ y.1 = (PP.step s1).1 ∧ Hid (At x q w1 (PP.step s1).2 w') ∧ StepOk w' y) :
    Calls Tryz.prog 110 #[.pointer (some ⟨q, 0, none⟩), .slice ad acc.length cap, .int .i64 (most : Nat), .func (.func 111) #[.pointer (some ⟨q, 0, none⟩)] #[]] W fun e w' => ∃ (y : PP.Step × Value) (ad' : Option Addr) (cap' : Nat), e = .returned (.slice ad' (acc.length + 1) cap') ∧ Hid (Own w' b 119 3 stepL ad' cap' (acc ++ [y])) ∧ y.1 = (PP.step (s.more most acc.length)).1 ∧ Hid (At x q w0 (PP.step (s.more most acc.length)).2 w') ∧ Hid (Kt 119 W w') ∧ StepOk w' y := by
  obtain ⟨L, hL⟩ : ∃ L, acc.length = L := ⟨_, rfl⟩
  have HN := At.new h
  have hmk : Hid (Mk q w0 W) := At.mk' h
  have hrb := hid'' (At.rd h).rblk
  have kk := hid'' kf
  have HS : Hid (s.more most L = if L = most then s.fail 5 else s) := by show _ = _; rfl
  have hqW : q < W.heap.size := (At.rd h).lt
  obtain ⟨c1, c2, c3, c4, c5⟩ := At.errs h
  have hLl : L ≤ 60001 := by omega
  rw [hL]
  clear h kf hl
  by_cases he : L = most
  · subst he
    rw [if_pos rfl] at HS
    rw [HS.out]
    go_enter Tryz.func110, Tryz.ntmps110
    go_wp2_with (first
      | at_builtin
        refine wpList_push _ rfl (.tmp 16) (.tmp 19) 90 rfl b 119 _ 3 40 Tryz.underlying90 infoStep rfl (by decide) stepL stepL_len acc ⟨⟨kd, po, vs⟩, .slice hd hn hc⟩ L hL rfl ((Own.mk hO.out (At.mk' H2) hqb).alloc _) _ rfl (new_cells _ _ _) (by intro u hu; simp only [stepL, List.mem_cons, List.not_mem_nil, or_false] at hu; rcases hu with rfl | rfl | rfl <;> rfl) (by omega) (by omega) (by have := At.size H2; simp; omega) ?_
        intro ad2 cap2 w4 hown2 hg2
        have HO4 := hid'' hown2
        have HK4 : Hid (Kt 119 W w4) := ((Kt.at H2 hrb.out).trans (Kt.below ((Below.refl _ _).alloc (Nat.le_refl _) _))).trans (Kt.grown hg2 (Own.typed ((Own.mk hO.out (At.mk' H2) hqb).alloc _)))
        have H4 : Hid (At x q w0 (PP.step (s.fail 5)).2 w4) := At.grown (u := 119) (At.alloc (At.onto hmk.out H2) _) hg2 (Own.typed ((Own.mk hO.out (At.mk' H2) hqb).alloc _)) (by decide) (fun a e => by have := (Own.lt hO.out a e).1; exact ⟨by omega, by omega⟩)
        have HOK4 := hid'' (StepOk.kt (t := 119) (StepOk.kt (t := 119) HOK.out (Kt.below ((Below.refl _ _).alloc (Nat.le_refl _) _))) (Kt.grown hg2 (Own.typed ((Own.mk hO.out (At.mk' H2) hqb).alloc _))))
        clear hown2 hg2
      | go_at_call 111
        refine (kk.out _ _ _ H1).mono ?_
        rintro e w2 ⟨⟨⟨kd, po, vs⟩, hv⟩, he, hy, H2, hok⟩
        obtain ⟨hd, hn, hc, rfl⟩ := hok.slice
        have he : e = .returned (.agg #[.int .i64 (kd : Nat), .int .i64 (po : Nat), .slice hd hn hc]) := he
        subst he
        have HOK := hid'' hok
        have HY := hid'' hy
        clear hok hy
      | (go_at_call 47; refine (fail5_any HN).mono ?_; rintro e w1 ⟨rfl, H1⟩))
    go_ret
    exact ⟨(⟨⟨kd, po, vs⟩, .slice hd hn hc⟩ : PP.Step × Value), ad2, cap2, rfl, HO4, HY.out, H4, HK4, HOK4.out⟩
  · rw [if_neg he] at HS
    rw [HS.out]
    have d1 : ¬ (L : Int) = (most : Int) := by omega
    have d2 : ((L : Int) == (most : Int)) = false := by simp; omega
    go_enter Tryz.func110, Tryz.ntmps110
    go_wp2_with (first
      | at_builtin
        refine wpList_push _ rfl (.tmp 16) (.tmp 19) 90 rfl b 119 _ 3 40 Tryz.underlying90 infoStep rfl (by decide) stepL stepL_len acc ⟨⟨kd, po, vs⟩, .slice hd hn hc⟩ L hL rfl ((Own.mk hO.out (At.mk' H2) hqb).alloc _) _ rfl (new_cells _ _ _) (by intro u hu; simp only [stepL, List.mem_cons, List.not_mem_nil, or_false] at hu; rcases hu with rfl | rfl | rfl <;> rfl) (by omega) (by omega) (by have := At.size H2; simp; omega) ?_
        intro ad2 cap2 w4 hown2 hg2
        have HO4 := hid'' hown2
        have HK4 : Hid (Kt 119 W w4) := ((Kt.at H2 hrb.out).trans (Kt.below ((Below.refl _ _).alloc (Nat.le_refl _) _))).trans (Kt.grown hg2 (Own.typed ((Own.mk hO.out (At.mk' H2) hqb).alloc _)))
        have H4 : Hid (At x q w0 (PP.step s).2 w4) := At.grown (u := 119) (At.alloc (At.onto hmk.out H2) _) hg2 (Own.typed ((Own.mk hO.out (At.mk' H2) hqb).alloc _)) (by decide) (fun a e => by have := (Own.lt hO.out a e).1; exact ⟨by omega, by omega⟩)
        have HOK4 := hid'' (StepOk.kt (t := 119) (StepOk.kt (t := 119) HOK.out (Kt.below ((Below.refl _ _).alloc (Nat.le_refl _) _))) (Kt.grown hg2 (Own.typed ((Own.mk hO.out (At.mk' H2) hqb).alloc _))))
        clear hown2 hg2
      | go_at_call 111
        refine (kk.out _ _ _ HN).mono ?_
        rintro e w2 ⟨⟨⟨kd, po, vs⟩, hv⟩, he, hy, H2, hok⟩
        obtain ⟨hd, hn, hc, rfl⟩ := hok.slice
        have he : e = .returned (.agg #[.int .i64 (kd : Nat), .int .i64 (po : Nat), .slice hd hn hc]) := he
        subst he
        have HOK := hid'' hok
        have HY := hid'' hy
        clear hok hy)
    go_ret
    exact ⟨(⟨⟨kd, po, vs⟩, .slice hd hn hc⟩ : PP.Step × Value), ad2, cap2, rfl, HO4, HY.out, H4, HK4, HOK4.out⟩

end Go.Proofs.YtenmkopiddmieabGreatDoor

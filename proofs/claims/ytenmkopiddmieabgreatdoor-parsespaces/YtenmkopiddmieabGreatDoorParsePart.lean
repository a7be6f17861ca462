/-
  A part of a written icon, walked over the program.
-/
import Derived.Test.YtenmkopiddmieabGreatDoorParseConst
import Derived.Test.YtenmkopiddmieabGreatDoorParseNamed
import Derived.Test.YtenmkopiddmieabGreatDoorParseShape
import Derived.Test.YtenmkopiddmieabGreatDoorParseCmd
import Derived.Test.YtenmkopiddmieabGreatDoorParseMoreConst
import Derived.Test.YtenmkopiddmieabGreatDoorParseMoreNamed
import Derived.Test.YtenmkopiddmieabGreatDoorParseMoreShape
import Derived.Test.YtenmkopiddmieabGreatDoorParseMoreCmd
namespace Go.Proofs.YtenmkopiddmieabGreatDoor
open Go.RowKit

/-- A written icon that is being made: its box at b, its lists from B on. -/
structure SrcH (w : World) (b B : Nat) (x : PP.Src) (hs : List (PP.Shape × Value)) (hc : List (PP.Cmd × Value)) (a1 a2 a3 a4 : Option Addr) (c1 c2 c3 c4 : Nat) : Prop where
  blk : Blk w b 35 #[.int .i64 (x.w : Nat), .int .i64 (x.h : Nat), .int .i64 (x.scale : Nat), .slice a1 x.consts.length c1, .slice a2 x.colors.length c2, .slice a3 x.shapes.length c3, .slice a4 x.cmds.length c4]
  o1 : Own w B 54 3 valL a1 c1 x.consts
  o2 : Own w B 58 6 refL a2 c2 x.colors
  o3 : Own w B 62 3 shapeL a3 c3 hs
  o4 : Own w B 71 32 cmdL a4 c4 hc
  e3 : hs.map (·.1) = x.shapes
  e4 : hc.map (·.1) = x.cmds
  k3 : ∀ p ∈ hs, ShapeOk w p
  k4 : ∀ p ∈ hc, CmdOk w p
def SrcSt (w : World) (b B : Nat) (x : PP.Src) : Prop := ∃ hs hc a1 a2 a3 a4 c1 c2 c3 c4, SrcH w b B x hs hc a1 a2 a3 a4 c1 c2 c3 c4

theorem SrcH.at {x : Cx} {q b B : Nat} {W w : World} {s : PP.St} {X : PP.Src} {hs : List (PP.Shape × Value)} {hc : List (PP.Cmd × Value)} {a1 a2 a3 a4 : Option Addr} {c1 c2 c3 c4 : Nat} (h : SrcH W b B X hs hc a1 a2 a3 a4 c1 c2 c3 c4) (hr : ∃ c, Blk W q 51 c) (hA : Hid (At x q W s w)) (hqb : q < b) (hqB : q < B) : SrcH w b B X hs hc a1 a2 a3 a4 c1 c2 c3 c4 :=
  ⟨At.box hA h.blk (by omega), h.o1.mk (At.mk' hA) hqB, h.o2.mk (At.mk' hA) hqB, h.o3.mk (At.mk' hA) hqB, h.o4.mk (At.mk' hA) hqB, h.e3, h.e4, fun p hp => (h.k3 p hp).kt (t := 9) (Kt.at hA hr), fun p hp => (h.k4 p hp).kt (t := 9) (Kt.at hA hr)⟩
theorem Blk.kt {t u : TypeId} {w w' : World} {b : Nat} {a : Array Value} (h : Blk w b u a) (hk : Kt t w w') (h1 : u ≠ t := by decide) (h2 : u ≠ 51 := by decide) : Blk w' b u a := hk.2 b a u h1 h2 h

namespace PP
theorem part_consts (x : Src) (s : St) : (part x s).1.consts.length ≤ x.consts.length + 1 ∧ (part x s).1.colors.length ≤ x.colors.length + 1 ∧ (part x s).1.shapes.length ≤ x.shapes.length + 1 ∧ (part x s).1.cmds.length ≤ x.cmds.length + 1 := by
  unfold part
  repeat' split
  all_goals simp
end PP

set_option maxRecDepth 100000 in
set_option maxHeartbeats 4000000 in
theorem part_any {x : Cx} {q b B : Nat} {w0 W : World} {s : PP.St} {X : PP.Src} (h : Hid (At x q w0 s W)) (hS : Hid (SrcSt W b B X)) (hqb : q < b) (hbB : b < B) (h0 : w0.heap.size ≤ b) (hBW : B ≤ W.heap.size) (hl : X.consts.length ≤ 60000 ∧ X.colors.length ≤ 60000 ∧ X.shapes.length ≤ 60000 ∧ X.cmds.length ≤ 60000) :
    Calls Tryz.prog 29 #[.pointer (some ⟨q, 0, none⟩), .pointer (some ⟨b, 0, none⟩)] W fun e w' => e = .returned (.tuple #[]) ∧ Hid (At x q w0 (PP.part X s).2 w') ∧ Hid (SrcSt w' b B (PP.part X s).1) := by
  obtain ⟨hs, hc, a1, a2, a3, a4, c1, c2, c3, c4, HS⟩ := hS.out
  have hrb := (At.rd h).rblk
  have hmf : ∀ (fn : Fn) (first cap : Array Value) (w : World), (Instr.makeFunc fn first cap).run Tryz.prog w = .ok (.func fn first cap) w := fun _ _ _ _ => rfl
  have HN := At.new h
  have HM := hid'' (At.mk' h)
  have hH : ∀ (s' : PP.St) (w : World), Hid (At x q W s' w) → SrcH w b B X hs hc a1 a2 a3 a4 c1 c2 c3 c4 := fun s' w hA => HS.at hrb hA hqb (by omega)
  have hH := hid'' hH
  have ktry : ∀ (t : List UInt8) (v : Bool), s.is t = v → ∀ W2, Hid (At x q W s W2) → Calls Tryz.prog 28 #[.pointer (some ⟨q, 0, none⟩), .string ⟨t.toArray⟩] W2 fun e w' => e = .returned (.bool v) ∧ Hid (At x q W (if v = true then s.tl else s) w') := fun t v hv W2 H => by
    have := try_any t H
    unfold St.try' at this
    rw [hv] at this
    exact this
  have kis : ∀ (t : List UInt8) (v : Bool), s.is t = v → ∀ W2, Hid (At x q W s W2) → Calls Tryz.prog 51 #[.pointer (some ⟨q, 0, none⟩), .string ⟨t.toArray⟩] W2 fun e w' => e = .returned (.bool v) ∧ Hid (At x q W s w') := fun t v hv W2 H => by
    have := is_any t H
    rw [hv] at this
    exact this.mono fun e w' ⟨h1, h2, _⟩ => ⟨h1, h2⟩
  have HA : Hid (PP.part X s = if s.is PP.k_const = true then
      ({ X with consts := X.consts ++ [(PP.const ((s.tl.need 1).more 64 X.consts.length)).1] }, (PP.const ((s.tl.need 1).more 64 X.consts.length)).2)
    else if s.is PP.k_color = true then
      ({ X with colors := X.colors ++ [(PP.named ((s.tl.need 1).more 64 X.colors.length)).1] }, (PP.named ((s.tl.need 1).more 64 X.colors.length)).2)
    else if s.is PP.k_shape = true then
      ({ X with shapes := X.shapes ++ [(PP.shape ((s.tl.need 1).more 64 X.shapes.length)).1] }, (PP.shape ((s.tl.need 1).more 64 X.shapes.length)).2)
    else if (s.is PP.k_fill || s.is PP.k_line) = true then
      ({ X with cmds := X.cmds ++ [(PP.cmd (s.more 200 X.cmds.length)).1] }, (PP.cmd (s.more 200 X.cmds.length)).2)
    else (X, s.fail 0)) := by show _ = _; rfl
  rw [HA.out]
  obtain ⟨t1, ht1⟩ : ∃ v, s.is PP.k_const = v := ⟨_, rfl⟩
  obtain ⟨t2, ht2⟩ : ∃ v, s.is PP.k_color = v := ⟨_, rfl⟩
  obtain ⟨t3, ht3⟩ : ∃ v, s.is PP.k_shape = v := ⟨_, rfl⟩
  obtain ⟨t4, ht4⟩ : ∃ v, s.is PP.k_fill = v := ⟨_, rfl⟩
  obtain ⟨t5, ht5⟩ : ∃ v, s.is PP.k_line = v := ⟨_, rfl⟩
  have k1 := hid'' (ktry [99, 111, 110, 115, 116] t1 ht1)
  have k2 := hid'' (ktry [99, 111, 108, 111, 114] t2 ht2)
  have k3 := hid'' (ktry [115, 104, 97, 112, 101] t3 ht3)
  have k4 := hid'' (kis [102, 105, 108, 108] t4 ht4)
  have k5 := hid'' (kis [108, 105, 110, 101] t5 ht5)
  rw [ht1, ht2, ht3, ht4, ht5]
  clear h HA ht1 ht2 ht3 ht4 ht5 ktry kis hS
  cases t1 with
  | true =>
    have k1 : Hid (∀ W2, Hid (At x q W s W2) → Calls Tryz.prog 28 #[.pointer (some ⟨q, 0, none⟩), .string ⟨#[99, 111, 110, 115, 116]⟩] W2 fun e w' => e = .returned (.bool true) ∧ Hid (At x q W s.tl w')) := k1
    rw [if_pos rfl]
    have km : Hid (∀ (W2 : World), Hid (At x q w0 (s.tl.need 1) W2) → Hid (Own W2 B 54 3 valL a1 c1 X.consts) → B ≤ W2.heap.size → Calls Tryz.prog 53 #[.pointer (some ⟨q, 0, none⟩), .slice a1 X.consts.length c1, .int .i64 64, .func (.func 54) #[.pointer (some ⟨q, 0, none⟩)] #[]] W2 fun e w' => ∃ (y : PP.Val) (ad' : Option Addr) (cap' : Nat), e = .returned (.slice ad' (X.consts.length + 1) cap') ∧ Hid (Own w' B 54 3 valL ad' cap' (X.consts ++ [y])) ∧ y = (PP.const ((s.tl.need 1).more 64 X.consts.length)).1 ∧ Hid (At x q w0 (PP.const ((s.tl.need 1).more 64 X.consts.length)).2 w') ∧ Hid (Kt 54 W2 w')) := fun W2 H2 HO2 hB2 => by
      exact moreConst_any 64 X.consts a1 c1 H2 HO2 (by omega) (by omega) hB2 (by omega) (fun w1 W1 s1 h => (const_any h).mono fun e w' ⟨h1, h2⟩ => ⟨_, h1, rfl, h2⟩)
    go_enter Tryz.func29, Tryz.ntmps29
    go_wp2_with (first
      | go_at_call 53
        refine (km.out _ (At.onto HM.out H2) S2.out.o1 (Nat.le_trans hBW (At.size H2))).mono ?_
        rintro e w3 ⟨y, ad3, cap3, rfl, HO3, hy, H3, HK3⟩
        have HY := hid'' hy
        have B3 := S2.out.blk.kt HK3.out
        have l3 := B3.lt
        have n3 := B3.some (j := 3) (by simp)
        have y3 := B3.frozen 3
        clear hy
      | (go_at_call 52; refine (need_any 1 G1).mono ?_; rintro e w2 ⟨rfl, H2⟩; have S2 := hid'' (hH.out _ _ H2); have l2 := S2.out.blk.lt; have m2 := S2.out.blk.cell 3; simp only [List.getElem?_toArray, List.getElem?_cons_succ, List.getElem?_cons_zero] at m2)
      | (go_at_call 28; refine (k1.out _ HN).mono ?_; rintro e v1 ⟨rfl, G1⟩))
    go_end0
    have R3 := At.row H3 B3 (by decide) hqb h0 3 [.slice ad3 (X.consts.length + 1) cap3]
    have KB := Kt.row B3 3 [.slice ad3 (X.consts.length + 1) cap3]
    refine ⟨rfl, R3, ?_⟩
    refine ⟨hs, hc, ad3, a2, a3, a4, cap3, c2, c3, c4, ?_⟩
    have bl : Blk (setRow w3 b 3 [.slice ad3 (X.consts.length + 1) cap3]) b 35 #[.int .i64 (X.w : Nat), .int .i64 (X.h : Nat), .int .i64 (X.scale : Nat), .slice ad3 (X.consts.length + 1) cap3, .slice a2 X.colors.length c2, .slice a3 X.shapes.length c3, .slice a4 X.cmds.length c4] := Blk.row [.slice ad3 (X.consts.length + 1) cap3] 3 _ _ B3
    refine ⟨by simp only [List.length_append, List.length_singleton]; exact bl, by rw [← HY.out]; exact HO3.out.setLow (p := ⟨b, 3, none⟩) hbB _, (S2.out.o2.kt HK3.out (by decide) (by decide)).setLow (p := ⟨b, 3, none⟩) hbB _, (S2.out.o3.kt HK3.out (by decide) (by decide)).setLow (p := ⟨b, 3, none⟩) hbB _, (S2.out.o4.kt HK3.out (by decide) (by decide)).setLow (p := ⟨b, 3, none⟩) hbB _, S2.out.e3, S2.out.e4, fun p hp => ((S2.out.k3 p hp).kt HK3.out).kt (t := 35) KB, fun p hp => ((S2.out.k4 p hp).kt HK3.out).kt (t := 35) KB⟩
  | false =>
    have k1 : Hid (∀ W2, Hid (At x q W s W2) → Calls Tryz.prog 28 #[.pointer (some ⟨q, 0, none⟩), .string ⟨#[99, 111, 110, 115, 116]⟩] W2 fun e w' => e = .returned (.bool false) ∧ Hid (At x q W s w')) := k1
    rw [if_neg (by simp)]
    cases t2 with
    | true =>
      have k2 : Hid (∀ W2, Hid (At x q W s W2) → Calls Tryz.prog 28 #[.pointer (some ⟨q, 0, none⟩), .string ⟨#[99, 111, 108, 111, 114]⟩] W2 fun e w' => e = .returned (.bool true) ∧ Hid (At x q W s.tl w')) := k2
      rw [if_pos rfl]
      have km : Hid (∀ (W2 : World), Hid (At x q w0 (s.tl.need 1) W2) → Hid (Own W2 B 58 6 refL a2 c2 X.colors) → B ≤ W2.heap.size → Calls Tryz.prog 55 #[.pointer (some ⟨q, 0, none⟩), .slice a2 X.colors.length c2, .int .i64 64, .func (.func 56) #[.pointer (some ⟨q, 0, none⟩)] #[]] W2 fun e w' => ∃ (y : PP.Ref) (ad' : Option Addr) (cap' : Nat), e = .returned (.slice ad' (X.colors.length + 1) cap') ∧ Hid (Own w' B 58 6 refL ad' cap' (X.colors ++ [y])) ∧ y = (PP.named ((s.tl.need 1).more 64 X.colors.length)).1 ∧ Hid (At x q w0 (PP.named ((s.tl.need 1).more 64 X.colors.length)).2 w') ∧ Hid (Kt 58 W2 w')) := fun W2 H2 HO2 hB2 => by
        exact moreNamed_any 64 X.colors a2 c2 H2 HO2 (by omega) (by omega) hB2 (by omega) (fun w1 W1 s1 h => (named_any h).mono fun e w' ⟨h1, h2⟩ => ⟨_, h1, rfl, h2⟩)
      go_enter Tryz.func29, Tryz.ntmps29
      go_wp2_with (first
        | go_at_call 55
          refine (km.out _ (At.onto HM.out H2) S2.out.o2 (Nat.le_trans hBW (At.size H2))).mono ?_
          rintro e w3 ⟨y, ad3, cap3, rfl, HO3, hy, H3, HK3⟩
          have HY := hid'' hy
          have B3 := S2.out.blk.kt HK3.out
          have l3 := B3.lt
          have n3 := B3.some (j := 4) (by simp)
          have y3 := B3.frozen 4
          clear hy
        | (go_at_call 52; refine (need_any 1 G2).mono ?_; rintro e w2 ⟨rfl, H2⟩; have S2 := hid'' (hH.out _ _ H2); have l2 := S2.out.blk.lt; have m2 := S2.out.blk.cell 4; simp only [List.getElem?_toArray, List.getElem?_cons_succ, List.getElem?_cons_zero] at m2)
        | (go_at_call 28; refine (k2.out _ G1).mono ?_; rintro e v2 ⟨rfl, G2⟩)
        | (go_at_call 28; refine (k1.out _ HN).mono ?_; rintro e v1 ⟨rfl, G1⟩))
      go_end0
      have R3 := At.row H3 B3 (by decide) hqb h0 4 [.slice ad3 (X.colors.length + 1) cap3]
      have KB := Kt.row B3 4 [.slice ad3 (X.colors.length + 1) cap3]
      refine ⟨rfl, R3, ?_⟩
      refine ⟨hs, hc, a1, ad3, a3, a4, c1, cap3, c3, c4, ?_⟩
      have bl : Blk (setRow w3 b 4 [.slice ad3 (X.colors.length + 1) cap3]) b 35 #[.int .i64 (X.w : Nat), .int .i64 (X.h : Nat), .int .i64 (X.scale : Nat), .slice a1 X.consts.length c1, .slice ad3 (X.colors.length + 1) cap3, .slice a3 X.shapes.length c3, .slice a4 X.cmds.length c4] := Blk.row [.slice ad3 (X.colors.length + 1) cap3] 4 _ _ B3
      refine ⟨by simp only [List.length_append, List.length_singleton]; exact bl, (S2.out.o1.kt HK3.out (by decide) (by decide)).setLow (p := ⟨b, 4, none⟩) hbB _, by rw [← HY.out]; exact HO3.out.setLow (p := ⟨b, 4, none⟩) hbB _, (S2.out.o3.kt HK3.out (by decide) (by decide)).setLow (p := ⟨b, 4, none⟩) hbB _, (S2.out.o4.kt HK3.out (by decide) (by decide)).setLow (p := ⟨b, 4, none⟩) hbB _, S2.out.e3, S2.out.e4, fun p hp => ((S2.out.k3 p hp).kt HK3.out).kt (t := 35) KB, fun p hp => ((S2.out.k4 p hp).kt HK3.out).kt (t := 35) KB⟩
    | false =>
      have k2 : Hid (∀ W2, Hid (At x q W s W2) → Calls Tryz.prog 28 #[.pointer (some ⟨q, 0, none⟩), .string ⟨#[99, 111, 108, 111, 114]⟩] W2 fun e w' => e = .returned (.bool false) ∧ Hid (At x q W s w')) := k2
      rw [if_neg (by simp)]
      cases t3 with
      | true =>
        have k3 : Hid (∀ W2, Hid (At x q W s W2) → Calls Tryz.prog 28 #[.pointer (some ⟨q, 0, none⟩), .string ⟨#[115, 104, 97, 112, 101]⟩] W2 fun e w' => e = .returned (.bool true) ∧ Hid (At x q W s.tl w')) := k3
        rw [if_pos rfl]
        have km : Hid (∀ (W2 : World), Hid (At x q w0 (s.tl.need 1) W2) → Hid (Own W2 B 62 3 shapeL a3 c3 hs) → B ≤ W2.heap.size → Calls Tryz.prog 57 #[.pointer (some ⟨q, 0, none⟩), .slice a3 X.shapes.length c3, .int .i64 64, .func (.func 58) #[.pointer (some ⟨q, 0, none⟩)] #[]] W2 fun e w' => ∃ (y : PP.Shape × Value) (ad' : Option Addr) (cap' : Nat), e = .returned (.slice ad' (X.shapes.length + 1) cap') ∧ Hid (Own w' B 62 3 shapeL ad' cap' (hs ++ [y])) ∧ y.1 = (PP.shape ((s.tl.need 1).more 64 X.shapes.length)).1 ∧ Hid (At x q w0 (PP.shape ((s.tl.need 1).more 64 X.shapes.length)).2 w') ∧ Hid (Kt 62 W2 w') ∧ ShapeOk w' y) := fun W2 H2 HO2 hB2 => by
          have hL : hs.length = X.shapes.length := by rw [← HS.e3, List.length_map]
          have := moreShape_any 64 hs a3 c3 H2 HO2 (by omega) (by omega) hB2 (by rw [hL]; omega) (fun w1 W1 s1 h => shape_any h)
          rw [hL] at this
          exact this
        go_enter Tryz.func29, Tryz.ntmps29
        go_wp2_with (first
          | go_at_call 57
            refine (km.out _ (At.onto HM.out H2) S2.out.o3 (Nat.le_trans hBW (At.size H2))).mono ?_
            rintro e w3 ⟨y, ad3, cap3, rfl, HO3, hy, H3, HK3, hok⟩
            have HY := hid'' hy
            have B3 := S2.out.blk.kt HK3.out
            have l3 := B3.lt
            have n3 := B3.some (j := 5) (by simp)
            have y3 := B3.frozen 5
            have HOK := hid'' hok
            clear hy hok
          | (go_at_call 52; refine (need_any 1 G3).mono ?_; rintro e w2 ⟨rfl, H2⟩; have S2 := hid'' (hH.out _ _ H2); have l2 := S2.out.blk.lt; have m2 := S2.out.blk.cell 5; simp only [List.getElem?_toArray, List.getElem?_cons_succ, List.getElem?_cons_zero] at m2)
          | (go_at_call 28; refine (k3.out _ G2).mono ?_; rintro e v3 ⟨rfl, G3⟩)
          | (go_at_call 28; refine (k2.out _ G1).mono ?_; rintro e v2 ⟨rfl, G2⟩)
          | (go_at_call 28; refine (k1.out _ HN).mono ?_; rintro e v1 ⟨rfl, G1⟩))
        go_end0
        have R3 := At.row H3 B3 (by decide) hqb h0 5 [.slice ad3 (X.shapes.length + 1) cap3]
        have KB := Kt.row B3 5 [.slice ad3 (X.shapes.length + 1) cap3]
        refine ⟨rfl, R3, ?_⟩
        refine ⟨hs ++ [y], hc, a1, a2, ad3, a4, c1, c2, cap3, c4, ?_⟩
        have bl : Blk (setRow w3 b 5 [.slice ad3 (X.shapes.length + 1) cap3]) b 35 #[.int .i64 (X.w : Nat), .int .i64 (X.h : Nat), .int .i64 (X.scale : Nat), .slice a1 X.consts.length c1, .slice a2 X.colors.length c2, .slice ad3 (X.shapes.length + 1) cap3, .slice a4 X.cmds.length c4] := Blk.row [.slice ad3 (X.shapes.length + 1) cap3] 5 _ _ B3
        refine ⟨by simp only [List.length_append, List.length_singleton]; exact bl, (S2.out.o1.kt HK3.out (by decide) (by decide)).setLow (p := ⟨b, 5, none⟩) hbB _, (S2.out.o2.kt HK3.out (by decide) (by decide)).setLow (p := ⟨b, 5, none⟩) hbB _, HO3.out.setLow (p := ⟨b, 5, none⟩) hbB _, (S2.out.o4.kt HK3.out (by decide) (by decide)).setLow (p := ⟨b, 5, none⟩) hbB _, by rw [List.map_append, List.map_singleton, S2.out.e3, HY.out], S2.out.e4, fun p hp => by
            rcases List.mem_append.1 hp with hp | hp
            · exact ((S2.out.k3 p hp).kt HK3.out).kt (t := 35) KB
            · rw [List.mem_singleton.1 hp]; exact HOK.out.kt (t := 35) KB, fun p hp => ((S2.out.k4 p hp).kt HK3.out).kt (t := 35) KB⟩
      | false =>
        have k3 : Hid (∀ W2, Hid (At x q W s W2) → Calls Tryz.prog 28 #[.pointer (some ⟨q, 0, none⟩), .string ⟨#[115, 104, 97, 112, 101]⟩] W2 fun e w' => e = .returned (.bool false) ∧ Hid (At x q W s w')) := k3
        rw [if_neg (by simp)]
        cases t4 with
        | true =>
          rw [if_pos (by simp)]
          have km : Hid (∀ (W2 : World), Hid (At x q w0 s W2) → Hid (Own W2 B 71 32 cmdL a4 c4 hc) → B ≤ W2.heap.size → Calls Tryz.prog 59 #[.pointer (some ⟨q, 0, none⟩), .slice a4 X.cmds.length c4, .int .i64 200, .func (.func 60) #[.pointer (some ⟨q, 0, none⟩)] #[]] W2 fun e w' => ∃ (y : PP.Cmd × Value) (ad' : Option Addr) (cap' : Nat), e = .returned (.slice ad' (X.cmds.length + 1) cap') ∧ Hid (Own w' B 71 32 cmdL ad' cap' (hc ++ [y])) ∧ y.1 = (PP.cmd (s.more 200 X.cmds.length)).1 ∧ Hid (At x q w0 (PP.cmd (s.more 200 X.cmds.length)).2 w') ∧ Hid (Kt 71 W2 w') ∧ CmdOk w' y) := fun W2 H2 HO2 hB2 => by
            have hL : hc.length = X.cmds.length := by rw [← HS.e4, List.length_map]
            have := moreCmd_any 200 hc a4 c4 H2 HO2 (by omega) (by omega) hB2 (by rw [hL]; omega) (fun w1 W1 s1 h => cmd_any h)
            rw [hL] at this
            exact this
          go_enter Tryz.func29, Tryz.ntmps29
          go_wp2_with (first
            | go_at_call 59
              refine (km.out _ (At.onto HM.out H2) S2.out.o4 (Nat.le_trans hBW (At.size H2))).mono ?_
              rintro e w3 ⟨y, ad3, cap3, rfl, HO3, hy, H3, HK3, hok⟩
              have HY := hid'' hy
              have B3 := S2.out.blk.kt HK3.out
              have l3 := B3.lt
              have n3 := B3.some (j := 6) (by simp)
              have y3 := B3.frozen 6
              have HOK := hid'' hok
              clear hy hok
            | (go_at_call 51; refine (k4.out _ G3).mono ?_; rintro e v4 ⟨rfl, H2⟩; have S2 := hid'' (hH.out _ _ H2); have l2 := S2.out.blk.lt; have m2 := S2.out.blk.cell 6; simp only [List.getElem?_toArray, List.getElem?_cons_succ, List.getElem?_cons_zero] at m2)
            | (go_at_call 28; refine (k3.out _ G2).mono ?_; rintro e v3 ⟨rfl, G3⟩)
            | (go_at_call 28; refine (k2.out _ G1).mono ?_; rintro e v2 ⟨rfl, G2⟩)
            | (go_at_call 28; refine (k1.out _ HN).mono ?_; rintro e v1 ⟨rfl, G1⟩))
          go_end0
          have R3 := At.row H3 B3 (by decide) hqb h0 6 [.slice ad3 (X.cmds.length + 1) cap3]
          have KB := Kt.row B3 6 [.slice ad3 (X.cmds.length + 1) cap3]
          refine ⟨rfl, R3, ?_⟩
          refine ⟨hs, hc ++ [y], a1, a2, a3, ad3, c1, c2, c3, cap3, ?_⟩
          have bl : Blk (setRow w3 b 6 [.slice ad3 (X.cmds.length + 1) cap3]) b 35 #[.int .i64 (X.w : Nat), .int .i64 (X.h : Nat), .int .i64 (X.scale : Nat), .slice a1 X.consts.length c1, .slice a2 X.colors.length c2, .slice a3 X.shapes.length c3, .slice ad3 (X.cmds.length + 1) cap3] := Blk.row [.slice ad3 (X.cmds.length + 1) cap3] 6 _ _ B3
          refine ⟨by simp only [List.length_append, List.length_singleton]; exact bl, (S2.out.o1.kt HK3.out (by decide) (by decide)).setLow (p := ⟨b, 6, none⟩) hbB _, (S2.out.o2.kt HK3.out (by decide) (by decide)).setLow (p := ⟨b, 6, none⟩) hbB _, (S2.out.o3.kt HK3.out (by decide) (by decide)).setLow (p := ⟨b, 6, none⟩) hbB _, HO3.out.setLow (p := ⟨b, 6, none⟩) hbB _, S2.out.e3, by rw [List.map_append, List.map_singleton, S2.out.e4, HY.out], fun p hp => ((S2.out.k3 p hp).kt HK3.out).kt (t := 35) KB, fun p hp => by
              rcases List.mem_append.1 hp with hp | hp
              · exact ((S2.out.k4 p hp).kt HK3.out).kt (t := 35) KB
              · rw [List.mem_singleton.1 hp]; exact HOK.out.kt (t := 35) KB⟩
        | false =>
          cases t5 with
          | true =>
            rw [if_pos (by simp)]
            have km : Hid (∀ (W2 : World), Hid (At x q w0 s W2) → Hid (Own W2 B 71 32 cmdL a4 c4 hc) → B ≤ W2.heap.size → Calls Tryz.prog 59 #[.pointer (some ⟨q, 0, none⟩), .slice a4 X.cmds.length c4, .int .i64 200, .func (.func 60) #[.pointer (some ⟨q, 0, none⟩)] #[]] W2 fun e w' => ∃ (y : PP.Cmd × Value) (ad' : Option Addr) (cap' : Nat), e = .returned (.slice ad' (X.cmds.length + 1) cap') ∧ Hid (Own w' B 71 32 cmdL ad' cap' (hc ++ [y])) ∧ y.1 = (PP.cmd (s.more 200 X.cmds.length)).1 ∧ Hid (At x q w0 (PP.cmd (s.more 200 X.cmds.length)).2 w') ∧ Hid (Kt 71 W2 w') ∧ CmdOk w' y) := fun W2 H2 HO2 hB2 => by
              have hL : hc.length = X.cmds.length := by rw [← HS.e4, List.length_map]
              have := moreCmd_any 200 hc a4 c4 H2 HO2 (by omega) (by omega) hB2 (by rw [hL]; omega) (fun w1 W1 s1 h => cmd_any h)
              rw [hL] at this
              exact this
            go_enter Tryz.func29, Tryz.ntmps29
            go_wp2_with (first
              | go_at_call 59
                refine (km.out _ (At.onto HM.out H2) S2.out.o4 (Nat.le_trans hBW (At.size H2))).mono ?_
                rintro e w3 ⟨y, ad3, cap3, rfl, HO3, hy, H3, HK3, hok⟩
                have HY := hid'' hy
                have B3 := S2.out.blk.kt HK3.out
                have l3 := B3.lt
                have n3 := B3.some (j := 6) (by simp)
                have y3 := B3.frozen 6
                have HOK := hid'' hok
                clear hy hok
              | (go_at_call 51; refine (k5.out _ G4).mono ?_; rintro e v5 ⟨rfl, H2⟩; have S2 := hid'' (hH.out _ _ H2); have l2 := S2.out.blk.lt; have m2 := S2.out.blk.cell 6; simp only [List.getElem?_toArray, List.getElem?_cons_succ, List.getElem?_cons_zero] at m2)
              | (go_at_call 51; refine (k4.out _ G3).mono ?_; rintro e v4 ⟨rfl, G4⟩)
              | (go_at_call 28; refine (k3.out _ G2).mono ?_; rintro e v3 ⟨rfl, G3⟩)
              | (go_at_call 28; refine (k2.out _ G1).mono ?_; rintro e v2 ⟨rfl, G2⟩)
              | (go_at_call 28; refine (k1.out _ HN).mono ?_; rintro e v1 ⟨rfl, G1⟩))
            go_end0
            have R3 := At.row H3 B3 (by decide) hqb h0 6 [.slice ad3 (X.cmds.length + 1) cap3]
            have KB := Kt.row B3 6 [.slice ad3 (X.cmds.length + 1) cap3]
            refine ⟨rfl, R3, ?_⟩
            refine ⟨hs, hc ++ [y], a1, a2, a3, ad3, c1, c2, c3, cap3, ?_⟩
            have bl : Blk (setRow w3 b 6 [.slice ad3 (X.cmds.length + 1) cap3]) b 35 #[.int .i64 (X.w : Nat), .int .i64 (X.h : Nat), .int .i64 (X.scale : Nat), .slice a1 X.consts.length c1, .slice a2 X.colors.length c2, .slice a3 X.shapes.length c3, .slice ad3 (X.cmds.length + 1) cap3] := Blk.row [.slice ad3 (X.cmds.length + 1) cap3] 6 _ _ B3
            refine ⟨by simp only [List.length_append, List.length_singleton]; exact bl, (S2.out.o1.kt HK3.out (by decide) (by decide)).setLow (p := ⟨b, 6, none⟩) hbB _, (S2.out.o2.kt HK3.out (by decide) (by decide)).setLow (p := ⟨b, 6, none⟩) hbB _, (S2.out.o3.kt HK3.out (by decide) (by decide)).setLow (p := ⟨b, 6, none⟩) hbB _, HO3.out.setLow (p := ⟨b, 6, none⟩) hbB _, S2.out.e3, by rw [List.map_append, List.map_singleton, S2.out.e4, HY.out], fun p hp => ((S2.out.k3 p hp).kt HK3.out).kt (t := 35) KB, fun p hp => by
                rcases List.mem_append.1 hp with hp | hp
                · exact ((S2.out.k4 p hp).kt HK3.out).kt (t := 35) KB
                · rw [List.mem_singleton.1 hp]; exact HOK.out.kt (t := 35) KB⟩
          | false =>
            rw [if_neg (by simp)]
            go_enter Tryz.func29, Tryz.ntmps29
            go_wp2_with (first
              | (go_at_call 47; refine (fail0_any G5).mono ?_; rintro e w6 ⟨rfl, H6⟩)
              | (go_at_call 51; refine (k5.out _ G4).mono ?_; rintro e v5 ⟨rfl, G5⟩; obtain ⟨d1, d2, d3, d4, d5⟩ := At.errs G5)
              | (go_at_call 51; refine (k4.out _ G3).mono ?_; rintro e v4 ⟨rfl, G4⟩)
              | (go_at_call 28; refine (k3.out _ G2).mono ?_; rintro e v3 ⟨rfl, G3⟩)
              | (go_at_call 28; refine (k2.out _ G1).mono ?_; rintro e v2 ⟨rfl, G2⟩)
              | (go_at_call 28; refine (k1.out _ HN).mono ?_; rintro e v1 ⟨rfl, G1⟩))
            go_end0
            exact ⟨rfl, At.onto HM.out H6, ⟨_, _, _, _, _, _, _, _, _, _, hH.out _ _ H6⟩⟩

end Go.Proofs.YtenmkopiddmieabGreatDoor

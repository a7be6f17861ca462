/-
  So many names, commands, items may be, and no more; the one that is too many is told: walked over the program.
-/
import Derived.Test.YtkhclolhkpkaeaaDoorParseErrWalk
import Derived.Test.YtkhclolhkpkaeaaDoorParseLimPlain
namespace Go.Proofs.YtkhclolhkpkaeaaDoor
open Go.RowKit

set_option maxRecDepth 20000 in
set_option maxHeartbeats 2000000 in
theorem plim0n (A : Nat → Addr) (which : Int) (w : World) (hE : Errs13 w A) (t : Int) (ht : which.tmod 4 = t) (h0 : -3 ≤ t) (h1 : t ≤ 3) (hK : (t + 4).tmod 4 = 0) :
    Calls Tryd.prog 5 #[.int .i64 which, .bool false] w fun e w' => e = .returned (.bool true) ∧ Below w.heap.size w w' := by
  have HE := hid'' hE
  have HP : Hid (ErrP w ⟨A 0, A 5⟩) := ⟨(hE 0 (by omega)).1, (hE 5 (by omega)).1, by have := (hE 12 (by omega)).2.1; simp only [glob] at this; simp at this; omega⟩
  clear hE
  obtain ⟨ws, hws, hwl⟩ := limW_eq limw0n
  have hlw : ¬ ((ws.length : Int) < 64) := by omega
  clear hwl
  have ks : Hid (∀ (S : ByteArray) (W : World), S = ⟨([105, 99, 111, 110, 32, 49, 32, 49, 59] ++ rep [99, 111, 110, 115, 116, 32, 97, 32, 61, 32, 49, 59] 64 []).toArray⟩ → Hid (ErrP W ⟨A 0, A 5⟩) → Calls Tryd.prog 7 #[.string S] W fun e w' => Below W.heap.size W w' ∧ ∃ X : PP.Src, ∃ (a1 a2 a3 a4 : Option Addr) (c1 c2 c3 c4 : Nat), e = .returned (.tuple #[.agg #[.int .i64 (X.w : Nat), .int .i64 (X.h : Nat), .int .i64 (X.scale : Nat), .slice a1 X.consts.length c1, .slice a2 X.colors.length c2, .slice a3 X.shapes.length c3, .slice a4 X.cmds.length c4], .nilIface])) := fun S W hS h => by
    have := src_any S ⟨A 0, A 5⟩ W (by rw [hS, size_mk, liml0n]; omega) h
    rw [hS, mk_data] at this
    rw [hS]
    obtain ⟨X, hX⟩ := limOk_eq lim0n
    rw [hX] at this
    refine this.mono ?_
    rintro e w' ⟨hb, a1, a2, a3, a4, c1, c2, c3, c4, he, -⟩
    exact ⟨hb, X, a1, a2, a3, a4, c1, c2, c3, c4, he⟩
  have kw : Hid (∀ (S : ByteArray) (W : World), S = ⟨([105, 99, 111, 110, 32, 49, 32, 49, 59] ++ rep [99, 111, 110, 115, 116, 32, 97, 32, 61, 32, 49, 59] 64 []).toArray⟩ → Hid (ErrP W ⟨A 0, A 5⟩) → Calls Tryd.prog 10 #[.string S] W fun e w' => ∃ ad cap, e = .returned (.tuple #[.slice ad ws.length cap, .nilIface]) ∧ Below W.heap.size W w') := fun S W hS h => by
    have h2 := split_ok S (A 0) W (by rw [hS, size_mk, liml0n]; omega) h.out.text ws (by rw [hS, mk_data]; exact hws)
    refine h2.mono ?_
    rintro e w' ⟨ad, cap, he, -, hb⟩
    exact ⟨ad, cap, he, hb⟩
  clear hws
  go_enter Tryd.func5, Tryd.ntmps5
  go_wp2_with (first
    | (go_at_call 6; refine (first10_any _ w HP).mono ?_; rintro e w1 ⟨rfl, hb1⟩
       have B1 := hid'' hb1
       clear hb1))
  obtain ⟨W, hW⟩ : ∃ W, ((w1.alloc (.cells #[.string ⟨#[99, 111, 110, 115, 116, 32, 97, 32, 61, 32, 49, 59]⟩, .string ⟨#[115, 104, 97, 112, 101, 32, 97, 32, 123, 32, 125]⟩, .string ⟨#[102, 105, 108, 108, 32, 101, 118, 101, 110, 111, 100, 100, 32, 35, 48, 48, 48, 48, 48, 48, 32, 123, 32, 125]⟩, .string ⟨#[112, 97, 116, 104, 32, 77, 32, 49, 32, 49, 59]⟩] 9)).alloc (.cells #[.int .i64 64, .int .i64 64, .int .i64 200, .int .i64 400] 3)).alloc (.cells #[.int .i64 6, .int .i64 6, .int .i64 0, .int .i64 0] 3) = W := ⟨_, rfl⟩
  have BW : Hid (Below w.heap.size w W) := by
    rw [← hW]
    have b1 := B1.out.alloc B1.out.size (.cells #[.string ⟨#[99, 111, 110, 115, 116, 32, 97, 32, 61, 32, 49, 59]⟩, .string ⟨#[115, 104, 97, 112, 101, 32, 97, 32, 123, 32, 125]⟩, .string ⟨#[102, 105, 108, 108, 32, 101, 118, 101, 110, 111, 100, 100, 32, 35, 48, 48, 48, 48, 48, 48, 32, 123, 32, 125]⟩, .string ⟨#[112, 97, 116, 104, 32, 77, 32, 49, 32, 49, 59]⟩] 9)
    have b2 := b1.alloc b1.size (.cells #[.int .i64 64, .int .i64 64, .int .i64 200, .int .i64 400] 3)
    exact b2.alloc b2.size _
  rw [hW]
  clear hW B1
  have HPW : Hid (ErrP W ⟨A 0, A 5⟩) := HP.out.below BW.out
  go_loop [9, 11] (fun v i => ∃ (j : Nat) (S : ByteArray), j ≤ 64 ∧ v = .string S ∧ i = .int .i64 j ∧ Hid (S = ⟨([105, 99, 111, 110, 32, 49, 32, 49, 59] ++ rep [99, 111, 110, 115, 116, 32, 97, 32, 61, 32, 49, 59] j []).toArray⟩) ∧ S.size = 9 + 12 * j) (fun _ i => 64 - (intOf i).toNat)
  case atStart => exact ⟨0, _, Nat.zero_le _, rfl, rfl, by show _ = _; rfl, by rfl⟩
  case round =>
    obtain ⟨j, S, hj, rfl, rfl, HS, hSz⟩ := hrel
    by_cases hjn : j < 64
    · go_wp2
      go_round
      case rel => exact ⟨j + 1, _, by omega, rfl, by go_num, by show _ = _; rw [HS.out, show (⟨#[99, 111, 110, 115, 116, 32, 97, 32, 61, 32, 49, 59]⟩ : ByteArray) = ⟨([99, 111, 110, 115, 116, 32, 97, 32, 61, 32, 49, 59] : List UInt8).toArray⟩ from rfl, cat_any, rep_more], by rw [ByteArray.size_append, hSz]; show _ + 12 = _; omega⟩
      case measure => simp [intOf]; omega
    · obtain rfl : j = 64 := by omega
      have e1 : S = ⟨([105, 99, 111, 110, 32, 49, 32, 49, 59] ++ rep [99, 111, 110, 115, 116, 32, 97, 32, 61, 32, 49, 59] 64 []).toArray⟩ := by
        rw [HS.out]
      have k1 := hid'' (ks.out _ W e1 HPW)
      have k2 : Hid (∀ W', Hid (ErrP W' ⟨A 0, A 5⟩) → Calls Tryd.prog 10 #[.string (S)] W' fun e w' => ∃ ad cap, e = .returned (.tuple #[.slice ad ws.length cap, .nilIface]) ∧ Below W'.heap.size W' w') := fun W' h => kw.out _ W' e1 h
      clear e1 ks kw hj hjn HS
      go_wp2_with (first
        | (go_at_call 7; refine k1.out.mono ?_; rintro e w2 ⟨hb2, X, a1, a2, a3, a4, c1, c2, c3, c4, rfl⟩
           have B2 : Hid (Below w.heap.size w w2) := chain BW.out hb2
           clear hb2)
        | (go_at_call 10; refine (k2.out _ (HP.out.below (B2.out.alloc B2.out.size _))).mono ?_; rintro e w3 ⟨ad, cap, rfl, hb3⟩
           have B3 : Hid (Below w.heap.size w w3) := chain (B2.out.alloc B2.out.size _) hb3
           clear hb3))
      go_ret
      exact ⟨rfl, B3.out⟩

set_option maxRecDepth 20000 in
set_option maxHeartbeats 2000000 in
theorem plim0o (A : Nat → Addr) (which : Int) (w : World) (hE : Errs13 w A) (t : Int) (ht : which.tmod 4 = t) (h0 : -3 ≤ t) (h1 : t ≤ 3) (hK : (t + 4).tmod 4 = 0) :
    Calls Tryd.prog 5 #[.int .i64 which, .bool true] w fun e w' => e = .returned (.bool true) ∧ Below w.heap.size w w' := by
  have HE := hid'' hE
  have HP : Hid (ErrP w ⟨A 0, A 5⟩) := ⟨(hE 0 (by omega)).1, (hE 5 (by omega)).1, by have := (hE 12 (by omega)).2.1; simp only [glob] at this; simp at this; omega⟩
  clear hE
  obtain ⟨ws, hws, hwl⟩ := limW_eq limw0o
  have hlw : ¬ ((ws.length : Int) < 64) := by omega
  clear hwl
  have ks : Hid (∀ (S : ByteArray) (W : World), S = ⟨([105, 99, 111, 110, 32, 49, 32, 49, 59] ++ rep [99, 111, 110, 115, 116, 32, 97, 32, 61, 32, 49, 59] 65 []).toArray⟩ → Hid (ErrP W ⟨A 0, A 5⟩) → Calls Tryd.prog 7 #[.string S] W fun e w' => Below W.heap.size W w' ∧ ∃ g, e = .returned (.tuple #[.agg #[.int .i64 0, .int .i64 0, .int .i64 0, .slice none 0 0, .slice none 0 0, .slice none 0 0, .slice none 0 0], .iface 74 (.pointer (some ⟨g, 0, none⟩))]) ∧ Blk w' g 76 #[.int .i64 783, .iface 146 (.pointer (some (A 5)))]) := fun S W hS h => by
    have := src_any S ⟨A 0, A 5⟩ W (by rw [hS, size_mk, liml0o]; omega) h
    rw [hS, mk_data] at this
    rw [hS]
    rw [limErr_eq lim0o] at this
    exact this
  have kw : Hid (∀ (S : ByteArray) (W : World), S = ⟨([105, 99, 111, 110, 32, 49, 32, 49, 59] ++ rep [99, 111, 110, 115, 116, 32, 97, 32, 61, 32, 49, 59] 65 []).toArray⟩ → Hid (ErrP W ⟨A 0, A 5⟩) → Calls Tryd.prog 10 #[.string S] W fun e w' => ∃ ad cap, e = .returned (.tuple #[.slice ad ws.length cap, .nilIface]) ∧ Below W.heap.size W w') := fun S W hS h => by
    have h2 := split_ok S (A 0) W (by rw [hS, size_mk, liml0o]; omega) h.out.text ws (by rw [hS, mk_data]; exact hws)
    refine h2.mono ?_
    rintro e w' ⟨ad, cap, he, -, hb⟩
    exact ⟨ad, cap, he, hb⟩
  clear hws
  go_enter Tryd.func5, Tryd.ntmps5
  go_wp2_with (first
    | (go_at_call 6; refine (first10_any _ w HP).mono ?_; rintro e w1 ⟨rfl, hb1⟩
       have B1 := hid'' hb1
       clear hb1))
  obtain ⟨W, hW⟩ : ∃ W, ((w1.alloc (.cells #[.string ⟨#[99, 111, 110, 115, 116, 32, 97, 32, 61, 32, 49, 59]⟩, .string ⟨#[115, 104, 97, 112, 101, 32, 97, 32, 123, 32, 125]⟩, .string ⟨#[102, 105, 108, 108, 32, 101, 118, 101, 110, 111, 100, 100, 32, 35, 48, 48, 48, 48, 48, 48, 32, 123, 32, 125]⟩, .string ⟨#[112, 97, 116, 104, 32, 77, 32, 49, 32, 49, 59]⟩] 9)).alloc (.cells #[.int .i64 64, .int .i64 64, .int .i64 200, .int .i64 400] 3)).alloc (.cells #[.int .i64 6, .int .i64 6, .int .i64 0, .int .i64 0] 3) = W := ⟨_, rfl⟩
  have BW : Hid (Below w.heap.size w W) := by
    rw [← hW]
    have b1 := B1.out.alloc B1.out.size (.cells #[.string ⟨#[99, 111, 110, 115, 116, 32, 97, 32, 61, 32, 49, 59]⟩, .string ⟨#[115, 104, 97, 112, 101, 32, 97, 32, 123, 32, 125]⟩, .string ⟨#[102, 105, 108, 108, 32, 101, 118, 101, 110, 111, 100, 100, 32, 35, 48, 48, 48, 48, 48, 48, 32, 123, 32, 125]⟩, .string ⟨#[112, 97, 116, 104, 32, 77, 32, 49, 32, 49, 59]⟩] 9)
    have b2 := b1.alloc b1.size (.cells #[.int .i64 64, .int .i64 64, .int .i64 200, .int .i64 400] 3)
    exact b2.alloc b2.size _
  rw [hW]
  clear hW B1
  have HPW : Hid (ErrP W ⟨A 0, A 5⟩) := HP.out.below BW.out
  go_loop [9, 11] (fun v i => ∃ (j : Nat) (S : ByteArray), j ≤ 64 ∧ v = .string S ∧ i = .int .i64 j ∧ Hid (S = ⟨([105, 99, 111, 110, 32, 49, 32, 49, 59] ++ rep [99, 111, 110, 115, 116, 32, 97, 32, 61, 32, 49, 59] j []).toArray⟩) ∧ S.size = 9 + 12 * j) (fun _ i => 64 - (intOf i).toNat)
  case atStart => exact ⟨0, _, Nat.zero_le _, rfl, rfl, by show _ = _; rfl, by rfl⟩
  case round =>
    obtain ⟨j, S, hj, rfl, rfl, HS, hSz⟩ := hrel
    by_cases hjn : j < 64
    · go_wp2
      go_round
      case rel => exact ⟨j + 1, _, by omega, rfl, by go_num, by show _ = _; rw [HS.out, show (⟨#[99, 111, 110, 115, 116, 32, 97, 32, 61, 32, 49, 59]⟩ : ByteArray) = ⟨([99, 111, 110, 115, 116, 32, 97, 32, 61, 32, 49, 59] : List UInt8).toArray⟩ from rfl, cat_any, rep_more], by rw [ByteArray.size_append, hSz]; show _ + 12 = _; omega⟩
      case measure => simp [intOf]; omega
    · obtain rfl : j = 64 := by omega
      have e1 : S ++ ⟨#[99, 111, 110, 115, 116, 32, 97, 32, 61, 32, 49, 59]⟩ = ⟨([105, 99, 111, 110, 32, 49, 32, 49, 59] ++ rep [99, 111, 110, 115, 116, 32, 97, 32, 61, 32, 49, 59] 65 []).toArray⟩ := by
        rw [HS.out, show (⟨#[99, 111, 110, 115, 116, 32, 97, 32, 61, 32, 49, 59]⟩ : ByteArray) = ⟨([99, 111, 110, 115, 116, 32, 97, 32, 61, 32, 49, 59] : List UInt8).toArray⟩ from rfl, cat_any, rep_more]
      have k1 := hid'' (ks.out _ W e1 HPW)
      have k2 : Hid (∀ W', Hid (ErrP W' ⟨A 0, A 5⟩) → Calls Tryd.prog 10 #[.string (S ++ ⟨#[99, 111, 110, 115, 116, 32, 97, 32, 61, 32, 49, 59]⟩)] W' fun e w' => ∃ ad cap, e = .returned (.tuple #[.slice ad ws.length cap, .nilIface]) ∧ Below W'.heap.size W' w') := fun W' h => kw.out _ W' e1 h
      clear e1 ks kw hj hjn HS
      go_wp2_with (first
        | (go_at_call 7; refine k1.out.mono ?_; rintro e w2 ⟨hb2, g2, rfl, hg2⟩
           have B2 : Hid (Below w.heap.size w w2) := chain BW.out hb2
           have B2' : Hid (Below w.heap.size w (w2.alloc (.cells #[.int .i64 0, .int .i64 0, .int .i64 0, .slice none 0 0, .slice none 0 0, .slice none 0 0, .slice none 0 0] 30))) := B2.out.alloc B2.out.size _
           have G2 : Hid (Blk (w2.alloc (.cells #[.int .i64 0, .int .i64 0, .int .i64 0, .slice none 0 0, .slice none 0 0, .slice none 0 0, .slice none 0 0] 30)) g2 76 #[.int .i64 783, .iface 146 (.pointer (some (A 5)))]) := Blk.alloc hg2 _
           clear hb2 hg2)
        | (go_at_call 10; refine (k2.out _ (HP.out.below B2'.out)).mono ?_; rintro e w3 ⟨ad, cap, rfl, hb3⟩
           have B3 : Hid (Below w.heap.size w w3) := chain B2'.out hb3
           have G3 : Hid (Blk w3 g2 76 #[.int .i64 783, .iface 146 (.pointer (some (A 5)))]) := G2.out.below hb3 G2.out.lt
           clear hb3)
        | (go_at_call 9; refine (placed_any 106 783 _ (by decide)).mono ?_; rintro e w5 ⟨rfl, hb5⟩
           have B5 : Hid (Below w.heap.size w w5) := chain B3.out hb5
           have G5 : Hid (Blk w5 g2 76 #[.int .i64 783, .iface 146 (.pointer (some (A 5)))]) := G3.out.below hb5 G3.out.lt
           clear hb5)
        | (go_at_call 8; refine (same_at A w5 (HE.out.below B5.out) 5 (by decide) (A 5) rfl g2 783 106 rfl G5.out).mono ?_; rintro e w6 ⟨rfl, hb6⟩
           have B6 : Hid (Below w.heap.size w w6) := chain B5.out hb6
           clear hb6))
      go_ret
      exact ⟨rfl, B6.out⟩

set_option maxRecDepth 20000 in
set_option maxHeartbeats 2000000 in
theorem plim1n (A : Nat → Addr) (which : Int) (w : World) (hE : Errs13 w A) (t : Int) (ht : which.tmod 4 = t) (h0 : -3 ≤ t) (h1 : t ≤ 3) (hK : (t + 4).tmod 4 = 1) :
    Calls Tryd.prog 5 #[.int .i64 which, .bool false] w fun e w' => e = .returned (.bool true) ∧ Below w.heap.size w w' := by
  have HE := hid'' hE
  have HP : Hid (ErrP w ⟨A 0, A 5⟩) := ⟨(hE 0 (by omega)).1, (hE 5 (by omega)).1, by have := (hE 12 (by omega)).2.1; simp only [glob] at this; simp at this; omega⟩
  clear hE
  obtain ⟨ws, hws, hwl⟩ := limW_eq limw1n
  have hlw : ¬ ((ws.length : Int) < 64) := by omega
  clear hwl
  have ks : Hid (∀ (S : ByteArray) (W : World), S = ⟨([105, 99, 111, 110, 32, 49, 32, 49, 59] ++ rep [115, 104, 97, 112, 101, 32, 97, 32, 123, 32, 125] 64 []).toArray⟩ → Hid (ErrP W ⟨A 0, A 5⟩) → Calls Tryd.prog 7 #[.string S] W fun e w' => Below W.heap.size W w' ∧ ∃ X : PP.Src, ∃ (a1 a2 a3 a4 : Option Addr) (c1 c2 c3 c4 : Nat), e = .returned (.tuple #[.agg #[.int .i64 (X.w : Nat), .int .i64 (X.h : Nat), .int .i64 (X.scale : Nat), .slice a1 X.consts.length c1, .slice a2 X.colors.length c2, .slice a3 X.shapes.length c3, .slice a4 X.cmds.length c4], .nilIface])) := fun S W hS h => by
    have := src_any S ⟨A 0, A 5⟩ W (by rw [hS, size_mk, liml1n]; omega) h
    rw [hS, mk_data] at this
    rw [hS]
    obtain ⟨X, hX⟩ := limOk_eq lim1n
    rw [hX] at this
    refine this.mono ?_
    rintro e w' ⟨hb, a1, a2, a3, a4, c1, c2, c3, c4, he, -⟩
    exact ⟨hb, X, a1, a2, a3, a4, c1, c2, c3, c4, he⟩
  have kw : Hid (∀ (S : ByteArray) (W : World), S = ⟨([105, 99, 111, 110, 32, 49, 32, 49, 59] ++ rep [115, 104, 97, 112, 101, 32, 97, 32, 123, 32, 125] 64 []).toArray⟩ → Hid (ErrP W ⟨A 0, A 5⟩) → Calls Tryd.prog 10 #[.string S] W fun e w' => ∃ ad cap, e = .returned (.tuple #[.slice ad ws.length cap, .nilIface]) ∧ Below W.heap.size W w') := fun S W hS h => by
    have h2 := split_ok S (A 0) W (by rw [hS, size_mk, liml1n]; omega) h.out.text ws (by rw [hS, mk_data]; exact hws)
    refine h2.mono ?_
    rintro e w' ⟨ad, cap, he, -, hb⟩
    exact ⟨ad, cap, he, hb⟩
  clear hws
  go_enter Tryd.func5, Tryd.ntmps5
  go_wp2_with (first
    | (go_at_call 6; refine (first10_any _ w HP).mono ?_; rintro e w1 ⟨rfl, hb1⟩
       have B1 := hid'' hb1
       clear hb1))
  obtain ⟨W, hW⟩ : ∃ W, ((w1.alloc (.cells #[.string ⟨#[99, 111, 110, 115, 116, 32, 97, 32, 61, 32, 49, 59]⟩, .string ⟨#[115, 104, 97, 112, 101, 32, 97, 32, 123, 32, 125]⟩, .string ⟨#[102, 105, 108, 108, 32, 101, 118, 101, 110, 111, 100, 100, 32, 35, 48, 48, 48, 48, 48, 48, 32, 123, 32, 125]⟩, .string ⟨#[112, 97, 116, 104, 32, 77, 32, 49, 32, 49, 59]⟩] 9)).alloc (.cells #[.int .i64 64, .int .i64 64, .int .i64 200, .int .i64 400] 3)).alloc (.cells #[.int .i64 6, .int .i64 6, .int .i64 0, .int .i64 0] 3) = W := ⟨_, rfl⟩
  have BW : Hid (Below w.heap.size w W) := by
    rw [← hW]
    have b1 := B1.out.alloc B1.out.size (.cells #[.string ⟨#[99, 111, 110, 115, 116, 32, 97, 32, 61, 32, 49, 59]⟩, .string ⟨#[115, 104, 97, 112, 101, 32, 97, 32, 123, 32, 125]⟩, .string ⟨#[102, 105, 108, 108, 32, 101, 118, 101, 110, 111, 100, 100, 32, 35, 48, 48, 48, 48, 48, 48, 32, 123, 32, 125]⟩, .string ⟨#[112, 97, 116, 104, 32, 77, 32, 49, 32, 49, 59]⟩] 9)
    have b2 := b1.alloc b1.size (.cells #[.int .i64 64, .int .i64 64, .int .i64 200, .int .i64 400] 3)
    exact b2.alloc b2.size _
  rw [hW]
  clear hW B1
  have HPW : Hid (ErrP W ⟨A 0, A 5⟩) := HP.out.below BW.out
  go_loop [9, 11] (fun v i => ∃ (j : Nat) (S : ByteArray), j ≤ 64 ∧ v = .string S ∧ i = .int .i64 j ∧ Hid (S = ⟨([105, 99, 111, 110, 32, 49, 32, 49, 59] ++ rep [115, 104, 97, 112, 101, 32, 97, 32, 123, 32, 125] j []).toArray⟩) ∧ S.size = 9 + 11 * j) (fun _ i => 64 - (intOf i).toNat)
  case atStart => exact ⟨0, _, Nat.zero_le _, rfl, rfl, by show _ = _; rfl, by rfl⟩
  case round =>
    obtain ⟨j, S, hj, rfl, rfl, HS, hSz⟩ := hrel
    by_cases hjn : j < 64
    · go_wp2
      go_round
      case rel => exact ⟨j + 1, _, by omega, rfl, by go_num, by show _ = _; rw [HS.out, show (⟨#[115, 104, 97, 112, 101, 32, 97, 32, 123, 32, 125]⟩ : ByteArray) = ⟨([115, 104, 97, 112, 101, 32, 97, 32, 123, 32, 125] : List UInt8).toArray⟩ from rfl, cat_any, rep_more], by rw [ByteArray.size_append, hSz]; show _ + 11 = _; omega⟩
      case measure => simp [intOf]; omega
    · obtain rfl : j = 64 := by omega
      have e1 : S = ⟨([105, 99, 111, 110, 32, 49, 32, 49, 59] ++ rep [115, 104, 97, 112, 101, 32, 97, 32, 123, 32, 125] 64 []).toArray⟩ := by
        rw [HS.out]
      have k1 := hid'' (ks.out _ W e1 HPW)
      have k2 : Hid (∀ W', Hid (ErrP W' ⟨A 0, A 5⟩) → Calls Tryd.prog 10 #[.string (S)] W' fun e w' => ∃ ad cap, e = .returned (.tuple #[.slice ad ws.length cap, .nilIface]) ∧ Below W'.heap.size W' w') := fun W' h => kw.out _ W' e1 h
      clear e1 ks kw hj hjn HS
      go_wp2_with (first
        | (go_at_call 7; refine k1.out.mono ?_; rintro e w2 ⟨hb2, X, a1, a2, a3, a4, c1, c2, c3, c4, rfl⟩
           have B2 : Hid (Below w.heap.size w w2) := chain BW.out hb2
           clear hb2)
        | (go_at_call 10; refine (k2.out _ (HP.out.below (B2.out.alloc B2.out.size _))).mono ?_; rintro e w3 ⟨ad, cap, rfl, hb3⟩
           have B3 : Hid (Below w.heap.size w w3) := chain (B2.out.alloc B2.out.size _) hb3
           clear hb3))
      go_ret
      exact ⟨rfl, B3.out⟩

set_option maxRecDepth 20000 in
set_option maxHeartbeats 2000000 in
theorem plim1o (A : Nat → Addr) (which : Int) (w : World) (hE : Errs13 w A) (t : Int) (ht : which.tmod 4 = t) (h0 : -3 ≤ t) (h1 : t ≤ 3) (hK : (t + 4).tmod 4 = 1) :
    Calls Tryd.prog 5 #[.int .i64 which, .bool true] w fun e w' => e = .returned (.bool true) ∧ Below w.heap.size w w' := by
  have HE := hid'' hE
  have HP : Hid (ErrP w ⟨A 0, A 5⟩) := ⟨(hE 0 (by omega)).1, (hE 5 (by omega)).1, by have := (hE 12 (by omega)).2.1; simp only [glob] at this; simp at this; omega⟩
  clear hE
  obtain ⟨ws, hws, hwl⟩ := limW_eq limw1o
  have hlw : ¬ ((ws.length : Int) < 64) := by omega
  clear hwl
  have ks : Hid (∀ (S : ByteArray) (W : World), S = ⟨([105, 99, 111, 110, 32, 49, 32, 49, 59] ++ rep [115, 104, 97, 112, 101, 32, 97, 32, 123, 32, 125] 65 []).toArray⟩ → Hid (ErrP W ⟨A 0, A 5⟩) → Calls Tryd.prog 7 #[.string S] W fun e w' => Below W.heap.size W w' ∧ ∃ g, e = .returned (.tuple #[.agg #[.int .i64 0, .int .i64 0, .int .i64 0, .slice none 0 0, .slice none 0 0, .slice none 0 0, .slice none 0 0], .iface 74 (.pointer (some ⟨g, 0, none⟩))]) ∧ Blk w' g 76 #[.int .i64 719, .iface 146 (.pointer (some (A 5)))]) := fun S W hS h => by
    have := src_any S ⟨A 0, A 5⟩ W (by rw [hS, size_mk, liml1o]; omega) h
    rw [hS, mk_data] at this
    rw [hS]
    rw [limErr_eq lim1o] at this
    exact this
  have kw : Hid (∀ (S : ByteArray) (W : World), S = ⟨([105, 99, 111, 110, 32, 49, 32, 49, 59] ++ rep [115, 104, 97, 112, 101, 32, 97, 32, 123, 32, 125] 65 []).toArray⟩ → Hid (ErrP W ⟨A 0, A 5⟩) → Calls Tryd.prog 10 #[.string S] W fun e w' => ∃ ad cap, e = .returned (.tuple #[.slice ad ws.length cap, .nilIface]) ∧ Below W.heap.size W w') := fun S W hS h => by
    have h2 := split_ok S (A 0) W (by rw [hS, size_mk, liml1o]; omega) h.out.text ws (by rw [hS, mk_data]; exact hws)
    refine h2.mono ?_
    rintro e w' ⟨ad, cap, he, -, hb⟩
    exact ⟨ad, cap, he, hb⟩
  clear hws
  go_enter Tryd.func5, Tryd.ntmps5
  go_wp2_with (first
    | (go_at_call 6; refine (first10_any _ w HP).mono ?_; rintro e w1 ⟨rfl, hb1⟩
       have B1 := hid'' hb1
       clear hb1))
  obtain ⟨W, hW⟩ : ∃ W, ((w1.alloc (.cells #[.string ⟨#[99, 111, 110, 115, 116, 32, 97, 32, 61, 32, 49, 59]⟩, .string ⟨#[115, 104, 97, 112, 101, 32, 97, 32, 123, 32, 125]⟩, .string ⟨#[102, 105, 108, 108, 32, 101, 118, 101, 110, 111, 100, 100, 32, 35, 48, 48, 48, 48, 48, 48, 32, 123, 32, 125]⟩, .string ⟨#[112, 97, 116, 104, 32, 77, 32, 49, 32, 49, 59]⟩] 9)).alloc (.cells #[.int .i64 64, .int .i64 64, .int .i64 200, .int .i64 400] 3)).alloc (.cells #[.int .i64 6, .int .i64 6, .int .i64 0, .int .i64 0] 3) = W := ⟨_, rfl⟩
  have BW : Hid (Below w.heap.size w W) := by
    rw [← hW]
    have b1 := B1.out.alloc B1.out.size (.cells #[.string ⟨#[99, 111, 110, 115, 116, 32, 97, 32, 61, 32, 49, 59]⟩, .string ⟨#[115, 104, 97, 112, 101, 32, 97, 32, 123, 32, 125]⟩, .string ⟨#[102, 105, 108, 108, 32, 101, 118, 101, 110, 111, 100, 100, 32, 35, 48, 48, 48, 48, 48, 48, 32, 123, 32, 125]⟩, .string ⟨#[112, 97, 116, 104, 32, 77, 32, 49, 32, 49, 59]⟩] 9)
    have b2 := b1.alloc b1.size (.cells #[.int .i64 64, .int .i64 64, .int .i64 200, .int .i64 400] 3)
    exact b2.alloc b2.size _
  rw [hW]
  clear hW B1
  have HPW : Hid (ErrP W ⟨A 0, A 5⟩) := HP.out.below BW.out
  go_loop [9, 11] (fun v i => ∃ (j : Nat) (S : ByteArray), j ≤ 64 ∧ v = .string S ∧ i = .int .i64 j ∧ Hid (S = ⟨([105, 99, 111, 110, 32, 49, 32, 49, 59] ++ rep [115, 104, 97, 112, 101, 32, 97, 32, 123, 32, 125] j []).toArray⟩) ∧ S.size = 9 + 11 * j) (fun _ i => 64 - (intOf i).toNat)
  case atStart => exact ⟨0, _, Nat.zero_le _, rfl, rfl, by show _ = _; rfl, by rfl⟩
  case round =>
    obtain ⟨j, S, hj, rfl, rfl, HS, hSz⟩ := hrel
    by_cases hjn : j < 64
    · go_wp2
      go_round
      case rel => exact ⟨j + 1, _, by omega, rfl, by go_num, by show _ = _; rw [HS.out, show (⟨#[115, 104, 97, 112, 101, 32, 97, 32, 123, 32, 125]⟩ : ByteArray) = ⟨([115, 104, 97, 112, 101, 32, 97, 32, 123, 32, 125] : List UInt8).toArray⟩ from rfl, cat_any, rep_more], by rw [ByteArray.size_append, hSz]; show _ + 11 = _; omega⟩
      case measure => simp [intOf]; omega
    · obtain rfl : j = 64 := by omega
      have e1 : S ++ ⟨#[115, 104, 97, 112, 101, 32, 97, 32, 123, 32, 125]⟩ = ⟨([105, 99, 111, 110, 32, 49, 32, 49, 59] ++ rep [115, 104, 97, 112, 101, 32, 97, 32, 123, 32, 125] 65 []).toArray⟩ := by
        rw [HS.out, show (⟨#[115, 104, 97, 112, 101, 32, 97, 32, 123, 32, 125]⟩ : ByteArray) = ⟨([115, 104, 97, 112, 101, 32, 97, 32, 123, 32, 125] : List UInt8).toArray⟩ from rfl, cat_any, rep_more]
      have k1 := hid'' (ks.out _ W e1 HPW)
      have k2 : Hid (∀ W', Hid (ErrP W' ⟨A 0, A 5⟩) → Calls Tryd.prog 10 #[.string (S ++ ⟨#[115, 104, 97, 112, 101, 32, 97, 32, 123, 32, 125]⟩)] W' fun e w' => ∃ ad cap, e = .returned (.tuple #[.slice ad ws.length cap, .nilIface]) ∧ Below W'.heap.size W' w') := fun W' h => kw.out _ W' e1 h
      clear e1 ks kw hj hjn HS
      go_wp2_with (first
        | (go_at_call 7; refine k1.out.mono ?_; rintro e w2 ⟨hb2, g2, rfl, hg2⟩
           have B2 : Hid (Below w.heap.size w w2) := chain BW.out hb2
           have B2' : Hid (Below w.heap.size w (w2.alloc (.cells #[.int .i64 0, .int .i64 0, .int .i64 0, .slice none 0 0, .slice none 0 0, .slice none 0 0, .slice none 0 0] 30))) := B2.out.alloc B2.out.size _
           have G2 : Hid (Blk (w2.alloc (.cells #[.int .i64 0, .int .i64 0, .int .i64 0, .slice none 0 0, .slice none 0 0, .slice none 0 0, .slice none 0 0] 30)) g2 76 #[.int .i64 719, .iface 146 (.pointer (some (A 5)))]) := Blk.alloc hg2 _
           clear hb2 hg2)
        | (go_at_call 10; refine (k2.out _ (HP.out.below B2'.out)).mono ?_; rintro e w3 ⟨ad, cap, rfl, hb3⟩
           have B3 : Hid (Below w.heap.size w w3) := chain B2'.out hb3
           have G3 : Hid (Blk w3 g2 76 #[.int .i64 719, .iface 146 (.pointer (some (A 5)))]) := G2.out.below hb3 G2.out.lt
           clear hb3)
        | (go_at_call 9; refine (placed_any 106 719 _ (by decide)).mono ?_; rintro e w5 ⟨rfl, hb5⟩
           have B5 : Hid (Below w.heap.size w w5) := chain B3.out hb5
           have G5 : Hid (Blk w5 g2 76 #[.int .i64 719, .iface 146 (.pointer (some (A 5)))]) := G3.out.below hb5 G3.out.lt
           clear hb5)
        | (go_at_call 8; refine (same_at A w5 (HE.out.below B5.out) 5 (by decide) (A 5) rfl g2 719 106 rfl G5.out).mono ?_; rintro e w6 ⟨rfl, hb6⟩
           have B6 : Hid (Below w.heap.size w w6) := chain B5.out hb6
           clear hb6))
      go_ret
      exact ⟨rfl, B6.out⟩

set_option maxRecDepth 20000 in
set_option maxHeartbeats 2000000 in
theorem plim2n (A : Nat → Addr) (which : Int) (w : World) (hE : Errs13 w A) (t : Int) (ht : which.tmod 4 = t) (h0 : -3 ≤ t) (h1 : t ≤ 3) (hK : (t + 4).tmod 4 = 2) :
    Calls Tryd.prog 5 #[.int .i64 which, .bool false] w fun e w' => e = .returned (.bool true) ∧ Below w.heap.size w w' := by
  have HE := hid'' hE
  have HP : Hid (ErrP w ⟨A 0, A 5⟩) := ⟨(hE 0 (by omega)).1, (hE 5 (by omega)).1, by have := (hE 12 (by omega)).2.1; simp only [glob] at this; simp at this; omega⟩
  clear hE
  obtain ⟨ws, hws, hwl⟩ := limW_eq limw2n
  have hlw : ¬ ((ws.length : Int) < 200) := by omega
  clear hwl
  have ks : Hid (∀ (S : ByteArray) (W : World), S = ⟨([105, 99, 111, 110, 32, 49, 32, 49, 59] ++ rep [102, 105, 108, 108, 32, 101, 118, 101, 110, 111, 100, 100, 32, 35, 48, 48, 48, 48, 48, 48, 32, 123, 32, 125] 200 []).toArray⟩ → Hid (ErrP W ⟨A 0, A 5⟩) → Calls Tryd.prog 7 #[.string S] W fun e w' => Below W.heap.size W w' ∧ ∃ X : PP.Src, ∃ (a1 a2 a3 a4 : Option Addr) (c1 c2 c3 c4 : Nat), e = .returned (.tuple #[.agg #[.int .i64 (X.w : Nat), .int .i64 (X.h : Nat), .int .i64 (X.scale : Nat), .slice a1 X.consts.length c1, .slice a2 X.colors.length c2, .slice a3 X.shapes.length c3, .slice a4 X.cmds.length c4], .nilIface])) := fun S W hS h => by
    have := src_any S ⟨A 0, A 5⟩ W (by rw [hS, size_mk, liml2n]; omega) h
    rw [hS, mk_data] at this
    rw [hS]
    obtain ⟨X, hX⟩ := limOk_eq lim2n
    rw [hX] at this
    refine this.mono ?_
    rintro e w' ⟨hb, a1, a2, a3, a4, c1, c2, c3, c4, he, -⟩
    exact ⟨hb, X, a1, a2, a3, a4, c1, c2, c3, c4, he⟩
  have kw : Hid (∀ (S : ByteArray) (W : World), S = ⟨([105, 99, 111, 110, 32, 49, 32, 49, 59] ++ rep [102, 105, 108, 108, 32, 101, 118, 101, 110, 111, 100, 100, 32, 35, 48, 48, 48, 48, 48, 48, 32, 123, 32, 125] 200 []).toArray⟩ → Hid (ErrP W ⟨A 0, A 5⟩) → Calls Tryd.prog 10 #[.string S] W fun e w' => ∃ ad cap, e = .returned (.tuple #[.slice ad ws.length cap, .nilIface]) ∧ Below W.heap.size W w') := fun S W hS h => by
    have h2 := split_ok S (A 0) W (by rw [hS, size_mk, liml2n]; omega) h.out.text ws (by rw [hS, mk_data]; exact hws)
    refine h2.mono ?_
    rintro e w' ⟨ad, cap, he, -, hb⟩
    exact ⟨ad, cap, he, hb⟩
  clear hws
  go_enter Tryd.func5, Tryd.ntmps5
  go_wp2_with (first
    | (go_at_call 6; refine (first10_any _ w HP).mono ?_; rintro e w1 ⟨rfl, hb1⟩
       have B1 := hid'' hb1
       clear hb1))
  obtain ⟨W, hW⟩ : ∃ W, ((w1.alloc (.cells #[.string ⟨#[99, 111, 110, 115, 116, 32, 97, 32, 61, 32, 49, 59]⟩, .string ⟨#[115, 104, 97, 112, 101, 32, 97, 32, 123, 32, 125]⟩, .string ⟨#[102, 105, 108, 108, 32, 101, 118, 101, 110, 111, 100, 100, 32, 35, 48, 48, 48, 48, 48, 48, 32, 123, 32, 125]⟩, .string ⟨#[112, 97, 116, 104, 32, 77, 32, 49, 32, 49, 59]⟩] 9)).alloc (.cells #[.int .i64 64, .int .i64 64, .int .i64 200, .int .i64 400] 3)).alloc (.cells #[.int .i64 6, .int .i64 6, .int .i64 0, .int .i64 0] 3) = W := ⟨_, rfl⟩
  have BW : Hid (Below w.heap.size w W) := by
    rw [← hW]
    have b1 := B1.out.alloc B1.out.size (.cells #[.string ⟨#[99, 111, 110, 115, 116, 32, 97, 32, 61, 32, 49, 59]⟩, .string ⟨#[115, 104, 97, 112, 101, 32, 97, 32, 123, 32, 125]⟩, .string ⟨#[102, 105, 108, 108, 32, 101, 118, 101, 110, 111, 100, 100, 32, 35, 48, 48, 48, 48, 48, 48, 32, 123, 32, 125]⟩, .string ⟨#[112, 97, 116, 104, 32, 77, 32, 49, 32, 49, 59]⟩] 9)
    have b2 := b1.alloc b1.size (.cells #[.int .i64 64, .int .i64 64, .int .i64 200, .int .i64 400] 3)
    exact b2.alloc b2.size _
  rw [hW]
  clear hW B1
  have HPW : Hid (ErrP W ⟨A 0, A 5⟩) := HP.out.below BW.out
  go_loop [9, 11] (fun v i => ∃ (j : Nat) (S : ByteArray), j ≤ 200 ∧ v = .string S ∧ i = .int .i64 j ∧ Hid (S = ⟨([105, 99, 111, 110, 32, 49, 32, 49, 59] ++ rep [102, 105, 108, 108, 32, 101, 118, 101, 110, 111, 100, 100, 32, 35, 48, 48, 48, 48, 48, 48, 32, 123, 32, 125] j []).toArray⟩) ∧ S.size = 9 + 24 * j) (fun _ i => 200 - (intOf i).toNat)
  case atStart => exact ⟨0, _, Nat.zero_le _, rfl, rfl, by show _ = _; rfl, by rfl⟩
  case round =>
    obtain ⟨j, S, hj, rfl, rfl, HS, hSz⟩ := hrel
    by_cases hjn : j < 200
    · go_wp2
      go_round
      case rel => exact ⟨j + 1, _, by omega, rfl, by go_num, by show _ = _; rw [HS.out, show (⟨#[102, 105, 108, 108, 32, 101, 118, 101, 110, 111, 100, 100, 32, 35, 48, 48, 48, 48, 48, 48, 32, 123, 32, 125]⟩ : ByteArray) = ⟨([102, 105, 108, 108, 32, 101, 118, 101, 110, 111, 100, 100, 32, 35, 48, 48, 48, 48, 48, 48, 32, 123, 32, 125] : List UInt8).toArray⟩ from rfl, cat_any, rep_more], by rw [ByteArray.size_append, hSz]; show _ + 24 = _; omega⟩
      case measure => simp [intOf]; omega
    · obtain rfl : j = 200 := by omega
      have e1 : S = ⟨([105, 99, 111, 110, 32, 49, 32, 49, 59] ++ rep [102, 105, 108, 108, 32, 101, 118, 101, 110, 111, 100, 100, 32, 35, 48, 48, 48, 48, 48, 48, 32, 123, 32, 125] 200 []).toArray⟩ := by
        rw [HS.out]
      have k1 := hid'' (ks.out _ W e1 HPW)
      have k2 : Hid (∀ W', Hid (ErrP W' ⟨A 0, A 5⟩) → Calls Tryd.prog 10 #[.string (S)] W' fun e w' => ∃ ad cap, e = .returned (.tuple #[.slice ad ws.length cap, .nilIface]) ∧ Below W'.heap.size W' w') := fun W' h => kw.out _ W' e1 h
      clear e1 ks kw hj hjn HS
      go_wp2_with (first
        | (go_at_call 7; refine k1.out.mono ?_; rintro e w2 ⟨hb2, X, a1, a2, a3, a4, c1, c2, c3, c4, rfl⟩
           have B2 : Hid (Below w.heap.size w w2) := chain BW.out hb2
           clear hb2)
        | (go_at_call 10; refine (k2.out _ (HP.out.below (B2.out.alloc B2.out.size _))).mono ?_; rintro e w3 ⟨ad, cap, rfl, hb3⟩
           have B3 : Hid (Below w.heap.size w w3) := chain (B2.out.alloc B2.out.size _) hb3
           clear hb3))
      go_ret
      exact ⟨rfl, B3.out⟩

set_option maxRecDepth 20000 in
set_option maxHeartbeats 2000000 in
theorem plim2o (A : Nat → Addr) (which : Int) (w : World) (hE : Errs13 w A) (t : Int) (ht : which.tmod 4 = t) (h0 : -3 ≤ t) (h1 : t ≤ 3) (hK : (t + 4).tmod 4 = 2) :
    Calls Tryd.prog 5 #[.int .i64 which, .bool true] w fun e w' => e = .returned (.bool true) ∧ Below w.heap.size w w' := by
  have HE := hid'' hE
  have HP : Hid (ErrP w ⟨A 0, A 5⟩) := ⟨(hE 0 (by omega)).1, (hE 5 (by omega)).1, by have := (hE 12 (by omega)).2.1; simp only [glob] at this; simp at this; omega⟩
  clear hE
  obtain ⟨ws, hws, hwl⟩ := limW_eq limw2o
  have hlw : ¬ ((ws.length : Int) < 200) := by omega
  clear hwl
  have ks : Hid (∀ (S : ByteArray) (W : World), S = ⟨([105, 99, 111, 110, 32, 49, 32, 49, 59] ++ rep [102, 105, 108, 108, 32, 101, 118, 101, 110, 111, 100, 100, 32, 35, 48, 48, 48, 48, 48, 48, 32, 123, 32, 125] 201 []).toArray⟩ → Hid (ErrP W ⟨A 0, A 5⟩) → Calls Tryd.prog 7 #[.string S] W fun e w' => Below W.heap.size W w' ∧ ∃ g, e = .returned (.tuple #[.agg #[.int .i64 0, .int .i64 0, .int .i64 0, .slice none 0 0, .slice none 0 0, .slice none 0 0, .slice none 0 0], .iface 74 (.pointer (some ⟨g, 0, none⟩))]) ∧ Blk w' g 76 #[.int .i64 4809, .iface 146 (.pointer (some (A 5)))]) := fun S W hS h => by
    have := src_any S ⟨A 0, A 5⟩ W (by rw [hS, size_mk, liml2o]; omega) h
    rw [hS, mk_data] at this
    rw [hS]
    rw [limErr_eq lim2o] at this
    exact this
  have kw : Hid (∀ (S : ByteArray) (W : World), S = ⟨([105, 99, 111, 110, 32, 49, 32, 49, 59] ++ rep [102, 105, 108, 108, 32, 101, 118, 101, 110, 111, 100, 100, 32, 35, 48, 48, 48, 48, 48, 48, 32, 123, 32, 125] 201 []).toArray⟩ → Hid (ErrP W ⟨A 0, A 5⟩) → Calls Tryd.prog 10 #[.string S] W fun e w' => ∃ ad cap, e = .returned (.tuple #[.slice ad ws.length cap, .nilIface]) ∧ Below W.heap.size W w') := fun S W hS h => by
    have h2 := split_ok S (A 0) W (by rw [hS, size_mk, liml2o]; omega) h.out.text ws (by rw [hS, mk_data]; exact hws)
    refine h2.mono ?_
    rintro e w' ⟨ad, cap, he, -, hb⟩
    exact ⟨ad, cap, he, hb⟩
  clear hws
  go_enter Tryd.func5, Tryd.ntmps5
  go_wp2_with (first
    | (go_at_call 6; refine (first10_any _ w HP).mono ?_; rintro e w1 ⟨rfl, hb1⟩
       have B1 := hid'' hb1
       clear hb1))
  obtain ⟨W, hW⟩ : ∃ W, ((w1.alloc (.cells #[.string ⟨#[99, 111, 110, 115, 116, 32, 97, 32, 61, 32, 49, 59]⟩, .string ⟨#[115, 104, 97, 112, 101, 32, 97, 32, 123, 32, 125]⟩, .string ⟨#[102, 105, 108, 108, 32, 101, 118, 101, 110, 111, 100, 100, 32, 35, 48, 48, 48, 48, 48, 48, 32, 123, 32, 125]⟩, .string ⟨#[112, 97, 116, 104, 32, 77, 32, 49, 32, 49, 59]⟩] 9)).alloc (.cells #[.int .i64 64, .int .i64 64, .int .i64 200, .int .i64 400] 3)).alloc (.cells #[.int .i64 6, .int .i64 6, .int .i64 0, .int .i64 0] 3) = W := ⟨_, rfl⟩
  have BW : Hid (Below w.heap.size w W) := by
    rw [← hW]
    have b1 := B1.out.alloc B1.out.size (.cells #[.string ⟨#[99, 111, 110, 115, 116, 32, 97, 32, 61, 32, 49, 59]⟩, .string ⟨#[115, 104, 97, 112, 101, 32, 97, 32, 123, 32, 125]⟩, .string ⟨#[102, 105, 108, 108, 32, 101, 118, 101, 110, 111, 100, 100, 32, 35, 48, 48, 48, 48, 48, 48, 32, 123, 32, 125]⟩, .string ⟨#[112, 97, 116, 104, 32, 77, 32, 49, 32, 49, 59]⟩] 9)
    have b2 := b1.alloc b1.size (.cells #[.int .i64 64, .int .i64 64, .int .i64 200, .int .i64 400] 3)
    exact b2.alloc b2.size _
  rw [hW]
  clear hW B1
  have HPW : Hid (ErrP W ⟨A 0, A 5⟩) := HP.out.below BW.out
  go_loop [9, 11] (fun v i => ∃ (j : Nat) (S : ByteArray), j ≤ 200 ∧ v = .string S ∧ i = .int .i64 j ∧ Hid (S = ⟨([105, 99, 111, 110, 32, 49, 32, 49, 59] ++ rep [102, 105, 108, 108, 32, 101, 118, 101, 110, 111, 100, 100, 32, 35, 48, 48, 48, 48, 48, 48, 32, 123, 32, 125] j []).toArray⟩) ∧ S.size = 9 + 24 * j) (fun _ i => 200 - (intOf i).toNat)
  case atStart => exact ⟨0, _, Nat.zero_le _, rfl, rfl, by show _ = _; rfl, by rfl⟩
  case round =>
    obtain ⟨j, S, hj, rfl, rfl, HS, hSz⟩ := hrel
    by_cases hjn : j < 200
    · go_wp2
      go_round
      case rel => exact ⟨j + 1, _, by omega, rfl, by go_num, by show _ = _; rw [HS.out, show (⟨#[102, 105, 108, 108, 32, 101, 118, 101, 110, 111, 100, 100, 32, 35, 48, 48, 48, 48, 48, 48, 32, 123, 32, 125]⟩ : ByteArray) = ⟨([102, 105, 108, 108, 32, 101, 118, 101, 110, 111, 100, 100, 32, 35, 48, 48, 48, 48, 48, 48, 32, 123, 32, 125] : List UInt8).toArray⟩ from rfl, cat_any, rep_more], by rw [ByteArray.size_append, hSz]; show _ + 24 = _; omega⟩
      case measure => simp [intOf]; omega
    · obtain rfl : j = 200 := by omega
      have e1 : S ++ ⟨#[102, 105, 108, 108, 32, 101, 118, 101, 110, 111, 100, 100, 32, 35, 48, 48, 48, 48, 48, 48, 32, 123, 32, 125]⟩ = ⟨([105, 99, 111, 110, 32, 49, 32, 49, 59] ++ rep [102, 105, 108, 108, 32, 101, 118, 101, 110, 111, 100, 100, 32, 35, 48, 48, 48, 48, 48, 48, 32, 123, 32, 125] 201 []).toArray⟩ := by
        rw [HS.out, show (⟨#[102, 105, 108, 108, 32, 101, 118, 101, 110, 111, 100, 100, 32, 35, 48, 48, 48, 48, 48, 48, 32, 123, 32, 125]⟩ : ByteArray) = ⟨([102, 105, 108, 108, 32, 101, 118, 101, 110, 111, 100, 100, 32, 35, 48, 48, 48, 48, 48, 48, 32, 123, 32, 125] : List UInt8).toArray⟩ from rfl, cat_any, rep_more]
      have k1 := hid'' (ks.out _ W e1 HPW)
      have k2 : Hid (∀ W', Hid (ErrP W' ⟨A 0, A 5⟩) → Calls Tryd.prog 10 #[.string (S ++ ⟨#[102, 105, 108, 108, 32, 101, 118, 101, 110, 111, 100, 100, 32, 35, 48, 48, 48, 48, 48, 48, 32, 123, 32, 125]⟩)] W' fun e w' => ∃ ad cap, e = .returned (.tuple #[.slice ad ws.length cap, .nilIface]) ∧ Below W'.heap.size W' w') := fun W' h => kw.out _ W' e1 h
      clear e1 ks kw hj hjn HS
      go_wp2_with (first
        | (go_at_call 7; refine k1.out.mono ?_; rintro e w2 ⟨hb2, g2, rfl, hg2⟩
           have B2 : Hid (Below w.heap.size w w2) := chain BW.out hb2
           have B2' : Hid (Below w.heap.size w (w2.alloc (.cells #[.int .i64 0, .int .i64 0, .int .i64 0, .slice none 0 0, .slice none 0 0, .slice none 0 0, .slice none 0 0] 30))) := B2.out.alloc B2.out.size _
           have G2 : Hid (Blk (w2.alloc (.cells #[.int .i64 0, .int .i64 0, .int .i64 0, .slice none 0 0, .slice none 0 0, .slice none 0 0, .slice none 0 0] 30)) g2 76 #[.int .i64 4809, .iface 146 (.pointer (some (A 5)))]) := Blk.alloc hg2 _
           clear hb2 hg2)
        | (go_at_call 10; refine (k2.out _ (HP.out.below B2'.out)).mono ?_; rintro e w3 ⟨ad, cap, rfl, hb3⟩
           have B3 : Hid (Below w.heap.size w w3) := chain B2'.out hb3
           have G3 : Hid (Blk w3 g2 76 #[.int .i64 4809, .iface 146 (.pointer (some (A 5)))]) := G2.out.below hb3 G2.out.lt
           clear hb3)
        | (go_at_call 9; refine (placed_any 106 4809 _ (by decide)).mono ?_; rintro e w5 ⟨rfl, hb5⟩
           have B5 : Hid (Below w.heap.size w w5) := chain B3.out hb5
           have G5 : Hid (Blk w5 g2 76 #[.int .i64 4809, .iface 146 (.pointer (some (A 5)))]) := G3.out.below hb5 G3.out.lt
           clear hb5)
        | (go_at_call 8; refine (same_at A w5 (HE.out.below B5.out) 5 (by decide) (A 5) rfl g2 4809 106 rfl G5.out).mono ?_; rintro e w6 ⟨rfl, hb6⟩
           have B6 : Hid (Below w.heap.size w w6) := chain B5.out hb6
           clear hb6))
      go_ret
      exact ⟨rfl, B6.out⟩

set_option maxRecDepth 20000 in
set_option maxHeartbeats 2000000 in
theorem plim3n (A : Nat → Addr) (which : Int) (w : World) (hE : Errs13 w A) (t : Int) (ht : which.tmod 4 = t) (h0 : -3 ≤ t) (h1 : t ≤ 3) (hK : (t + 4).tmod 4 = 3) :
    Calls Tryd.prog 5 #[.int .i64 which, .bool false] w fun e w' => e = .returned (.bool true) ∧ Below w.heap.size w w' := by
  have HE := hid'' hE
  have HP : Hid (ErrP w ⟨A 0, A 5⟩) := ⟨(hE 0 (by omega)).1, (hE 5 (by omega)).1, by have := (hE 12 (by omega)).2.1; simp only [glob] at this; simp at this; omega⟩
  clear hE
  obtain ⟨ws, hws, hwl⟩ := limW_eq limw3n
  have hlw : ¬ ((ws.length : Int) < 400) := by omega
  clear hwl
  have ks : Hid (∀ (S : ByteArray) (W : World), S = ⟨([105, 99, 111, 110, 32, 49, 32, 49, 59, 115, 104, 97, 112, 101, 32, 97, 32, 123] ++ rep [112, 97, 116, 104, 32, 77, 32, 49, 32, 49, 59] 400 [] ++ [125]).toArray⟩ → Hid (ErrP W ⟨A 0, A 5⟩) → Calls Tryd.prog 7 #[.string S] W fun e w' => Below W.heap.size W w' ∧ ∃ X : PP.Src, ∃ (a1 a2 a3 a4 : Option Addr) (c1 c2 c3 c4 : Nat), e = .returned (.tuple #[.agg #[.int .i64 (X.w : Nat), .int .i64 (X.h : Nat), .int .i64 (X.scale : Nat), .slice a1 X.consts.length c1, .slice a2 X.colors.length c2, .slice a3 X.shapes.length c3, .slice a4 X.cmds.length c4], .nilIface])) := fun S W hS h => by
    have := src_any S ⟨A 0, A 5⟩ W (by rw [hS, size_mk, liml3n]; omega) h
    rw [hS, mk_data] at this
    rw [hS]
    obtain ⟨X, hX⟩ := limOk_eq lim3n
    rw [hX] at this
    refine this.mono ?_
    rintro e w' ⟨hb, a1, a2, a3, a4, c1, c2, c3, c4, he, -⟩
    exact ⟨hb, X, a1, a2, a3, a4, c1, c2, c3, c4, he⟩
  have kw : Hid (∀ (S : ByteArray) (W : World), S = ⟨([105, 99, 111, 110, 32, 49, 32, 49, 59, 115, 104, 97, 112, 101, 32, 97, 32, 123] ++ rep [112, 97, 116, 104, 32, 77, 32, 49, 32, 49, 59] 400 [] ++ [125]).toArray⟩ → Hid (ErrP W ⟨A 0, A 5⟩) → Calls Tryd.prog 10 #[.string S] W fun e w' => ∃ ad cap, e = .returned (.tuple #[.slice ad ws.length cap, .nilIface]) ∧ Below W.heap.size W w') := fun S W hS h => by
    have h2 := split_ok S (A 0) W (by rw [hS, size_mk, liml3n]; omega) h.out.text ws (by rw [hS, mk_data]; exact hws)
    refine h2.mono ?_
    rintro e w' ⟨ad, cap, he, -, hb⟩
    exact ⟨ad, cap, he, hb⟩
  clear hws
  go_enter Tryd.func5, Tryd.ntmps5
  go_wp2_with (first
    | (go_at_call 6; refine (first10_any _ w HP).mono ?_; rintro e w1 ⟨rfl, hb1⟩
       have B1 := hid'' hb1
       clear hb1))
  obtain ⟨W, hW⟩ : ∃ W, ((w1.alloc (.cells #[.string ⟨#[99, 111, 110, 115, 116, 32, 97, 32, 61, 32, 49, 59]⟩, .string ⟨#[115, 104, 97, 112, 101, 32, 97, 32, 123, 32, 125]⟩, .string ⟨#[102, 105, 108, 108, 32, 101, 118, 101, 110, 111, 100, 100, 32, 35, 48, 48, 48, 48, 48, 48, 32, 123, 32, 125]⟩, .string ⟨#[112, 97, 116, 104, 32, 77, 32, 49, 32, 49, 59]⟩] 9)).alloc (.cells #[.int .i64 64, .int .i64 64, .int .i64 200, .int .i64 400] 3)).alloc (.cells #[.int .i64 6, .int .i64 6, .int .i64 0, .int .i64 0] 3) = W := ⟨_, rfl⟩
  have BW : Hid (Below w.heap.size w W) := by
    rw [← hW]
    have b1 := B1.out.alloc B1.out.size (.cells #[.string ⟨#[99, 111, 110, 115, 116, 32, 97, 32, 61, 32, 49, 59]⟩, .string ⟨#[115, 104, 97, 112, 101, 32, 97, 32, 123, 32, 125]⟩, .string ⟨#[102, 105, 108, 108, 32, 101, 118, 101, 110, 111, 100, 100, 32, 35, 48, 48, 48, 48, 48, 48, 32, 123, 32, 125]⟩, .string ⟨#[112, 97, 116, 104, 32, 77, 32, 49, 32, 49, 59]⟩] 9)
    have b2 := b1.alloc b1.size (.cells #[.int .i64 64, .int .i64 64, .int .i64 200, .int .i64 400] 3)
    exact b2.alloc b2.size _
  rw [hW]
  clear hW B1
  have HPW : Hid (ErrP W ⟨A 0, A 5⟩) := HP.out.below BW.out
  go_loop [9, 11] (fun v i => ∃ (j : Nat) (S : ByteArray), j ≤ 400 ∧ v = .string S ∧ i = .int .i64 j ∧ Hid (S = ⟨([105, 99, 111, 110, 32, 49, 32, 49, 59, 115, 104, 97, 112, 101, 32, 97, 32, 123] ++ rep [112, 97, 116, 104, 32, 77, 32, 49, 32, 49, 59] j []).toArray⟩) ∧ S.size = 18 + 11 * j) (fun _ i => 400 - (intOf i).toNat)
  case atStart => exact ⟨0, _, Nat.zero_le _, rfl, rfl, by show _ = _; rfl, by rfl⟩
  case round =>
    obtain ⟨j, S, hj, rfl, rfl, HS, hSz⟩ := hrel
    by_cases hjn : j < 400
    · go_wp2
      go_round
      case rel => exact ⟨j + 1, _, by omega, rfl, by go_num, by show _ = _; rw [HS.out, show (⟨#[112, 97, 116, 104, 32, 77, 32, 49, 32, 49, 59]⟩ : ByteArray) = ⟨([112, 97, 116, 104, 32, 77, 32, 49, 32, 49, 59] : List UInt8).toArray⟩ from rfl, cat_any, rep_more], by rw [ByteArray.size_append, hSz]; show _ + 11 = _; omega⟩
      case measure => simp [intOf]; omega
    · obtain rfl : j = 400 := by omega
      have e1 : S ++ ⟨#[125]⟩ = ⟨([105, 99, 111, 110, 32, 49, 32, 49, 59, 115, 104, 97, 112, 101, 32, 97, 32, 123] ++ rep [112, 97, 116, 104, 32, 77, 32, 49, 32, 49, 59] 400 [] ++ [125]).toArray⟩ := by
        rw [HS.out]
        exact cat_any _ [125]
      have k1 := hid'' (ks.out _ W e1 HPW)
      have k2 : Hid (∀ W', Hid (ErrP W' ⟨A 0, A 5⟩) → Calls Tryd.prog 10 #[.string (S ++ ⟨#[125]⟩)] W' fun e w' => ∃ ad cap, e = .returned (.tuple #[.slice ad ws.length cap, .nilIface]) ∧ Below W'.heap.size W' w') := fun W' h => kw.out _ W' e1 h
      clear e1 ks kw hj hjn HS
      go_wp2_with (first
        | (go_at_call 7; refine k1.out.mono ?_; rintro e w2 ⟨hb2, X, a1, a2, a3, a4, c1, c2, c3, c4, rfl⟩
           have B2 : Hid (Below w.heap.size w w2) := chain BW.out hb2
           clear hb2)
        | (go_at_call 10; refine (k2.out _ (HP.out.below (B2.out.alloc B2.out.size _))).mono ?_; rintro e w3 ⟨ad, cap, rfl, hb3⟩
           have B3 : Hid (Below w.heap.size w w3) := chain (B2.out.alloc B2.out.size _) hb3
           clear hb3))
      go_ret
      exact ⟨rfl, B3.out⟩

set_option maxRecDepth 20000 in
set_option maxHeartbeats 2000000 in
theorem plim3o (A : Nat → Addr) (which : Int) (w : World) (hE : Errs13 w A) (t : Int) (ht : which.tmod 4 = t) (h0 : -3 ≤ t) (h1 : t ≤ 3) (hK : (t + 4).tmod 4 = 3) :
    Calls Tryd.prog 5 #[.int .i64 which, .bool true] w fun e w' => e = .returned (.bool true) ∧ Below w.heap.size w w' := by
  have HE := hid'' hE
  have HP : Hid (ErrP w ⟨A 0, A 5⟩) := ⟨(hE 0 (by omega)).1, (hE 5 (by omega)).1, by have := (hE 12 (by omega)).2.1; simp only [glob] at this; simp at this; omega⟩
  clear hE
  obtain ⟨ws, hws, hwl⟩ := limW_eq limw3o
  have hlw : ¬ ((ws.length : Int) < 400) := by omega
  clear hwl
  have ks : Hid (∀ (S : ByteArray) (W : World), S = ⟨([105, 99, 111, 110, 32, 49, 32, 49, 59, 115, 104, 97, 112, 101, 32, 97, 32, 123] ++ rep [112, 97, 116, 104, 32, 77, 32, 49, 32, 49, 59] 401 [] ++ [125]).toArray⟩ → Hid (ErrP W ⟨A 0, A 5⟩) → Calls Tryd.prog 7 #[.string S] W fun e w' => Below W.heap.size W w' ∧ ∃ g, e = .returned (.tuple #[.agg #[.int .i64 0, .int .i64 0, .int .i64 0, .slice none 0 0, .slice none 0 0, .slice none 0 0, .slice none 0 0], .iface 74 (.pointer (some ⟨g, 0, none⟩))]) ∧ Blk w' g 76 #[.int .i64 4418, .iface 146 (.pointer (some (A 5)))]) := fun S W hS h => by
    have := src_any S ⟨A 0, A 5⟩ W (by rw [hS, size_mk, liml3o]; omega) h
    rw [hS, mk_data] at this
    rw [hS]
    rw [limErr_eq lim3o] at this
    exact this
  have kw : Hid (∀ (S : ByteArray) (W : World), S = ⟨([105, 99, 111, 110, 32, 49, 32, 49, 59, 115, 104, 97, 112, 101, 32, 97, 32, 123] ++ rep [112, 97, 116, 104, 32, 77, 32, 49, 32, 49, 59] 401 [] ++ [125]).toArray⟩ → Hid (ErrP W ⟨A 0, A 5⟩) → Calls Tryd.prog 10 #[.string S] W fun e w' => ∃ ad cap, e = .returned (.tuple #[.slice ad ws.length cap, .nilIface]) ∧ Below W.heap.size W w') := fun S W hS h => by
    have h2 := split_ok S (A 0) W (by rw [hS, size_mk, liml3o]; omega) h.out.text ws (by rw [hS, mk_data]; exact hws)
    refine h2.mono ?_
    rintro e w' ⟨ad, cap, he, -, hb⟩
    exact ⟨ad, cap, he, hb⟩
  clear hws
  go_enter Tryd.func5, Tryd.ntmps5
  go_wp2_with (first
    | (go_at_call 6; refine (first10_any _ w HP).mono ?_; rintro e w1 ⟨rfl, hb1⟩
       have B1 := hid'' hb1
       clear hb1))
  obtain ⟨W, hW⟩ : ∃ W, ((w1.alloc (.cells #[.string ⟨#[99, 111, 110, 115, 116, 32, 97, 32, 61, 32, 49, 59]⟩, .string ⟨#[115, 104, 97, 112, 101, 32, 97, 32, 123, 32, 125]⟩, .string ⟨#[102, 105, 108, 108, 32, 101, 118, 101, 110, 111, 100, 100, 32, 35, 48, 48, 48, 48, 48, 48, 32, 123, 32, 125]⟩, .string ⟨#[112, 97, 116, 104, 32, 77, 32, 49, 32, 49, 59]⟩] 9)).alloc (.cells #[.int .i64 64, .int .i64 64, .int .i64 200, .int .i64 400] 3)).alloc (.cells #[.int .i64 6, .int .i64 6, .int .i64 0, .int .i64 0] 3) = W := ⟨_, rfl⟩
  have BW : Hid (Below w.heap.size w W) := by
    rw [← hW]
    have b1 := B1.out.alloc B1.out.size (.cells #[.string ⟨#[99, 111, 110, 115, 116, 32, 97, 32, 61, 32, 49, 59]⟩, .string ⟨#[115, 104, 97, 112, 101, 32, 97, 32, 123, 32, 125]⟩, .string ⟨#[102, 105, 108, 108, 32, 101, 118, 101, 110, 111, 100, 100, 32, 35, 48, 48, 48, 48, 48, 48, 32, 123, 32, 125]⟩, .string ⟨#[112, 97, 116, 104, 32, 77, 32, 49, 32, 49, 59]⟩] 9)
    have b2 := b1.alloc b1.size (.cells #[.int .i64 64, .int .i64 64, .int .i64 200, .int .i64 400] 3)
    exact b2.alloc b2.size _
  rw [hW]
  clear hW B1
  have HPW : Hid (ErrP W ⟨A 0, A 5⟩) := HP.out.below BW.out
  go_loop [9, 11] (fun v i => ∃ (j : Nat) (S : ByteArray), j ≤ 400 ∧ v = .string S ∧ i = .int .i64 j ∧ Hid (S = ⟨([105, 99, 111, 110, 32, 49, 32, 49, 59, 115, 104, 97, 112, 101, 32, 97, 32, 123] ++ rep [112, 97, 116, 104, 32, 77, 32, 49, 32, 49, 59] j []).toArray⟩) ∧ S.size = 18 + 11 * j) (fun _ i => 400 - (intOf i).toNat)
  case atStart => exact ⟨0, _, Nat.zero_le _, rfl, rfl, by show _ = _; rfl, by rfl⟩
  case round =>
    obtain ⟨j, S, hj, rfl, rfl, HS, hSz⟩ := hrel
    by_cases hjn : j < 400
    · go_wp2
      go_round
      case rel => exact ⟨j + 1, _, by omega, rfl, by go_num, by show _ = _; rw [HS.out, show (⟨#[112, 97, 116, 104, 32, 77, 32, 49, 32, 49, 59]⟩ : ByteArray) = ⟨([112, 97, 116, 104, 32, 77, 32, 49, 32, 49, 59] : List UInt8).toArray⟩ from rfl, cat_any, rep_more], by rw [ByteArray.size_append, hSz]; show _ + 11 = _; omega⟩
      case measure => simp [intOf]; omega
    · obtain rfl : j = 400 := by omega
      have e1 : S ++ ⟨#[112, 97, 116, 104, 32, 77, 32, 49, 32, 49, 59]⟩ ++ ⟨#[125]⟩ = ⟨([105, 99, 111, 110, 32, 49, 32, 49, 59, 115, 104, 97, 112, 101, 32, 97, 32, 123] ++ rep [112, 97, 116, 104, 32, 77, 32, 49, 32, 49, 59] 401 [] ++ [125]).toArray⟩ := by
        have e2 : S ++ ⟨#[112, 97, 116, 104, 32, 77, 32, 49, 32, 49, 59]⟩ = ⟨([105, 99, 111, 110, 32, 49, 32, 49, 59, 115, 104, 97, 112, 101, 32, 97, 32, 123] ++ rep [112, 97, 116, 104, 32, 77, 32, 49, 32, 49, 59] 401 []).toArray⟩ := by rw [HS.out, show (⟨#[112, 97, 116, 104, 32, 77, 32, 49, 32, 49, 59]⟩ : ByteArray) = ⟨([112, 97, 116, 104, 32, 77, 32, 49, 32, 49, 59] : List UInt8).toArray⟩ from rfl, cat_any, rep_more]
        rw [e2]
        exact cat_any _ [125]
      have k1 := hid'' (ks.out _ W e1 HPW)
      have k2 : Hid (∀ W', Hid (ErrP W' ⟨A 0, A 5⟩) → Calls Tryd.prog 10 #[.string (S ++ ⟨#[112, 97, 116, 104, 32, 77, 32, 49, 32, 49, 59]⟩ ++ ⟨#[125]⟩)] W' fun e w' => ∃ ad cap, e = .returned (.tuple #[.slice ad ws.length cap, .nilIface]) ∧ Below W'.heap.size W' w') := fun W' h => kw.out _ W' e1 h
      clear e1 ks kw hj hjn HS
      go_wp2_with (first
        | (go_at_call 7; refine k1.out.mono ?_; rintro e w2 ⟨hb2, g2, rfl, hg2⟩
           have B2 : Hid (Below w.heap.size w w2) := chain BW.out hb2
           have B2' : Hid (Below w.heap.size w (w2.alloc (.cells #[.int .i64 0, .int .i64 0, .int .i64 0, .slice none 0 0, .slice none 0 0, .slice none 0 0, .slice none 0 0] 30))) := B2.out.alloc B2.out.size _
           have G2 : Hid (Blk (w2.alloc (.cells #[.int .i64 0, .int .i64 0, .int .i64 0, .slice none 0 0, .slice none 0 0, .slice none 0 0, .slice none 0 0] 30)) g2 76 #[.int .i64 4418, .iface 146 (.pointer (some (A 5)))]) := Blk.alloc hg2 _
           clear hb2 hg2)
        | (go_at_call 10; refine (k2.out _ (HP.out.below B2'.out)).mono ?_; rintro e w3 ⟨ad, cap, rfl, hb3⟩
           have B3 : Hid (Below w.heap.size w w3) := chain B2'.out hb3
           have G3 : Hid (Blk w3 g2 76 #[.int .i64 4418, .iface 146 (.pointer (some (A 5)))]) := G2.out.below hb3 G2.out.lt
           clear hb3)
        | (go_at_call 9; refine (placed_any 106 4418 _ (by decide)).mono ?_; rintro e w5 ⟨rfl, hb5⟩
           have B5 : Hid (Below w.heap.size w w5) := chain B3.out hb5
           have G5 : Hid (Blk w5 g2 76 #[.int .i64 4418, .iface 146 (.pointer (some (A 5)))]) := G3.out.below hb5 G3.out.lt
           clear hb5)
        | (go_at_call 8; refine (same_at A w5 (HE.out.below B5.out) 5 (by decide) (A 5) rfl g2 4418 106 rfl G5.out).mono ?_; rintro e w6 ⟨rfl, hb6⟩
           have B6 : Hid (Below w.heap.size w w6) := chain B5.out hb6
           clear hb6))
      go_ret
      exact ⟨rfl, B6.out⟩

theorem wparselim (a0 : Int) (a1 : Bool) (w : World) (A : Nat → Addr) (hE : Errs13 w A) :
    Calls Tryd.prog 5 #[.int .i64 a0, .bool a1] w fun e w' => e = .returned (.bool true) ∧ Below w.heap.size w w' := by
  have t0 := rem_bound a0 4 (by decide)
  have e0 : (a0.tmod 4 + 4).tmod 4 = (a0.tmod 4 + 4) % 4 := Int.tmod_eq_emod_of_nonneg (by omega)
  obtain ⟨h0, h1⟩ := t0
  have hk : (a0.tmod 4 + 4) % 4 = 0 ∨ (a0.tmod 4 + 4) % 4 = 1 ∨ (a0.tmod 4 + 4) % 4 = 2 ∨ (a0.tmod 4 + 4) % 4 = 3 := by omega
  cases a1
  · rcases hk with h | h | h | h
    · exact plim0n A a0 w hE _ rfl (by omega) (by omega) (e0.trans h)
    · exact plim1n A a0 w hE _ rfl (by omega) (by omega) (e0.trans h)
    · exact plim2n A a0 w hE _ rfl (by omega) (by omega) (e0.trans h)
    · exact plim3n A a0 w hE _ rfl (by omega) (by omega) (e0.trans h)
  · rcases hk with h | h | h | h
    · exact plim0o A a0 w hE _ rfl (by omega) (by omega) (e0.trans h)
    · exact plim1o A a0 w hE _ rfl (by omega) (by omega) (e0.trans h)
    · exact plim2o A a0 w hE _ rfl (by omega) (by omega) (e0.trans h)
    · exact plim3o A a0 w hE _ rfl (by omega) (by omega) (e0.trans h)

end Go.Proofs.YtkhclolhkpkaeaaDoor

/-
  What is written stands where it is written: walked over the program.
-/
import Derived.Test.YtkhclolhkpkaeaaDoorParsePartsLex
namespace Go.Proofs.YtkhclolhkpkaeaaDoor
open Go.RowKit

theorem unit_true (L : List UInt8) : ((⟨L.toArray⟩ : ByteArray) ++ ⟨#[99, 111, 110, 115, 116, 32, 107, 97, 32, 61, 32, 49, 46, 53, 59, 32, 99, 111, 108, 111, 114, 32, 114, 32, 61, 32, 35, 48, 49, 48, 50, 48, 51, 59, 32, 115, 104, 97, 112, 101, 32, 122, 32, 123, 32, 112, 97, 116, 104, 32, 77, 32, 49, 32, 107, 97, 32, 76, 32, 50, 32, 50, 32, 90, 59, 32, 125, 32, 102, 105, 108, 108, 32, 110, 111, 110, 122, 101, 114, 111, 32, 114, 32, 123, 32, 117, 115, 101, 32, 122, 32, 97, 116, 32, 48, 32, 49]⟩ ++ ⟨#[32, 98, 121, 32, 107, 97, 32, 116, 117, 114, 110, 32, 51]⟩ ++ ⟨#[59, 32, 125, 32, 108, 105, 110, 101, 32, 50, 32, 35, 102, 102, 102, 102, 102, 102, 48, 48, 32, 123, 32, 125]⟩) = ⟨(L ++ pUnit true).toArray⟩ := by
  rw [show (⟨#[99, 111, 110, 115, 116, 32, 107, 97, 32, 61, 32, 49, 46, 53, 59, 32, 99, 111, 108, 111, 114, 32, 114, 32, 61, 32, 35, 48, 49, 48, 50, 48, 51, 59, 32, 115, 104, 97, 112, 101, 32, 122, 32, 123, 32, 112, 97, 116, 104, 32, 77, 32, 49, 32, 107, 97, 32, 76, 32, 50, 32, 50, 32, 90, 59, 32, 125, 32, 102, 105, 108, 108, 32, 110, 111, 110, 122, 101, 114, 111, 32, 114, 32, 123, 32, 117, 115, 101, 32, 122, 32, 97, 116, 32, 48, 32, 49]⟩ : ByteArray) = ⟨([99, 111, 110, 115, 116, 32, 107, 97, 32, 61, 32, 49, 46, 53, 59, 32, 99, 111, 108, 111, 114, 32, 114, 32, 61, 32, 35, 48, 49, 48, 50, 48, 51, 59, 32, 115, 104, 97, 112, 101, 32, 122, 32, 123, 32, 112, 97, 116, 104, 32, 77, 32, 49, 32, 107, 97, 32, 76, 32, 50, 32, 50, 32, 90, 59, 32, 125, 32, 102, 105, 108, 108, 32, 110, 111, 110, 122, 101, 114, 111, 32, 114, 32, 123, 32, 117, 115, 101, 32, 122, 32, 97, 116, 32, 48, 32, 49] : List UInt8).toArray⟩ from rfl, show (⟨#[32, 98, 121, 32, 107, 97, 32, 116, 117, 114, 110, 32, 51]⟩ : ByteArray) = ⟨([32, 98, 121, 32, 107, 97, 32, 116, 117, 114, 110, 32, 51] : List UInt8).toArray⟩ from rfl, show (⟨#[59, 32, 125, 32, 108, 105, 110, 101, 32, 50, 32, 35, 102, 102, 102, 102, 102, 102, 48, 48, 32, 123, 32, 125]⟩ : ByteArray) = ⟨([59, 32, 125, 32, 108, 105, 110, 101, 32, 50, 32, 35, 102, 102, 102, 102, 102, 102, 48, 48, 32, 123, 32, 125] : List UInt8).toArray⟩ from rfl, cat_any, cat_any, cat_any, List.append_assoc, List.append_assoc]
  rfl

set_option maxRecDepth 100000 in
set_option maxHeartbeats 8000000 in
theorem pparts_true (x : Cx) (n : Int) (w : World) (hE : Hid (ErrP w x)) (t : Int) (ht : n.tmod 5 = t) (h0 : -4 ≤ t) (h1 : t ≤ 4) (K : Nat) (hK : (t + 5).tmod 5 = K) (hK5 : K < 5) :
    Calls Tryd.prog 4 #[.int .i64 n, .bool true] w fun e w' => e = .returned (.bool true) ∧ Below w.heap.size w w' := by
  obtain ⟨X, hX, ⟨x1, x2, x3, x4, x5, x6, x7, x8⟩, hparts⟩ := parts_all true K hK5
  obtain ⟨M, hM⟩ : ∃ M : Nat, 2 * K = M := ⟨_, rfl⟩
  rw [hM] at x7
  have HPt := hid'' hparts
  have ks : Hid (∀ (S : ByteArray) (W : World), S = ⟨(pText true K).toArray⟩ → Hid (ErrP W x) → Calls Tryd.prog 7 #[.string S] W fun e w' => Below W.heap.size W w' ∧ ∃ (a1 a2 a3 a4 : Option Addr) (c1 c2 c3 c4 : Nat), e = .returned (.tuple #[.agg #[.int .i64 4, .int .i64 3, .int .i64 2, .slice a1 K c1, .slice a2 K c2, .slice a3 K c3, .slice a4 M c4], .nilIface]) ∧ SrcAt w' X (.slice a1 K c1) (.slice a2 K c2) (.slice a3 K c3) (.slice a4 M c4)) := fun S W hS h => by
    have := src_any S x W (by rw [hS, size_mk]; omega) h
    rw [hS, mk_data, hX] at this
    rw [hS]
    refine this.mono ?_
    rintro e w' ⟨hb, a1, a2, a3, a4, c1, c2, c3, c4, he, hs⟩
    rw [x1, x2, x3, x4, x5, x6, x7] at he
    rw [x4, x5, x6, x7] at hs
    exact ⟨hb, a1, a2, a3, a4, c1, c2, c3, c4, he, hs⟩
  have hmul : 2 * (K : Int) = (M : Int) := by omega
  have hM8 : (M : Int) ≤ 8 := by omega
  have hKi : (K : Int) < 5 := by omega
  clear hX x1 x2 x3 x4 x5 x6 x7 hparts
  go_enter Tryd.func4, Tryd.ntmps4
  go_wp2_with (first
    | (go_at_call 6; refine (first10_any _ w hE).mono ?_; rintro e w1 ⟨rfl, hb1⟩
       have B1 := hid'' hb1
       have E1 : Hid (ErrP w1 x) := hE.out.below hb1
       clear hb1))
  go_loop [6, 8] (fun v i => ∃ (j : Nat) (S : ByteArray), j ≤ K ∧ v = .string S ∧ i = .int .i64 j ∧ Hid (S = ⟨(pHd ++ rep (pUnit true) j []).toArray⟩) ∧ S.size = 17 + 134 * j) (fun _ i => K - (intOf i).toNat)
  case atStart => exact ⟨0, _, Nat.zero_le _, rfl, rfl, by show _ = _; rfl, by rfl⟩
  case round =>
    obtain ⟨j, S, hj, rfl, rfl, HS, hSz⟩ := hrel
    by_cases hjn : j < K
    · go_wp2
      go_round
      case rel => exact ⟨j + 1, _, by omega, rfl, by go_num, by show _ = _; rw [HS.out, unit_true _, rep_more], by simp only [ByteArray.size_append, hSz]; show 17 + 134 * j + 97 + 13 + 24 = _; omega⟩
      case measure => simp [intOf]; omega
    · obtain rfl : K = j := by omega
      have k1 := hid'' (ks.out S w1 HS.out E1)
      have HSz := hid'' hSz
      clear ks hjn hj hSz hE E1
      go_upto_region 14 with (first
        | (go_at_call 7; refine k1.out.mono ?_; rintro e w2 ⟨hb2, a1, a2, a3, a4, c1, c2, c3, c4, rfl, hs⟩
           have B2 : Hid (Below w.heap.size w w2) := chain B1.out hb2
           have HSr := hid'' hs
           clear hb2 hs))
      obtain ⟨W, hW⟩ : ∃ W, w2.alloc (.cells #[.int .i64 4, .int .i64 3, .int .i64 2, .slice a1 K c1, .slice a2 K c2, .slice a3 K c3, .slice a4 M c4] 30) = W := ⟨_, rfl⟩
      have BW : Hid (Below w.heap.size w W) := by rw [← hW]; exact B2.out.alloc B2.out.size _
      have BX : Hid (Blk W w2.heap.size 30 #[.int .i64 4, .int .i64 3, .int .i64 2, .slice a1 K c1, .slice a2 K c2, .slice a3 K c3, .slice a4 M c4]) := by rw [← hW]; exact blk_new _ _ _
      have HSW : Hid (SrcAt W X (.slice a1 K c1) (.slice a2 K c2) (.slice a3 K c3) (.slice a4 M c4)) := by rw [← hW]; exact SrcAt.kt (t := 9) HSr.out (Kt.below ((Below.refl _ _).alloc (Nat.le_refl _) _))
      obtain ⟨bx, hbx⟩ : ∃ bx, w2.heap.size = bx := ⟨_, rfl⟩
      rw [hW, hbx]
      rw [hbx] at BX
      clear hW hbx HSr B2 k1
      have q0 : W.cell? ⟨bx, 0, none⟩ = some (.int .i64 4) := BX.out.cell 0
      have q1 : W.cell? ⟨bx, 1, none⟩ = some (.int .i64 3) := BX.out.cell 1
      have q2 : W.cell? ⟨bx, 2, none⟩ = some (.int .i64 2) := BX.out.cell 2
      have q3 : W.cell? ⟨bx, 3, none⟩ = some (.slice a1 K c1) := BX.out.cell 3
      have q4 : W.cell? ⟨bx, 4, none⟩ = some (.slice a2 K c2) := BX.out.cell 4
      have q5 : W.cell? ⟨bx, 5, none⟩ = some (.slice a3 K c3) := BX.out.cell 5
      have q6 : W.cell? ⟨bx, 6, none⟩ = some (.slice a4 M c4) := BX.out.cell 6
      have lx := BX.out.lt
      go_wp2
      go_loopw [11] (fun v wr => ∃ i : Nat, i ≤ K ∧ v = .int .i64 i ∧ Hid (Below W.heap.size W wr)) (fun v _ => K - (intOf v).toNat)
      case atStart => exact ⟨0, Nat.zero_le _, rfl, Below.refl _ _⟩
      case round =>
        obtain ⟨i, hi, rfl, HB⟩ := hrel
        by_cases hik : i < K
        · obtain ⟨c, r, s, f, l, it, u, s0, s1, s2, v0, v1, hp⟩ := HPt.out i hik
          obtain ⟨gc, oc, gr, or, gs, os, gi, oi, ci, gt, ot, ct, gv, ov, cv, gk, ok, gu, ou, cu, CF, CL, PA⟩ := part_at HSW.out hp
          obtain ⟨p1, e1⟩ : ∃ p, c.pos = p := ⟨_, rfl⟩
          obtain ⟨p2, e2⟩ : ∃ p, s1.pos = p := ⟨_, rfl⟩
          obtain ⟨p3, e3⟩ : ∃ p, f.pos = p := ⟨_, rfl⟩
          obtain ⟨p4, e4⟩ : ∃ p, u.pos = p := ⟨_, rfl⟩
          have hx1 := hp.cp
          have hx2 := hp.sp
          have hx3 := hp.fp
          have hx4 := hp.up
          have hub := hp.ub
          rw [e1] at hx1 PA
          rw [e2] at hx2 PA
          rw [e3] at hx3 PA
          rw [e4] at hx4 hub PA
          obtain ⟨hb1, hb2⟩ : u.by'.name = [107, 97] ∧ u.turn = 3 := hub
          rw [hb1, hb2] at PA
          have HPA := hid'' PA
          obtain ⟨P1, hP1⟩ : ∃ P, p1 + 2 = P := ⟨_, rfl⟩
          obtain ⟨P2, hP2⟩ : ∃ P, p2 + 1 = P := ⟨_, rfl⟩
          obtain ⟨P3, hP3⟩ : ∃ P, p3 + 4 = P := ⟨_, rfl⟩
          obtain ⟨P4, hP4⟩ : ∃ P, p4 + 3 = P := ⟨_, rfl⟩
          have HL : Hid (P1 ≤ S.size ∧ P2 ≤ S.size ∧ P3 ≤ S.size ∧ P4 ≤ S.size) := by
            show _ ∧ _
            rw [HS.out, size_mk, ← hP1, ← hP2, ← hP3, ← hP4]
            exact ⟨hx1.1, hx2.1, hx3.1, hx4.1⟩
          have Y1 : Hid (S.extract p1 P1 = ⟨#[107, 97]⟩) := by show _ = _; rw [← hP1, HS.out]; exact cut_is hx1
          have Y2 : Hid (S.extract p2 P2 = ⟨#[76]⟩) := by show _ = _; rw [← hP2, HS.out]; exact cut_is hx2
          have Y3 : Hid (S.extract p3 P3 = ⟨#[102, 105, 108, 108]⟩) := by show _ = _; rw [← hP3, HS.out]; exact cut_is hx3
          have Y4 : Hid (S.extract p4 P4 = ⟨#[117, 115, 101]⟩) := by show _ = _; rw [← hP4, HS.out]; exact cut_is hx4
          have HPn : Hid (p1 + 2 = P1 ∧ p2 + 1 = P2 ∧ p3 + 4 = P3 ∧ p4 + 3 = P4) := ⟨hP1, hP2, hP3, hP4⟩
          obtain ⟨t2, ht2⟩ : ∃ t2 : Nat, 2 * i = t2 := ⟨_, rfl⟩
          have m1 : 2 * (i : Int) = (t2 : Int) := by omega
          have m2 : (t2 : Int) < (M : Int) := by omega
          obtain ⟨o2, ho2⟩ : ∃ o2 : Nat, t2 + 1 = o2 := ⟨_, rfl⟩
          have m3 : (t2 : Int) + 1 = (o2 : Int) := by omega
          have m5 : (o2 : Int) < (M : Int) := by omega
          have m4 : (i : Int) < (K : Int) := by omega
          have hF1 := hid'' PA.f1
          have hF2 := hid'' PA.f2
          rw [ht2] at hF1 hF2
          rw [ho2] at hF2
          have hCF := hid'' PA.s1
          have hCL := hid'' PA.s2
          have hciF : Hid ((Tryd.prog.info? 53).map (·.size) = some CF.size) := by show _ = _; rw [hCF.out]; kernel_rfl
          have hciL : Hid ((Tryd.prog.info? 53).map (·.size) = some CL.size) := by show _ = _; rw [hCL.out]; kernel_rfl
          have hoF := hid'' PA.a1'
          have hoL := hid'' PA.a2'
          have ea1 := PA.e1
          have ea2 := PA.e2
          have ea3 := PA.e3
          have ea4 := PA.e4
          subst ea1 ea2 ea3 ea4
          have TW : Hid (∀ p v, p.block < W.heap.size → W.cell? p = some v → wr.cell? p = some v) := fun p v h1 h2 => (HB.out.cell (p := p) h1).trans h2
          have LX := hid'' lx
          have Q3 := hid'' q3
          have Q4 := hid'' q4
          have Q6 := hid'' q6
          have r5 := TW.out _ _ lx q5
          have r6 := TW.out _ _ lx q6
          have r4 := TW.out _ _ PA.l3 PA.k4
          clear PA hx1 hx2 hx3 hx4 hp e1 e2 e3 e4 q0 q1 q2 q3 q4 q5 q6 lx hP1 hP2 hP3 hP4 ht2 ho2 hmul hM hK5 hik hi x8 ht h0 h1 hK
          go_upto_region 22 with (first
            | (refine wpList_load_part rfl 53 (.tmp 100) rfl gk (ok + t2 * 32) rfl CF _ (fun j v h => TW.out _ _ HPA.out.l4 (hF1.out j v h)) Tryd.underlying53 rfl hciF.out ?_)
            | (refine wpList_load_part rfl 53 (.tmp 107) rfl gk (ok + o2 * 32) rfl CL _ (fun j v h => T4.out _ _ HPA.out.l4 (hF2.out j v h)) Tryd.underlying53 rfl hciL.out ?_)
            | (refine wp_put0 53 (.tmp 13) (.tmp 101) (cells := CF) (blk_new wr _ _) rfl rfl rfl rfl hciF.out (by rw [hCF.out]; rfl) hoF.out ?_
               intro w4 B4 K4 F4 L4
               have U4 : Hid (Below wr.heap.size wr w4) := ((Below.refl _ _).alloc (Nat.le_refl _) _).trans (L4.out _ (Nat.le_refl _))
               have T4 : Hid (∀ p v, p.block < W.heap.size → W.cell? p = some v → w4.cell? p = some v) := fun p v h1 h2 => (U4.out.cell (p := p) (Nat.lt_of_lt_of_le h1 HB.out.size)).trans (TW.out p v h1 h2)
               have n6 := T4.out _ _ LX.out Q6.out
               clear r5 r6 r4 K4 F4 L4)
            | (refine wp_put0 53 (.tmp 14) (.tmp 108) (cells := CL) (blk_new w4 _ _) rfl rfl rfl rfl hciL.out (by rw [hCL.out]; rfl) hoL.out ?_
               intro w5 B5 K5 F5 L5
               have U5 : Hid (Below w4.heap.size w4 w5) := ((Below.refl _ _).alloc (Nat.le_refl _) _).trans (L5.out _ (Nat.le_refl _))
               clear n6 K5 F5 L5))
          have T5 : Hid (∀ p v, p.block < W.heap.size → W.cell? p = some v → w5.cell? p = some v) := fun p v h1 h2 => (U5.out.cell (p := p) (Nat.lt_of_lt_of_le h1 (HB.out.trans (U4.out.mono HB.out.size)).size)).trans (T4.out p v h1 h2)
          have BF : Hid (Blk w5 wr.heap.size 53 CF) := B4.out.below U5.out B4.out.lt
          have HW5 : Hid (Below W.heap.size W w5) := (HB.out.trans (U4.out.mono HB.out.size)).trans (U5.out.mono (HB.out.trans (U4.out.mono HB.out.size)).size)
          obtain ⟨bf, hbf⟩ : ∃ bf, wr.heap.size = bf := ⟨_, rfl⟩
          obtain ⟨bl, hbl⟩ : ∃ bl, w4.heap.size = bl := ⟨_, rfl⟩
          rw [hbf] at BF ⊢
          rw [hbl] at B5 ⊢
          clear U4 U5 T4 TW B4 hF1 hF2 hCF hCL hciF hciL hoF hoL m1 m2 m3 m5 hbf hbl HB
          have z3 := T5.out _ _ LX.out Q3.out
          have z4 := T5.out _ _ LX.out Q4.out
          have k1 := T5.out _ _ HPA.out.l1 HPA.out.k1
          have k3 := T5.out _ _ HPA.out.l2 HPA.out.k3
          have k5 := T5.out _ _ HPA.out.l5 HPA.out.k5
          have k6 := T5.out _ _ HPA.out.l6 HPA.out.k6
          have k7 := T5.out _ _ HPA.out.l7 HPA.out.k7
          have k8 := T5.out _ _ HPA.out.l6 HPA.out.k8
          have g1 : w5.cell? ⟨bf, 1, none⟩ = some (.int .i64 1) := (BF.out.cell 1).trans HPA.out.c1
          have g7 : w5.cell? ⟨bf, 7, none⟩ = some (.string ⟨#[114]⟩) := (BF.out.cell 7).trans HPA.out.c3
          have g31 : w5.cell? ⟨bf, 31, none⟩ = some (.slice (some ⟨gu, ou, none⟩) 1 cu) := (BF.out.cell 31).trans HPA.out.c4
          have u0 := T5.out _ _ HPA.out.l8 HPA.out.u0
          have u2 := T5.out _ _ HPA.out.l8 HPA.out.u2
          have d0 : w5.cell? ⟨bl, 0, none⟩ = some (.int .i64 2) := (B5.out.cell 0).trans HPA.out.d1
          have d4 : w5.cell? ⟨bl, 4, none⟩ = some (.int .i64 2000000) := (B5.out.cell 4).trans HPA.out.d2
          have d8 : w5.cell? ⟨bl, 8, none⟩ = some (.int .u8 255) := (B5.out.cell 8).trans HPA.out.d3
          have d11 : w5.cell? ⟨bl, 11, none⟩ = some (.int .u8 0) := (B5.out.cell 11).trans HPA.out.d4
          obtain ⟨adl, capl, hd5⟩ := HPA.out.d5
          have d31 : w5.cell? ⟨bl, 31, none⟩ = some (.slice adl 0 capl) := (B5.out.cell 31).trans hd5
          clear hd5
          dsimp only [List.append]
          go_upto_region 24 with fail
          clear z4 k1 k3 k5 k6 k7 k8 g1 g7 u0 u2 d0 d4 d8 d11 d31
          have u3 : w5.cell? ⟨gu, ou + 10, none⟩ = some (.string ⟨#[107, 97]⟩) := T5.out _ _ HPA.out.l8 HPA.out.u3
          have u4 := T5.out _ _ HPA.out.l8 HPA.out.u4
          have u5 := T5.out _ _ HPA.out.l8 HPA.out.u5
          clear g31
          have g31 : w5.cell? ⟨bf, 31, none⟩ = some (.slice (some ⟨gu, ou, none⟩) 1 cu) := (BF.out.cell 31).trans HPA.out.c4
          clear z3
          go_upto_region 25 with fail
          clear u3 u4 u5 g31
          obtain ⟨W6, hW6⟩ : ∃ W6, w5.alloc (.cells #[.string ⟨#[107, 97]⟩, .int .i64 u.by'.n, .int .i64 (u.by'.pos : Nat)] 44) = W6 := ⟨_, rfl⟩
          have T6 : Hid (∀ p v, p.block < W.heap.size → W.cell? p = some v → W6.cell? p = some v) := fun p v h1 h2 => by
            rw [← hW6]
            exact (((Below.refl _ _).alloc (Nat.le_refl _) _).cell (p := p) (Nat.lt_of_lt_of_le h1 HW5.out.size)).trans (T5.out p v h1 h2)
          have B6 : Hid (Blk W6 w5.heap.size 44 #[.string ⟨#[107, 97]⟩, .int .i64 u.by'.n, .int .i64 (u.by'.pos : Nat)]) := by rw [← hW6]; exact blk_new _ _ _
          have F6 : Hid (Blk W6 bf 53 CF) := by rw [← hW6]; exact Blk.alloc BF.out _
          have HW6 : Hid (Below W.heap.size W W6) := by rw [← hW6]; exact HW5.out.alloc HW5.out.size _
          obtain ⟨bb, hbb⟩ : ∃ bb, w5.heap.size = bb := ⟨_, rfl⟩
          rw [hW6, hbb]
          rw [hbb] at B6
          clear hW6 hbb T5 BF HW5 B5
          have z3 := T6.out _ _ LX.out Q3.out
          have k2 := T6.out _ _ HPA.out.l1 HPA.out.k2
          have k5 := T6.out _ _ HPA.out.l5 HPA.out.k5
          have k9 := T6.out _ _ HPA.out.l6 HPA.out.k9
          have g2 : W6.cell? ⟨bf, 2, none⟩ = some (.int .i64 (p3 : Nat)) := (F6.out.cell 2).trans HPA.out.c2
          have g31 : W6.cell? ⟨bf, 31, none⟩ = some (.slice (some ⟨gu, ou, none⟩) 1 cu) := (F6.out.cell 31).trans HPA.out.c4
          have u1 := T6.out _ _ HPA.out.l8 HPA.out.u1
          have u6 := T6.out _ _ HPA.out.l8 HPA.out.u6
          have w0 : W6.cell? ⟨bb, 0, none⟩ = some (.string ⟨#[107, 97]⟩) := B6.out.cell 0
          have w1' : W6.cell? ⟨bb, 1, none⟩ = some (.int .i64 u.by'.n) := B6.out.cell 1
          have w2' : W6.cell? ⟨bb, 2, none⟩ = some (.int .i64 (u.by'.pos : Nat)) := B6.out.cell 2
          obtain ⟨x1, x2, x3, x4⟩ := HPn.out
          obtain ⟨l1, l2, l3, l4⟩ := HL.out
          have X1 : (p1 : Int) + 2 = (P1 : Int) := by omega
          have X2 : (p2 : Int) + 1 = (P2 : Int) := by omega
          have X3 : (p3 : Int) + 4 = (P3 : Int) := by omega
          have X4 : (p4 : Int) + 3 = (P4 : Int) := by omega
          have i1a : (0 : Int) ≤ (p1 : Int) := by omega
          have i1b : (p1 : Int) ≤ (P1 : Int) := by omega
          have i1c : (P1 : Int) ≤ (S.size : Int) := by omega
          have i2a : (0 : Int) ≤ (p2 : Int) := by omega
          have i2b : (p2 : Int) ≤ (P2 : Int) := by omega
          have i2c : (P2 : Int) ≤ (S.size : Int) := by omega
          have i3a : (0 : Int) ≤ (p3 : Int) := by omega
          have i3b : (p3 : Int) ≤ (P3 : Int) := by omega
          have i3c : (P3 : Int) ≤ (S.size : Int) := by omega
          have i4a : (0 : Int) ≤ (p4 : Int) := by omega
          have i4b : (p4 : Int) ≤ (P4 : Int) := by omega
          have i4c : (P4 : Int) ≤ (S.size : Int) := by omega
          have hZ : (S.size : Int) ≤ 1000 := by have := HSz.out; omega
          have y1 := Y1.out
          have y2 := Y2.out
          have y3 := Y3.out
          have y4 := Y4.out
          clear l1 l2 l3 l4 x1 x2 x3 x4 T6 HPA B6 F6 HPn HL Y1 Y2 Y3 Y4
          dsimp only [List.append]
          refine wp_region_quiet_lit (by kernel_rfl) ?hB ?hR
          case hB => exact lex25
          repeat (go_big_quiet_step (fail))
          refine wpQuiet_nil ?_
          intro _ hw'
          obtain ⟨nq, hw''⟩ := hw'
          subst hw''
          go_upto_region 18 with fail
          go_wp2
          go_roundw
          case rel => exact ⟨i + 1, by omega, by go_num, below_drewN HW6.out _⟩
          case measure => simp [intOf]; omega
        · obtain rfl : K = i := by omega
          go_wp2
          go_ret
          exact ⟨rfl, BW.out.trans (HB.out.mono BW.out.size)⟩

end Go.Proofs.YtkhclolhkpkaeaaDoor

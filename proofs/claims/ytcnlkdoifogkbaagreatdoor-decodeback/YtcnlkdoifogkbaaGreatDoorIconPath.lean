/-
  What Check says of a path, walked over the program.
-/
import Derived.Test.YtcnlkdoifogkbaaGreatDoorIconSeg
namespace Go.Proofs.YtcnlkdoifogkbaaGreatDoor
open Go.RowKit

set_option maxRecDepth 20000 in
set_option maxHeartbeats 1000000 in
theorem path_any (A : Nat → Addr) (far n : Int) (p : IC.Path) (w : World) (hE : Errs3 w A) (hf : 0 ≤ far ∧ far ≤ 1099511627776) (hp : PathOk w p) :
    Calls Tryz.prog 74 #[.agg #[.int .i64 far, .int .i64 n], .agg p.cells.toArray] w fun e w' => e = .returned (errv A (IC.chkPath far p)) ∧ Below w.heap.size w w' := by
  obtain ⟨⟨sx, sy⟩, vs, segs, cl⟩ := p
  have hm : Many w 103 7 IC.Seg.cells vs segs := hp
  have e0 := hE.c0
  have s0 := hE.s0
  have p0 := hE.pos
  have e1 := hE.c1
  have s1 := hE.s1
  obtain ⟨ad, cap, hv, hl1, hl2⟩ := hm.len
  unfold maxLen at hl2
  have kr : Hid (∀ w, Calls Tryz.prog 99 #[.agg #[.int .i64 far, .int .i64 n], .agg #[.int .i64 sx, .int .i64 sy]] w fun e w' => e = .returned (.bool (IC.reach far ⟨sx, sy⟩)) ∧ Below w.heap.size w w') := fun w => reaches_any far n sx sy w hf
  have hchk : IC.chkPath far ⟨⟨sx, sy⟩, vs, segs, cl⟩ = (if segs.length = 0 then 1 else if 400 < segs.length then 2 else if !IC.reach far ⟨sx, sy⟩ then 1 else IC.firstOf (IC.chkSeg far) segs) := rfl
  rw [hchk]; clear hchk
  simp only [IC.Path.cells]
  by_cases h0 : segs.length = 0
  · rw [if_pos h0]
    rw [h0] at hv hl1
    subst hv
    clear hE hm hp hf kr
    go_enter Tryz.func74, Tryz.ntmps74
    go_wp2
    go_ret
    exact ⟨rfl, ((Below.refl _ _).alloc (by omega) _).alloc (by simp) _⟩
  rw [if_neg h0]
  by_cases h4 : 400 < segs.length
  · rw [if_pos h4]
    generalize segs.length = L at *
    have t0 : (((L : Nat) : Int) == 0) = false := by simp; omega
    have t4 : (400 : Int) < (L : Int) := by omega
    subst hv
    clear hE hm hp hf kr h0 h4
    go_enter Tryz.func74, Tryz.ntmps74
    go_wp2
    go_ret
    exact ⟨rfl, ((Below.refl _ _).alloc (by omega) _).alloc (by simp) _⟩
  rw [if_neg h4]
  obtain ⟨g, o, cap', hv', hg, hcap, hcapM, -⟩ := hm.at seg_len 0 (by omega)
  rw [hv] at hv'
  obtain ⟨rfl, rfl⟩ : ad = some ⟨g, o, none⟩ ∧ cap = cap' := by simpa using hv'
  clear hv'
  subst hv
  obtain ⟨L, hL⟩ : ∃ L, segs.length = L := ⟨_, rfl⟩
  rw [hL] at h0 h4 hl1 hcap
  have t0 : (((L : Nat) : Int) == 0) = false := by simp; omega
  have t4 : ¬ (400 : Int) < (L : Int) := by omega
  have HE : Hid (Errs3 w A) := hE
  have HM : Hid (Many w 103 7 IC.Seg.cells (.slice (some ⟨g, o, none⟩) segs.length cap) segs) := hm
  have HL : Hid (segs.length = L) := hL
  rw [hL]
  clear hE hm hp hL
  have B0 : Hid (Below w.heap.size w ((w.alloc (.cells #[.int .i64 far, .int .i64 n] 107)).alloc (.cells #[.int .i64 sx, .int .i64 sy, .slice (some ⟨g, o, none⟩) L cap, .bool cl] 72))) := ((Below.refl _ _).alloc (by omega) _).alloc (by simp) _
  generalize IC.reach far ⟨sx, sy⟩ = t at kr ⊢
  cases t
  · clear hf
    go_enter Tryz.func74, Tryz.ntmps74
    go_wp2_with (go_at_call 99; refine (kr.out _).mono ?_; rintro e w1 ⟨rfl, hb1⟩; have B1 : Hid (Below _ _ w1) := hb1; obtain ⟨p1, q1, r1⟩ := boxes2 hb1; clear hb1)
    go_ret
    exact ⟨rfl, chain B0.out B1.out⟩
  · have hif : (if (!true) = true then 1 else IC.firstOf (IC.chkSeg far) segs) = IC.firstOf (IC.chkSeg far) segs := by simp
    rw [hif]; clear hif
    obtain ⟨R, hR⟩ : ∃ R, IC.firstOf (IC.chkSeg far) segs = R := ⟨_, rfl⟩
    rw [hR]
    have HR : Hid (IC.firstOf (IC.chkSeg far) (segs.drop 0) = R) := by rw [List.drop_zero]; exact hR
    clear hR
    go_enter Tryz.func74, Tryz.ntmps74
    go_wp2_with (go_at_call 99; refine (kr.out _).mono ?_; rintro e w1 ⟨rfl, hb1⟩; have B1 : Hid (Below _ _ w1) := hb1; obtain ⟨p1, q1, r1⟩ := boxes2 hb1; clear hb1)
    go_loopw [27] (fun i wr => ∃ k : Nat, k ≤ L ∧ i = .int .i64 k ∧ Hid (IC.firstOf (IC.chkSeg far) (segs.drop k) = R) ∧ Hid (Below ((w.alloc (.cells #[.int .i64 far, .int .i64 n] 107)).alloc (.cells #[.int .i64 sx, .int .i64 sy, .slice (some ⟨g, o, none⟩) L cap, .bool cl] 72)).heap.size ((w.alloc (.cells #[.int .i64 far, .int .i64 n] 107)).alloc (.cells #[.int .i64 sx, .int .i64 sy, .slice (some ⟨g, o, none⟩) L cap, .bool cl] 72)) wr)) (fun i _ => L - (intOf i).toNat)
    case atStart => exact ⟨0, by omega, rfl, HR, B1⟩
    case round =>
      clear p1 q1 r1
      obtain ⟨k, hk, rfl, HK, HB⟩ := hrel
      obtain ⟨p, q, r⟩ := boxes2 HB.out
      obtain ⟨z1, z2⟩ := sizes2 HB.out
      by_cases hkL : k < L
      · have hks : k < segs.length := by rw [HL.out]; exact hkL
        obtain ⟨g', o', cap', hv', -, -, -, hc⟩ := HM.out.at seg_len k hks
        obtain ⟨⟨rfl, rfl⟩, rfl⟩ : (g = g' ∧ o = o') ∧ cap = cap' := by simpa using hv'
        clear hv'
        obtain ⟨s, hs⟩ : ∃ s, segs[k] = s := ⟨_, rfl⟩
        have HK2 : Hid (R = if IC.chkSeg far s = 0 then IC.firstOf (IC.chkSeg far) (segs.drop (k + 1)) else IC.chkSeg far s) := by rw [← HK.out, IC.firstOf_drop _ _ _ hks, hs]; exact rfl
        rw [hs] at hc
        obtain ⟨sk, ⟨ax, ay⟩, ⟨bx, b_y⟩, ⟨cx, cy⟩⟩ := s
        have kS : Hid (∀ W, Below w.heap.size w W → Calls Tryz.prog 100 #[.agg #[.int .i64 far, .int .i64 n], .agg #[.int .i64 sk, .int .i64 ax, .int .i64 ay, .int .i64 bx, .int .i64 b_y, .int .i64 cx, .int .i64 cy]] W fun e w' => e = .returned (errv A (IC.chkSeg far ⟨sk, ⟨ax, ay⟩, ⟨bx, b_y⟩, ⟨cx, cy⟩⟩)) ∧ Below W.heap.size W w') := fun W hb => seg_any A far n _ W (HE.out.below hb) hf
        have c0 : wr.cell? ⟨g, o + k * 7, none⟩ = some (.int .i64 sk) := by rw [r g _ hg]; exact hc 0 _ rfl
        have c1 : wr.cell? ⟨g, o + k * 7 + 1, none⟩ = some (.int .i64 ax) := by rw [r g _ hg]; exact hc 1 _ rfl
        have c2 : wr.cell? ⟨g, o + k * 7 + 2, none⟩ = some (.int .i64 ay) := by rw [r g _ hg]; exact hc 2 _ rfl
        have c3 : wr.cell? ⟨g, o + k * 7 + 3, none⟩ = some (.int .i64 bx) := by rw [r g _ hg]; exact hc 3 _ rfl
        have c4 : wr.cell? ⟨g, o + k * 7 + 4, none⟩ = some (.int .i64 b_y) := by rw [r g _ hg]; exact hc 4 _ rfl
        have c5 : wr.cell? ⟨g, o + k * 7 + 5, none⟩ = some (.int .i64 cx) := by rw [r g _ hg]; exact hc 5 _ rfl
        have c6 : wr.cell? ⟨g, o + k * 7 + 6, none⟩ = some (.int .i64 cy) := by rw [r g _ hg]; exact hc 6 _ rfl
        clear hc r hs hf
        generalize IC.chkSeg far ⟨sk, ⟨ax, ay⟩, ⟨bx, b_y⟩, ⟨cx, cy⟩⟩ = C at HK2 kS
        have B2 : Hid (∀ o, Below w.heap.size w (wr.alloc o)) := fun o => chain (chain B0.out HB.out) ((Below.refl _ _).alloc (by omega) _)
        by_cases hC : C = 0
        · subst hC
          go_wp2_with (go_at_call 100; refine (kS.out _ (B2.out _)).mono ?_; rintro e w2 ⟨rfl, hb2⟩; rw [errv0])
          go_roundw
          case rel => exact ⟨k + 1, by omega, by go_num, (HK2.out.trans (if_pos (by simp))).symm, chain (chain HB.out ((Below.refl _ _).alloc (by omega) _)) hb2⟩
          case measure => simp [intOf]; omega
        · rw [errv_pos A hC] at kS
          go_wp2_with (go_at_call 100; refine (kS.out _ (B2.out _)).mono ?_; rintro e w2 ⟨rfl, hb2⟩)
          go_ret
          exact ⟨ret_v (by have e := HK2.out.trans (if_neg hC); rw [e, errv_pos A hC]; rfl), chain (B2.out _) hb2⟩
      · obtain rfl : k = L := by omega
        have hR : R = 0 := by rw [← HK.out, List.drop_of_length_le (by rw [HL.out]; omega)]; rfl
        have HR : Hid (R = 0) := hR
        clear hR r
        go_wp2
        go_ret
        exact ⟨ret_v (by rw [HR.out]; rfl), chain B0.out HB.out⟩

end Go.Proofs.YtcnlkdoifogkbaaGreatDoor

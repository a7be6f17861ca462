/-
  What Check says of a command, walked over the program.
-/
import Derived.Test.YtcnlkdoifogkbaaGreatDoorIconPath
namespace Go.Proofs.YtcnlkdoifogkbaaGreatDoor
open Go.RowKit

set_option maxRecDepth 20000 in
set_option maxHeartbeats 2000000 in
theorem cmd_any (A : Nat → Addr) (far n : Int) (c : IC.Cmd) (w : World) (hE : Errs3 w A) (hn : 0 ≤ n ∧ n ≤ 1000000) (hf : 0 ≤ far ∧ far ≤ 1099511627776) (hc : CmdOk w c) :
    Calls Tryz.prog 45 #[.agg #[.int .i64 far, .int .i64 n], .agg c.cells.toArray] w fun e w' => e = .returned (errv A (IC.chkCmd far n c)) ∧ Below w.heap.size w w' := by
  have kh : Hid (∀ w, Calls Tryz.prog 72 #[.agg #[.int .i64 far, .int .i64 n], .agg c.cells.toArray] w fun e w' => e = .returned (.bool (IC.headed far c)) ∧ Below w.heap.size w w') := fun w => headed_any far n c w
  have kp : Hid (∀ W, Below w.heap.size w W → Calls Tryz.prog 73 #[.agg #[.int .i64 far, .int .i64 n], .agg c.pn.cells.toArray] W fun e w' => e = .returned (errv A (IC.chkPaint far n c.pn)) ∧ Below W.heap.size W w') := fun W hb => paint_any A far n c.pn W (hE.below hb) hn hf
  have hchk : IC.chkCmd far n c = (if !IC.headed far c then 1 else if IC.chkPaint far n c.pn ≠ 0 then IC.chkPaint far n c.pn else if c.paths.length = 0 then 1 else if 200 < c.paths.length then 2 else IC.firstOf (IC.chkOne far c.k) c.paths) := rfl
  rw [hchk]; clear hchk
  generalize IC.headed far c = th at kh ⊢
  generalize IC.chkPaint far n c.pn = cp at kp ⊢
  obtain ⟨k, r, wd, ⟨pk, pa, pb, ⟨px, py⟩, ⟨qx, qy⟩⟩, vp, paths⟩ := c
  have hm : Many w 72 4 IC.Path.cells vp paths := hc.1
  have HO : Hid (∀ p ∈ paths, PathOk w p) := hc.2
  have HE : Hid (Errs3 w A) := hE
  have e0 := hE.c0
  have s0 := hE.s0
  have p0 := hE.pos
  have e1 := hE.c1
  have s1 := hE.s1
  have e2 := hE.c2
  have s2 := hE.s2
  obtain ⟨ad, cap, hv, hl1, hl2⟩ := hm.len
  unfold maxLen at hl2
  simp only [IC.Cmd.cells, IC.Paint.cells] at kh kp ⊢
  obtain ⟨L, hL⟩ : ∃ L, paths.length = L := ⟨_, rfl⟩
  have HL : Hid (paths.length = L) := hL
  have HM : Hid (Many w 72 4 IC.Path.cells vp paths) := hm
  rw [hL] at hv hl1
  subst hv
  rw [hL]
  clear hE hc hm hL
  have B0 : Hid (∀ o o', Below w.heap.size w ((w.alloc o).alloc o')) := fun o o' => ((Below.refl _ _).alloc (by omega) _).alloc (by simp) _
  cases th
  · clear hf hn
    go_enter Tryz.func45, Tryz.ntmps45
    go_wp2_with (go_at_call 72; refine (kh.out _).mono ?_; rintro e w1 ⟨rfl, hb1⟩; have B1 : Hid (Below _ _ w1) := hb1; obtain ⟨p1, q1, r1⟩ := boxes2 hb1; clear hb1)
    all_goals
      go_ret
      exact ⟨ret_v (by simp [errv]), chain (B0.out _ _) B1.out⟩
  by_cases hcp : cp = 0
  case neg =>
    rw [errv_pos A hcp] at kp
    have hif : (if (!true) = true then 1 else if cp ≠ 0 then cp else if L = 0 then 1 else if 200 < L then 2 else IC.firstOf (IC.chkOne far k) paths) = cp := by simp [hcp]
    rw [hif, errv_pos A hcp]
    generalize A (cp - 1) = a at kp ⊢
    clear hif hf hn
    go_enter Tryz.func45, Tryz.ntmps45
    go_wp2_with (first
      | (go_at_call 72; refine (kh.out _).mono ?_; rintro e w1 ⟨rfl, hb1⟩; have B1 : Hid (Below _ _ w1) := hb1; obtain ⟨p1, q1, r1⟩ := boxes2 hb1; clear hb1)
      | (go_at_call 73; refine (kp.out _ (chain (B0.out _ _) B1.out)).mono ?_; rintro e w2 ⟨rfl, hb2⟩))
    all_goals
      go_ret
      exact ⟨rfl, chain (chain (B0.out _ _) B1.out) hb2⟩
  subst hcp
  rw [errv0] at kp
  by_cases h0 : L = 0
  · subst h0
    clear hf hn
    go_enter Tryz.func45, Tryz.ntmps45
    go_wp2_with (first
      | (go_at_call 72; refine (kh.out _).mono ?_; rintro e w1 ⟨rfl, hb1⟩; have B1 : Hid (Below _ _ w1) := hb1; obtain ⟨p1, q1, r1⟩ := boxes2 hb1; clear hb1)
      | (go_at_call 73; refine (kp.out _ (chain (B0.out _ _) B1.out)).mono ?_; rintro e w2 ⟨rfl, hb2⟩; have B2 : Hid (Below _ _ w2) := chain B1.out hb2; obtain ⟨p2, q2, r2⟩ := boxes2 B2.out; clear hb2))
    all_goals
      go_ret
      exact ⟨ret_v (by simp [errv]), chain (B0.out _ _) B2.out⟩
  have t0 : (((L : Nat) : Int) == 0) = false := by simp; omega
  by_cases h2 : 200 < L
  · have hif : (if (!true) = true then 1 else if (0 : Nat) ≠ 0 then 0 else if L = 0 then 1 else if 200 < L then 2 else IC.firstOf (IC.chkOne far k) paths) = 2 := by simp [h0, h2]
    rw [hif]
    have t4 : (200 : Int) < (L : Int) := by omega
    clear hif hf hn h0 h2
    go_enter Tryz.func45, Tryz.ntmps45
    go_wp2_with (first
      | (go_at_call 72; refine (kh.out _).mono ?_; rintro e w1 ⟨rfl, hb1⟩; have B1 : Hid (Below _ _ w1) := hb1; obtain ⟨p1, q1, r1⟩ := boxes2 hb1; clear hb1)
      | (go_at_call 73; refine (kp.out _ (chain (B0.out _ _) B1.out)).mono ?_; rintro e w2 ⟨rfl, hb2⟩; have B2 : Hid (Below _ _ w2) := chain B1.out hb2; obtain ⟨p2, q2, r2⟩ := boxes2 B2.out; clear hb2))
    all_goals
      go_ret
      exact ⟨ret_v (by simp [errv]), chain (B0.out _ _) B2.out⟩
  have t4 : ¬ (200 : Int) < (L : Int) := by omega
  obtain ⟨g, o, cap', hv', hg, hcap, hcapM, -⟩ := HM.out.at path_len 0 (by rw [HL.out]; omega)
  obtain ⟨rfl, -⟩ : ad = some ⟨g, o, none⟩ ∧ _ := by simpa using hv'
  clear hv' hcap hcapM cap'
  have hif : (if (!true) = true then 1 else if (0 : Nat) ≠ 0 then 0 else if L = 0 then 1 else if 200 < L then 2 else IC.firstOf (IC.chkOne far k) paths) = IC.firstOf (IC.chkOne far k) paths := by simp [h0, h2]
  rw [hif]; clear hif h0 h2
  obtain ⟨R, hR⟩ : ∃ R, IC.firstOf (IC.chkOne far k) paths = R := ⟨_, rfl⟩
  rw [hR]
  have HR : Hid (IC.firstOf (IC.chkOne far k) (paths.drop 0) = R) := by rw [List.drop_zero]; exact hR
  clear hR
  go_enter Tryz.func45, Tryz.ntmps45
  go_wp2_with (first
    | (go_at_call 72; refine (kh.out _).mono ?_; rintro e w1 ⟨rfl, hb1⟩; have B1 : Hid (Below _ _ w1) := hb1; obtain ⟨p1, q1, r1⟩ := boxes2 hb1; clear hb1)
    | (go_at_call 73; refine (kp.out _ (chain (B0.out _ _) B1.out)).mono ?_; rintro e w2 ⟨rfl, hb2⟩; have B2 : Hid (Below _ _ w2) := chain B1.out hb2; obtain ⟨p2, q2, r2⟩ := boxes2 B2.out; clear hb2))
  go_loopw [34] (fun i wr => ∃ j : Nat, j ≤ L ∧ i = .int .i64 j ∧ Hid (IC.firstOf (IC.chkOne far k) (paths.drop j) = R) ∧ Hid (Below ((w.alloc (.cells #[.int .i64 far, .int .i64 n] 107)).alloc (.cells #[.int .i64 k, .int .i64 r, .int .i64 wd, .int .i64 pk, .int .i64 pa, .int .i64 pb, .int .i64 px, .int .i64 py, .int .i64 qx, .int .i64 qy, .slice (some ⟨g, o, none⟩) L cap] 62)).heap.size ((w.alloc (.cells #[.int .i64 far, .int .i64 n] 107)).alloc (.cells #[.int .i64 k, .int .i64 r, .int .i64 wd, .int .i64 pk, .int .i64 pa, .int .i64 pb, .int .i64 px, .int .i64 py, .int .i64 qx, .int .i64 qy, .slice (some ⟨g, o, none⟩) L cap] 62)) wr)) (fun i _ => L - (intOf i).toNat)
  case atStart => exact ⟨0, by omega, rfl, HR, B2⟩
  case round =>
    clear p1 q1 r1 p2 q2 r2 kh kp
    obtain ⟨j, hj, rfl, HK, HB⟩ := hrel
    obtain ⟨p, q, rr⟩ := boxes2 HB.out
    obtain ⟨z1, z2⟩ := sizes2 HB.out
    have y2 : 2 < wr.heap.size := by omega
    by_cases hjL : j < L
    · have hjs : j < paths.length := by rw [HL.out]; exact hjL
      obtain ⟨g', o', cap', hv', -, -, -, hc⟩ := HM.out.at path_len j hjs
      obtain ⟨⟨rfl, rfl⟩, -⟩ : (g = g' ∧ o = o') ∧ _ := by simpa using hv'
      clear hv'
      have hok := HO.out paths[j] (List.getElem_mem hjs)
      obtain ⟨s, hs⟩ : ∃ s, paths[j] = s := ⟨_, rfl⟩
      obtain ⟨ads, lens, caps, hvs⟩ : ∃ ads lens caps, s.vs = .slice ads lens caps := by rw [← hs]; obtain ⟨ads, caps, h, -, -⟩ := Many.len hok; exact ⟨_, _, _, h⟩
      have HK2 : Hid (R = if IC.chkOne far k s = 0 then IC.firstOf (IC.chkOne far k) (paths.drop (j + 1)) else IC.chkOne far k s) := by rw [← HK.out, IC.firstOf_drop _ _ _ hjs, hs]; exact rfl
      rw [hs] at hc hok
      obtain ⟨⟨sx, sy⟩, vs, segs, cl⟩ := s
      obtain rfl : vs = .slice ads lens caps := hvs
      have kS : Hid (∀ W, Below w.heap.size w W → Calls Tryz.prog 74 #[.agg #[.int .i64 far, .int .i64 n], .agg #[.int .i64 sx, .int .i64 sy, .slice ads lens caps, .bool cl]] W fun e w' => e = .returned (errv A (IC.chkPath far ⟨⟨sx, sy⟩, .slice ads lens caps, segs, cl⟩)) ∧ Below W.heap.size W w') := fun W hb => path_any A far n _ W (HE.out.below hb) hf (hok.below hb)
      have c0 : wr.cell? ⟨g, o + j * 4, none⟩ = some (.int .i64 sx) := by rw [rr g _ hg]; exact hc 0 _ rfl
      have c1 : wr.cell? ⟨g, o + j * 4 + 1, none⟩ = some (.int .i64 sy) := by rw [rr g _ hg]; exact hc 1 _ rfl
      have c2 : wr.cell? ⟨g, o + j * 4 + 2, none⟩ = some (.slice ads lens caps) := by rw [rr g _ hg]; exact hc 2 _ rfl
      have c3 : wr.cell? ⟨g, o + j * 4 + 3, none⟩ = some (.bool cl) := by rw [rr g _ hg]; exact hc 3 _ rfl
      have hone : IC.chkOne far k ⟨⟨sx, sy⟩, .slice ads lens caps, segs, cl⟩ = if cl && (k == 1) then 3 else IC.chkPath far ⟨⟨sx, sy⟩, .slice ads lens caps, segs, cl⟩ := rfl
      rw [hone] at HK2
      have ge2 := (rr 2 0 s2).trans e2
      clear hc hs hf hok hone hn rr
      generalize IC.chkPath far ⟨⟨sx, sy⟩, .slice ads lens caps, segs, cl⟩ = C at HK2 kS
      have BW : Hid (∀ o, Below w.heap.size w (wr.alloc o)) := fun o => chain (chain (B0.out _ _) HB.out) ((Below.refl _ _).alloc (by omega) _)
      by_cases hcan : cl = true ∧ (k == 1) = true
      · obtain ⟨rfl, hk1⟩ := hcan
        rw [hk1] at HK2
        go_wp2
        go_ret
        exact ⟨ret_v (by have e := HK2.out; simp only [Bool.and_self, if_true] at e; rw [e]; rfl), BW.out _⟩
      have hone : (if (cl && (k == 1)) = true then 3 else C) = C := by
        cases cl <;> cases hk : (k == 1) <;> simp_all
      rw [hone] at HK2
      clear hone
      by_cases hC : C = 0
      · subst hC
        cases cl <;> cases hk : (k == 1)
        case true.true => exact absurd ⟨rfl, hk⟩ hcan
        all_goals
          clear hcan
          go_wp2_with (go_at_call 74; refine (kS.out _ (BW.out _)).mono ?_; rintro e w3 ⟨rfl, hb3⟩; rw [errv0])
          go_roundw
          case rel => exact ⟨j + 1, by omega, by go_num, (HK2.out.trans (if_pos (by simp))).symm, chain (chain HB.out ((Below.refl _ _).alloc (by omega) _)) hb3⟩
          case measure => simp [intOf]; omega
      · rw [errv_pos A hC] at kS
        cases cl <;> cases hk : (k == 1)
        case true.true => exact absurd ⟨rfl, hk⟩ hcan
        all_goals
          clear hcan
          go_wp2_with (go_at_call 74; refine (kS.out _ (BW.out _)).mono ?_; rintro e w3 ⟨rfl, hb3⟩)
          go_ret
          exact ⟨ret_v (by have e := HK2.out.trans (if_neg hC); rw [e, errv_pos A hC]; rfl), chain (BW.out _) hb3⟩
    · obtain rfl : j = L := by omega
      have HR0 : Hid (R = 0) := by rw [← HK.out, List.drop_of_length_le (by rw [HL.out]; omega)]; exact rfl
      clear rr
      go_wp2
      go_ret
      exact ⟨ret_v (by rw [HR0.out]; rfl), chain (B0.out _ _) HB.out⟩

end Go.Proofs.YtcnlkdoifogkbaaGreatDoor

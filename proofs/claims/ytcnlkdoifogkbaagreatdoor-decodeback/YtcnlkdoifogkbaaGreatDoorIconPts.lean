/-
  How many points a path, an icon has, walked over the program.
-/
import Derived.Test.YtcnlkdoifogkbaaGreatDoorIconPaint2
namespace Go.Proofs.YtcnlkdoifogkbaaGreatDoor
open Go.RowKit

set_option maxRecDepth 20000 in
set_option maxHeartbeats 1000000 in
theorem pathpts_any (p : IC.Path) (w : World) (hp : PathOk w p) (hlen : p.segs.length ≤ 1000000) :
    Calls Tryz.prog 75 #[.agg p.cells.toArray] w fun e w' => e = .returned (.int .i64 (IC.pathPts p)) ∧ Below w.heap.size w w' := by
  obtain ⟨⟨sx, sy⟩, vs, segs, cl⟩ := p
  have HM : Hid (Many w 103 7 IC.Seg.cells vs segs) := hp
  obtain ⟨ad, cap, hv, hl1, hl2⟩ := HM.out.len
  unfold maxLen at hl2
  have hchk : IC.pathPts ⟨⟨sx, sy⟩, vs, segs, cl⟩ = 1 + IC.sumOf IC.segPts segs := rfl
  rw [hchk]; clear hchk
  simp only [IC.Path.cells]
  obtain ⟨L, hL⟩ : ∃ L, segs.length = L := ⟨_, rfl⟩
  have HL : Hid (segs.length = L) := hL
  have hlen' : L ≤ 1000000 := by rw [← hL]; exact hlen
  rw [hL] at hv hl1
  subst hv
  clear hp hlen hL
  have B0 : Hid (∀ o, Below w.heap.size w (w.alloc o)) := fun o => (Below.refl _ _).alloc (by omega) _
  go_enter Tryz.func75, Tryz.ntmps75
  go_wp2
  go_loopw [3, 9] (fun a i wr => ∃ (k : Nat) (S : Int), k ≤ L ∧ i = .int .i64 k ∧ a = .int .i64 S ∧ Hid (S = 1 + IC.sumOf IC.segPts (segs.take k)) ∧ 1 ≤ S ∧ S ≤ 1 + 3 * (k : Int) ∧ Hid (Below (w.alloc (.cells #[.int .i64 sx, .int .i64 sy, .slice ad L cap, .bool cl] 72)).heap.size (w.alloc (.cells #[.int .i64 sx, .int .i64 sy, .slice ad L cap, .bool cl] 72)) wr)) (fun _ i _ => L - (intOf i).toNat)
  case atStart => exact ⟨0, 1, by omega, rfl, rfl, by simp [IC.sumOf, Hid], by omega, by omega, Below.refl _ _⟩
  case round =>
    obtain ⟨k, S, hk, rfl, rfl, HS, S0, S1, HB⟩ := hrel
    obtain ⟨p, r⟩ := boxes1 HB.out
    have z1 := sizes1 HB.out
    by_cases hkL : k < L
    · have hks : k < segs.length := by rw [HL.out]; exact hkL
      obtain ⟨g, o, cap', hv', hg, -, -, hc⟩ := HM.out.at seg_len k hks
      obtain ⟨rfl, -⟩ : ad = some ⟨g, o, none⟩ ∧ _ := by simpa using hv'
      clear hv'
      obtain ⟨s, hs⟩ : ∃ s, segs[k] = s := ⟨_, rfl⟩
      have HS2 : Hid (1 + IC.sumOf IC.segPts (segs.take (k + 1)) = S + IC.segPts s) := by have e1 := IC.sumOf_take IC.segPts segs k hks; have e2 := HS.out; rw [hs] at e1; show (_ : Int) = _; omega
      have hb3 := IC.segPts_le s
      rw [hs] at hc
      obtain ⟨sk, ⟨ax, ay⟩, ⟨bx, b_y⟩, ⟨cx, cy⟩⟩ := s
      have kS : Hid (∀ w, Calls Tryz.prog 101 #[.int .i64 sk] w fun e w' => e = .returned (.bool (IC.within sk 1 3)) ∧ w' = w) := fun w => segkind_any sk w
      have c0 : wr.cell? ⟨g, o + k * 7, none⟩ = some (.int .i64 sk) := by rw [r g _ hg]; exact hc 0 _ rfl
      have c1 : wr.cell? ⟨g, o + k * 7 + 1, none⟩ = some (.int .i64 ax) := by rw [r g _ hg]; exact hc 1 _ rfl
      have c2 : wr.cell? ⟨g, o + k * 7 + 2, none⟩ = some (.int .i64 ay) := by rw [r g _ hg]; exact hc 2 _ rfl
      have c3 : wr.cell? ⟨g, o + k * 7 + 3, none⟩ = some (.int .i64 bx) := by rw [r g _ hg]; exact hc 3 _ rfl
      have c4 : wr.cell? ⟨g, o + k * 7 + 4, none⟩ = some (.int .i64 b_y) := by rw [r g _ hg]; exact hc 4 _ rfl
      have c5 : wr.cell? ⟨g, o + k * 7 + 5, none⟩ = some (.int .i64 cx) := by rw [r g _ hg]; exact hc 5 _ rfl
      have c6 : wr.cell? ⟨g, o + k * 7 + 6, none⟩ = some (.int .i64 cy) := by rw [r g _ hg]; exact hc 6 _ rfl
      have hseg : IC.segPts ⟨sk, ⟨ax, ay⟩, ⟨bx, b_y⟩, ⟨cx, cy⟩⟩ = if IC.within sk 1 3 then sk else 0 := rfl
      rw [hseg] at HS2 hb3
      clear hc r hs hseg
      generalize IC.within sk 1 3 = t at kS HS2 hb3
      cases t
      · have HS3 : Hid (S = 1 + IC.sumOf IC.segPts (segs.take (k + 1))) := by have e : 1 + IC.sumOf IC.segPts (segs.take (k + 1)) = S + 0 := HS2.out; show (_ : Int) = _; omega
        clear HS2 hb3
        go_wp2_with (go_at_call 101; refine (kS.out _).mono ?_; rintro e w3 ⟨rfl, rfl⟩)
        go_roundw
        case rel => exact ⟨k + 1, S, by omega, by go_num, rfl, HS3, by omega, by omega, chain HB.out ((Below.refl _ _).alloc (by omega) _)⟩
        case measure => simp [intOf]; omega
      · have hb4 : 0 ≤ sk ∧ sk ≤ 3 := by simpa using hb3
        have HS3 : Hid (S + sk = 1 + IC.sumOf IC.segPts (segs.take (k + 1))) := by have e : 1 + IC.sumOf IC.segPts (segs.take (k + 1)) = S + sk := HS2.out; exact e.symm
        clear HS2 hb3
        go_wp2_with (go_at_call 101; refine (kS.out _).mono ?_; rintro e w3 ⟨rfl, rfl⟩)
        go_roundw
        case rel => exact ⟨k + 1, S + sk, by omega, by go_num, by go_num, HS3, by omega, by omega, chain HB.out ((Below.refl _ _).alloc (by omega) _)⟩
        case measure => simp [intOf]; omega
    · obtain rfl : k = L := by omega
      have HS3 : Hid (S = 1 + IC.sumOf IC.segPts segs) := by rw [HS.out, List.take_of_length_le (by rw [HL.out]; omega)]; exact rfl
      clear r
      go_wp2
      go_ret
      exact ⟨ret_int HS3.out, chain (B0.out _) HB.out⟩

theorem cmdPts_le (c : IC.Cmd) (h1 : c.paths.length ≤ 1000) (h2 : ∀ p ∈ c.paths, p.segs.length ≤ 1000) : 0 ≤ IC.cmdPts c ∧ IC.cmdPts c ≤ 3001000 := by
  have hp : ∀ p ∈ c.paths, 0 ≤ IC.pathPts p ∧ IC.pathPts p ≤ 3001 := fun p hp => by
    have := IC.sumOf_le IC.segPts 3 p.segs (fun s _ => IC.segPts_le s)
    have := h2 p hp
    unfold IC.pathPts
    omega
  have := IC.sumOf_le IC.pathPts 3001 c.paths hp
  unfold IC.cmdPts
  omega

set_option maxRecDepth 20000 in
set_option maxHeartbeats 1000000 in
theorem points_any (i : IC.Icon) (w : World) (hi : IconOk w i) (hlen : i.cmds.length ≤ 1000) (hlen1 : ∀ c ∈ i.cmds, c.paths.length ≤ 1000) (hlen2 : ∀ c ∈ i.cmds, ∀ p ∈ c.paths, p.segs.length ≤ 1000) :
    Calls Tryz.prog 46 #[.agg i.cells.toArray] w fun e w' => e = .returned (.int .i64 (IC.points i)) ∧ Below w.heap.size w w' := by
  obtain ⟨iw, ih, is, vc, cols, vm, cmds⟩ := i
  have HM : Hid (Many w 62 11 IC.Cmd.cells vm cmds) := hi.2.1
  have HO : Hid (∀ c ∈ cmds, CmdOk w c ∧ c.paths.length ≤ 1000 ∧ ∀ p ∈ c.paths, p.segs.length ≤ 1000) := fun c hc => ⟨hi.2.2 c hc, hlen1 c hc, hlen2 c hc⟩
  obtain ⟨ad, cap, hv, hl1, hl2⟩ := HM.out.len
  unfold maxLen at hl2
  have hchk : IC.points ⟨iw, ih, is, vc, cols, vm, cmds⟩ = IC.sumOf IC.cmdPts cmds := rfl
  rw [hchk]; clear hchk
  simp only [IC.Icon.cells]
  obtain ⟨L, hL⟩ : ∃ L, cmds.length = L := ⟨_, rfl⟩
  have HL : Hid (cmds.length = L) := hL
  have hlen' : L ≤ 1000 := by rw [← hL]; exact hlen
  rw [hL] at hv hl1
  subst hv
  clear hi hlen hlen1 hlen2 hL
  have B0 : Hid (∀ o, Below w.heap.size w (w.alloc o)) := fun o => (Below.refl _ _).alloc (by omega) _
  go_enter Tryz.func46, Tryz.ntmps46
  go_wp2
  go_loopw [3, 11] (fun a i wr => ∃ (k : Nat) (S : Int), k ≤ L ∧ i = .int .i64 k ∧ a = .int .i64 S ∧ Hid (S = IC.sumOf IC.cmdPts (cmds.take k)) ∧ 0 ≤ S ∧ S ≤ 3001000 * (k : Int) ∧ Hid (Below (w.alloc (.cells #[.int .i64 iw, .int .i64 ih, .int .i64 is, vc, .slice ad L cap] 27)).heap.size (w.alloc (.cells #[.int .i64 iw, .int .i64 ih, .int .i64 is, vc, .slice ad L cap] 27)) wr)) (fun _ i _ => L - (intOf i).toNat)
  case atStart => exact ⟨0, 0, by omega, rfl, rfl, by simp [IC.sumOf, Hid], by omega, by omega, Below.refl _ _⟩
  case round =>
    obtain ⟨k, S, hk, rfl, rfl, HS, S0, S1, HB⟩ := hrel
    obtain ⟨p, r⟩ := boxes1 HB.out
    have z1 := sizes1 HB.out
    by_cases hkL : k < L
    · have hks : k < cmds.length := by rw [HL.out]; exact hkL
      obtain ⟨g, o, cap', hv', hg, -, -, hc⟩ := HM.out.at cmd_len k hks
      obtain ⟨rfl, -⟩ : ad = some ⟨g, o, none⟩ ∧ _ := by simpa using hv'
      clear hv'
      have hok := HO.out cmds[k] (List.getElem_mem hks)
      obtain ⟨s, hs⟩ : ∃ s, cmds[k] = s := ⟨_, rfl⟩
      have HS2 : Hid (IC.sumOf IC.cmdPts (cmds.take (k + 1)) = S + IC.cmdPts s) := by rw [IC.sumOf_take _ _ _ hks, hs, HS.out]; exact rfl
      rw [hs] at hc hok
      have hb3 := cmdPts_le s hok.2.1 hok.2.2
      obtain ⟨ck, cr, cw, ⟨pk, pa, pb, ⟨px, py⟩, ⟨qx, qy⟩⟩, vp, paths⟩ := s
      have HM2 : Hid (Many w 72 4 IC.Path.cells vp paths) := hok.1.1
      have HO2 : Hid (∀ p ∈ paths, PathOk w p ∧ p.segs.length ≤ 1000) := fun p hp => ⟨hok.1.2 p hp, hok.2.2 p hp⟩
      obtain ⟨ad2, cap2, hv2, hm1, hm2⟩ := HM2.out.len
      unfold maxLen at hm2
      have hM0 : paths.length ≤ 1000 := hok.2.1
      obtain ⟨M, hM⟩ : ∃ M, paths.length = M := ⟨_, rfl⟩
      have HLM : Hid (paths.length = M) := hM
      rw [hM] at hv2 hm1 hM0
      subst hv2
      have c0 : wr.cell? ⟨g, o + k * 11, none⟩ = some (.int .i64 ck) := by rw [r g _ hg]; exact hc 0 _ rfl
      have c1 : wr.cell? ⟨g, o + k * 11 + 1, none⟩ = some (.int .i64 cr) := by rw [r g _ hg]; exact hc 1 _ rfl
      have c2 : wr.cell? ⟨g, o + k * 11 + 2, none⟩ = some (.int .i64 cw) := by rw [r g _ hg]; exact hc 2 _ rfl
      have c3 : wr.cell? ⟨g, o + k * 11 + 3, none⟩ = some (.int .i64 pk) := by rw [r g _ hg]; exact hc 3 _ rfl
      have c4 : wr.cell? ⟨g, o + k * 11 + 4, none⟩ = some (.int .i64 pa) := by rw [r g _ hg]; exact hc 4 _ rfl
      have c5 : wr.cell? ⟨g, o + k * 11 + 5, none⟩ = some (.int .i64 pb) := by rw [r g _ hg]; exact hc 5 _ rfl
      have c6 : wr.cell? ⟨g, o + k * 11 + 6, none⟩ = some (.int .i64 px) := by rw [r g _ hg]; exact hc 6 _ rfl
      have c7 : wr.cell? ⟨g, o + k * 11 + 7, none⟩ = some (.int .i64 py) := by rw [r g _ hg]; exact hc 7 _ rfl
      have c8 : wr.cell? ⟨g, o + k * 11 + 8, none⟩ = some (.int .i64 qx) := by rw [r g _ hg]; exact hc 8 _ rfl
      have c9 : wr.cell? ⟨g, o + k * 11 + 9, none⟩ = some (.int .i64 qy) := by rw [r g _ hg]; exact hc 9 _ rfl
      have c10 : wr.cell? ⟨g, o + k * 11 + 10, none⟩ = some (.slice ad2 M cap2) := by rw [r g _ hg]; exact hc 10 _ rfl
      have hseg : ∀ vp, IC.cmdPts ⟨ck, cr, cw, ⟨pk, pa, pb, ⟨px, py⟩, ⟨qx, qy⟩⟩, vp, paths⟩ = IC.sumOf IC.pathPts paths := fun _ => rfl
      rw [hseg] at HS2 hb3
      clear hc r hs hseg hok hM
      have BW : Hid (∀ o, Below w.heap.size w (wr.alloc o)) := fun o => chain (chain (B0.out _) HB.out) ((Below.refl _ _).alloc (by omega) _)
      have HB2 : Hid (∀ ob, Below (w.alloc (.cells #[.int .i64 iw, .int .i64 ih, .int .i64 is, vc, .slice (some ⟨g, o, none⟩) L cap] 27)).heap.size (w.alloc (.cells #[.int .i64 iw, .int .i64 ih, .int .i64 is, vc, .slice (some ⟨g, o, none⟩) L cap] 27)) (wr.alloc ob)) := fun ob => chain HB.out ((Below.refl _ _).alloc (by omega) _)
      go_wp2
      clear c0 c1 c2 c3 c4 c5 c6 c7 c8 c9 c10 p
      rename World => wa
      go_loopw [3, 18] (fun a i wr => ∃ (j : Nat) (T : Int), j ≤ M ∧ i = .int .i64 j ∧ a = .int .i64 T ∧ Hid (T = S + IC.sumOf IC.pathPts (paths.take j)) ∧ 0 ≤ T ∧ T ≤ 3001000 * (k : Int) + 3001 * (j : Int) ∧ Hid (Below (wa.alloc (.cells #[.int .i64 ck, .int .i64 cr, .int .i64 cw, .int .i64 pk, .int .i64 pa, .int .i64 pb, .int .i64 px, .int .i64 py, .int .i64 qx, .int .i64 qy, .slice ad2 M cap2] 62)).heap.size (wa.alloc (.cells #[.int .i64 ck, .int .i64 cr, .int .i64 cw, .int .i64 pk, .int .i64 pa, .int .i64 pb, .int .i64 px, .int .i64 py, .int .i64 qx, .int .i64 qy, .slice ad2 M cap2] 62)) wr)) (fun _ i _ => M - (intOf i).toNat)
      case atStart => exact ⟨0, S, by omega, rfl, rfl, by simp [IC.sumOf, Hid], by omega, by omega, Below.refl _ _⟩
      case round =>
        obtain ⟨j, T, hj, rfl, rfl, HT, T0, T1, HC⟩ := hrel
        by_cases hjM : j < M
        · have hjs : j < paths.length := by rw [HLM.out]; exact hjM
          obtain ⟨g2, o2, cap3, hv', hg2, -, -, hc⟩ := HM2.out.at path_len j hjs
          obtain ⟨rfl, -⟩ : ad2 = some ⟨g2, o2, none⟩ ∧ _ := by simpa using hv'
          clear hv'
          have hok := HO2.out paths[j] (List.getElem_mem hjs)
          obtain ⟨s, hs⟩ : ∃ s, paths[j] = s := ⟨_, rfl⟩
          obtain ⟨ads, lens, caps, hvs⟩ : ∃ ads lens caps, s.vs = .slice ads lens caps := by rw [← hs]; obtain ⟨ads, caps, h, -, -⟩ := Many.len hok.1; exact ⟨_, _, _, h⟩
          have HT2 : Hid (S + IC.sumOf IC.pathPts (paths.take (j + 1)) = T + IC.pathPts s) := by have e1 := IC.sumOf_take IC.pathPts paths j hjs; have e2 := HT.out; rw [hs] at e1; show (_ : Int) = _; omega
          rw [hs] at hc hok
          have hb4 : 0 ≤ IC.pathPts s ∧ IC.pathPts s ≤ 3001 := by
            have := IC.sumOf_le IC.segPts 3 s.segs (fun s _ => IC.segPts_le s)
            have := hok.2
            unfold IC.pathPts
            omega
          obtain ⟨⟨sx, sy⟩, vs, segs, cl⟩ := s
          obtain rfl : vs = .slice ads lens caps := hvs
          have BC : Hid (Below w.heap.size w wr) := chain (BW.out _) HC.out
          have kS : Hid (∀ W, Below w.heap.size w W → Calls Tryz.prog 75 #[.agg #[.int .i64 sx, .int .i64 sy, .slice ads lens caps, .bool cl]] W fun e w' => e = .returned (.int .i64 (IC.pathPts ⟨⟨sx, sy⟩, .slice ads lens caps, segs, cl⟩)) ∧ Below W.heap.size W w') := fun W hb => pathpts_any _ W (hok.1.below hb) (Nat.le_trans hok.2 (by omega))
          have c0 : wr.cell? ⟨g2, o2 + j * 4, none⟩ = some (.int .i64 sx) := by rw [BC.out.cell (p := ⟨g2, _, none⟩) hg2]; exact hc 0 _ rfl
          have c1 : wr.cell? ⟨g2, o2 + j * 4 + 1, none⟩ = some (.int .i64 sy) := by rw [BC.out.cell (p := ⟨g2, _, none⟩) hg2]; exact hc 1 _ rfl
          have c2 : wr.cell? ⟨g2, o2 + j * 4 + 2, none⟩ = some (.slice ads lens caps) := by rw [BC.out.cell (p := ⟨g2, _, none⟩) hg2]; exact hc 2 _ rfl
          have c3 : wr.cell? ⟨g2, o2 + j * 4 + 3, none⟩ = some (.bool cl) := by rw [BC.out.cell (p := ⟨g2, _, none⟩) hg2]; exact hc 3 _ rfl
          clear hc hs hok
          generalize IC.pathPts ⟨⟨sx, sy⟩, .slice ads lens caps, segs, cl⟩ = X at HT2 kS hb4
          go_wp2_with (go_at_call 75; refine (kS.out _ (chain BC.out ((Below.refl _ _).alloc (by omega) _))).mono ?_; rintro e w3 ⟨rfl, hb3'⟩)
          go_roundw
          case rel => exact ⟨j + 1, T + X, by omega, by go_num, by go_num, HT2.out.symm, by omega, by omega, chain (chain HC.out ((Below.refl _ _).alloc (by omega) _)) hb3'⟩
          case measure => simp [intOf]; omega
        · obtain rfl : j = M := by omega
          have HT3 : Hid (T = IC.sumOf IC.cmdPts (cmds.take (k + 1))) := by rw [HS2.out, HT.out, List.take_of_length_le (by rw [HLM.out]; omega)]; exact rfl
          have hT4 : T ≤ 3001000 * (k : Int) + 3001000 := by
            have e := HT.out
            rw [List.take_of_length_le (by rw [HLM.out]; omega)] at e
            omega
          go_wp2
          go_roundw
          case rel => exact ⟨k + 1, T, by omega, by go_num, rfl, HT3, by omega, by omega, chain (HB2.out _) HC.out⟩
          case measure => simp [intOf]; omega
    · obtain rfl : k = L := by omega
      have HS3 : Hid (S = IC.sumOf IC.cmdPts cmds) := by rw [HS.out, List.take_of_length_le (by rw [HL.out]; omega)]; exact rfl
      clear r
      go_wp2
      go_ret
      exact ⟨ret_int HS3.out, chain (B0.out _) HB.out⟩

end Go.Proofs.YtcnlkdoifogkbaaGreatDoor

/-
  Whether an icon's colors are used in their order, walked over the program.
-/
import Derived.Test.YtcnlkdoifogkbaaGreatDoorIconCols
namespace Go.Proofs.YtcnlkdoifogkbaaGreatDoor
open Go.RowKit

theorem index_two (x y : Int) (W : World) :
    (Instr.index 137 (.agg #[.int .i64 x, .int .i64 y]) (.int .i64 0)).run Tryz.prog W = .ok (.int .i64 x) W ∧
    (Instr.index 137 (.agg #[.int .i64 x, .int .i64 y]) (.int .i64 1)).run Tryz.prog W = .ok (.int .i64 y) W := by
  refine ⟨?_, ?_⟩ <;> simp [Instr.index, asIntOf, run_underlying Tryz.underlying137, go_sem]

theorem place_none {u p : Int} (h : u < p) : IC.place u p = none := by unfold IC.place; rw [if_pos h]
theorem place_same {u p : Int} (h : p = u) : IC.place u p = some (u + 1) := by unfold IC.place; rw [if_neg (by omega), if_pos h]
theorem place_less {u p : Int} (h : p < u) : IC.place u p = some u := by unfold IC.place; rw [if_neg (by omega), if_neg (by omega)]

/-- How far the places of one command are seen. -/
def seen2 (u a b : Int) (j : Nat) (v : Int) : Prop := (j = 0 → v = u) ∧ (j = 1 → IC.place u a = some v) ∧ (j = 2 → ∃ u1, IC.place u a = some u1 ∧ IC.place u1 b = some v)

theorem used_cons (u : Int) (c : IC.Cmd) (r : List IC.Cmd) : IC.usedFrom u (c :: r) = match IC.place u c.pn.a with
    | none => none
    | some u1 => match IC.place u1 c.pn.b with
      | none => none
      | some u2 => IC.usedFrom u2 r := rfl

set_option maxRecDepth 20000 in
set_option maxHeartbeats 1000000 in
theorem used_any (i : IC.Icon) (w : World) (hi : IconOk w i) (hlen : i.cmds.length ≤ 1000000) :
    Calls Tryz.prog 48 #[.agg i.cells.toArray] w fun e w' => e = .returned (.bool (decide (IC.usedFrom 0 i.cmds = some (i.cols.length : Int)))) ∧ Below w.heap.size w w' := by
  obtain ⟨iw, ih, is, vc, cols, vm, cmds⟩ := i
  have HM : Hid (Many w 62 11 IC.Cmd.cells vm cmds) := hi.2.1
  have HO : Hid (∀ c ∈ cmds, CmdOk w c) := hi.2.2
  obtain ⟨ad, cap, hv, hl1, hl2⟩ := HM.out.len
  obtain ⟨adc, capc, hvc, hc1, hc2⟩ := Many.len hi.1
  unfold maxLen at hl2 hc2
  simp only [IC.Icon.cells]
  obtain ⟨L, hL⟩ : ∃ L, cmds.length = L := ⟨_, rfl⟩
  have HL : Hid (cmds.length = L) := hL
  have hlen' : L ≤ 1000000 := by rw [← hL]; exact hlen
  rw [hL] at hv hl1
  subst hv
  replace hvc : vc = .slice adc cols.length capc := hvc
  replace hc1 : cols.length ≤ capc := hc1
  obtain ⟨C, hC⟩ : ∃ C, cols.length = C := ⟨_, rfl⟩
  rw [hC] at hvc hc1 ⊢
  subst hvc
  clear hi hlen hL hC
  obtain ⟨R, hR⟩ : ∃ R, IC.usedFrom 0 cmds = R := ⟨_, rfl⟩
  rw [hR]
  have HR : Hid (IC.usedFrom 0 (cmds.drop 0) = R) := by rw [List.drop_zero]; exact hR
  clear hR
  have B0 : Hid (∀ o, Below w.heap.size w (w.alloc o)) := fun o => (Below.refl _ _).alloc (by omega) _
  go_enter Tryz.func48, Tryz.ntmps48
  go_wp2
  go_loopw [3, 11] (fun a i wr => ∃ (k : Nat) (u : Int), k ≤ L ∧ i = .int .i64 k ∧ a = .int .i64 u ∧ Hid (IC.usedFrom u (cmds.drop k) = R) ∧ 0 ≤ u ∧ u ≤ 2 * (k : Int) ∧ Hid (Below (w.alloc (.cells #[.int .i64 iw, .int .i64 ih, .int .i64 is, .slice adc C capc, .slice ad L cap] 27)).heap.size (w.alloc (.cells #[.int .i64 iw, .int .i64 ih, .int .i64 is, .slice adc C capc, .slice ad L cap] 27)) wr)) (fun _ i _ => L - (intOf i).toNat)
  case atStart => exact ⟨0, 0, by omega, rfl, rfl, HR, by omega, by omega, Below.refl _ _⟩
  case round =>
    obtain ⟨k, u, hk, rfl, rfl, HK, u0, u1, HB⟩ := hrel
    obtain ⟨p, r⟩ := boxes1 HB.out
    have z1 := sizes1 HB.out
    by_cases hkL : k < L
    · have hks : k < cmds.length := by rw [HL.out]; exact hkL
      obtain ⟨g, o, cap', hv', hg, -, -, hc⟩ := HM.out.at cmd_len k hks
      obtain ⟨rfl, -⟩ : ad = some ⟨g, o, none⟩ ∧ _ := by simpa using hv'
      clear hv'
      have hok := HO.out cmds[k] (List.getElem_mem hks)
      obtain ⟨s, hs⟩ : ∃ s, cmds[k] = s := ⟨_, rfl⟩
      obtain ⟨ads, lens, caps, hvs⟩ : ∃ ads lens caps, s.vp = .slice ads lens caps := by rw [← hs]; obtain ⟨ads, caps, h, -, -⟩ := Many.len hok.1; exact ⟨_, _, _, h⟩
      have HK2 : Hid (IC.usedFrom u (s :: cmds.drop (k + 1)) = R) := by rw [← HK.out, List.drop_eq_getElem_cons hks, hs]; exact rfl
      rw [hs] at hc
      obtain ⟨ck, cr, cw, ⟨pk, pa, pb, ⟨px, py⟩, ⟨qx, qy⟩⟩, vp, paths⟩ := s
      obtain rfl : vp = .slice ads lens caps := hvs
      have c0 : wr.cell? ⟨g, o + k * 11, none⟩ = some (.int .i64 ck) := by rw [r g _ hg]; exact hc 0 _ rfl
      have c1 : wr.cell? ⟨g, o + k * 11 + 1, none⟩ = some (.int .i64 cr) := by rw [r g _ hg]; exact hc 1 _ rfl
      have c2 : wr.cell? ⟨g, o + k * 11 + 2, none⟩ = some (.int .i64 cw) := by rw [r g _ hg]; exact hc 2 _ rfl
      have c3 : wr.cell? ⟨g, o + k * 11 + 3, none⟩ = some (.int .i64 pk) := by rw [r g _ hg]; exact hc 3 _ rfl
      have c4 : wr.cell? ⟨g, o + k * 11 + 4, none⟩ = some (.int .i64 pa) := by rw [r g _ hg]; exact hc 4 _ rfl
      have c5 : wr.cell? ⟨g, o + k * 11 + 5, none⟩ = some (.int .i64 pb) := by rw [r g _ hg]; exact hc 5 _ rfl
      have c6 : wr.cell? ⟨g, o + k * 11 + 6, none⟩ = some (.int .i64 px) := by rw [r g _ hg]; exact hc 6 _ rfl
      have c7 : wr.cell? ⟨g, o + k * 11 + 7, none⟩ = some (.int .i64 py) := by rw [r g _ hg]; exact hc 7 _ rfl
      have c8 : wr.cell? ⟨g, o + k * 11 + 8, none⟩ = some (.int .i64 qx) := by rw [r g _ hg]; exact hc 8 _ rfl
      have c9 : wr.cell? ⟨g, o + k * 11 + 9, none⟩ = some (.int .i64 qy) := by rw [r g _ hg]; exact hc 9 _ rfl
      have c10 : wr.cell? ⟨g, o + k * 11 + 10, none⟩ = some (.slice ads lens caps) := by rw [r g _ hg]; exact hc 10 _ rfl
      have HK3 := used_cons u ⟨ck, cr, cw, ⟨pk, pa, pb, ⟨px, py⟩, ⟨qx, qy⟩⟩, .slice ads lens caps, paths⟩ (cmds.drop (k + 1))
      have HK4 : Hid (R = match IC.place u pa with
        | none => none
        | some u1 => match IC.place u1 pb with
          | none => none
          | some u2 => IC.usedFrom u2 (cmds.drop (k + 1))) := HK2.out.symm.trans HK3
      have BW : Hid (∀ ob, Below (w.alloc (.cells #[.int .i64 iw, .int .i64 ih, .int .i64 is, .slice adc C capc, .slice (some ⟨g, o, none⟩) L cap] 27)).heap.size (w.alloc (.cells #[.int .i64 iw, .int .i64 ih, .int .i64 is, .slice adc C capc, .slice (some ⟨g, o, none⟩) L cap] 27)) (wr.alloc ob)) := fun ob => chain HB.out ((Below.refl _ _).alloc (by omega) _)
      clear hc r hs HK2 HK3 hok p
      go_wp2
      clear c0 c1 c2 c3 c4 c5 c6 c7 c8 c9 c10
      go_loop [3, 22] (fun a i => ∃ (j : Nat) (v : Int), j ≤ 2 ∧ i = .int .i64 j ∧ a = .int .i64 v ∧ 0 ≤ v ∧ v ≤ 2 * (k : Int) + j ∧ Hid (seen2 u pa pb j v)) (fun _ i => 2 - (intOf i).toNat)
      case atStart => exact ⟨0, u, by omega, rfl, rfl, by omega, by omega, ⟨fun _ => rfl, by omega, by omega⟩⟩
      case round =>
        obtain ⟨j, v, hj, rfl, rfl, v0, v1, HS⟩ := hrel
        have hcase : j = 0 ∨ j = 1 ∨ j = 2 := by omega
        rcases hcase with rfl | rfl | rfl
        · obtain rfl : v = u := HS.out.1 rfl
          have hx := fun W => (index_two pa pb W).1
          rcases Int.lt_trichotomy pa v with h | h | h
          · have h2 : (pa == v) = false := by simp; omega
            have HP : Hid (IC.place v pa = some v) := place_less h
            go_wp2
            go_round
            case rel => exact ⟨1, v, by omega, by go_num, rfl, by omega, by omega, ⟨by omega, fun _ => HP, by omega⟩⟩
            case measure => simp [intOf]
          · have h2 : (pa == v) = true := by simp; omega
            have h3 : ¬ v < pa := by omega
            have HP : Hid (IC.place v pa = some (v + 1)) := place_same h
            clear h
            go_wp2
            go_round
            case rel => exact ⟨1, v + 1, by omega, by go_num, by go_num, by omega, by omega, ⟨by omega, fun _ => HP, by omega⟩⟩
            case measure => simp [intOf]
          · have HR2 : Hid (R = none) := HK4.out.trans (by rw [place_none h])
            go_wp2
            go_ret
            exact ⟨ret_bool (by rw [HR2.out]; rfl), chain (B0.out _) (BW.out _)⟩
        · have HP0 : Hid (IC.place u pa = some v) := HS.out.2.1 rfl
          have hx := fun W => (index_two pa pb W).2
          rcases Int.lt_trichotomy pb v with h | h | h
          · have h2 : (pb == v) = false := by simp; omega
            have HP : Hid (IC.place v pb = some v) := place_less h
            go_wp2
            go_round
            case rel => exact ⟨2, v, by omega, by go_num, rfl, by omega, by omega, ⟨by omega, by omega, fun _ => ⟨v, HP0, HP⟩⟩⟩
            case measure => simp [intOf]
          · have h2 : (pb == v) = true := by simp; omega
            have h3 : ¬ v < pb := by omega
            have HP : Hid (IC.place v pb = some (v + 1)) := place_same h
            clear h
            go_wp2
            go_round
            case rel => exact ⟨2, v + 1, by omega, by go_num, by go_num, by omega, by omega, ⟨by omega, by omega, fun _ => ⟨v, HP0, HP⟩⟩⟩
            case measure => simp [intOf]
          · have HR2 : Hid (R = none) := HK4.out.trans (by rw [HP0.out]; show (match IC.place v pb with | none => none | some u2 => IC.usedFrom u2 (cmds.drop (k + 1))) = none; rw [place_none h])
            go_wp2
            go_ret
            exact ⟨ret_bool (by rw [HR2.out]; rfl), chain (B0.out _) (BW.out _)⟩
        · obtain ⟨u1', h1, h2⟩ := HS.out.2.2 rfl
          have HR2 : Hid (IC.usedFrom v (cmds.drop (k + 1)) = R) := by
            rw [HK4.out, h1]
            show _ = (match IC.place u1' pb with | none => none | some u2 => IC.usedFrom u2 (cmds.drop (k + 1)))
            rw [h2]
          clear h1 h2
          go_wp2
          go_roundw
          case rel => exact ⟨k + 1, v, by omega, by go_num, rfl, HR2, by omega, by omega, BW.out _⟩
          case measure => simp [intOf]; omega
    · obtain rfl : k = L := by omega
      have HR2 : Hid (R = some u) := by rw [← HK.out, List.drop_of_length_le (by rw [HL.out]; omega)]; exact rfl
      clear r
      go_wp2
      go_ret
      exact ⟨ret_bool (by rw [HR2.out, Bool.eq_iff_iff]; simp), chain (B0.out _) HB.out⟩

end Go.Proofs.YtcnlkdoifogkbaaGreatDoor

/-
  As many commands as may be, and one more: walked over the program.
-/
import Derived.Test.YtmkipfgglcpfaaaDoorIconLimBase
namespace Go.Proofs.YtmkipfgglcpfaaaDoor
open Go.RowKit

theorem fill_zero (v u : Value) : IC.chkCmd 4 1 (IC.fillOf v [IC.pathOf u [IC.line]]) = 0 := by
  rw [IC.fill_of _ _ (by simp)]
  have : IC.firstOf (IC.chkOne 4 1) [IC.pathOf u [IC.line]] = 0 := by unfold IC.firstOf; rw [IC.one_of, IC.path_of u _ (by simp) (by decide)]; simp [IC.firstOf]
  rw [this]
  simp

theorem lim_cmds {w : World} (vc vm u : Value) (l : List IC.Cmd) (h0 : l.length ≠ 0) (hf : Fills w (IC.pathOf u [IC.line]) l) : IC.chk (IC.iconOf vc vm l) = if 200 < l.length then 2 else 0 := by
  have h1 : IC.firstOf (IC.chkCmd 4 1) l = 0 := by
    clear h0
    induction l with
    | nil => rfl
    | cons c r ih =>
      obtain ⟨v, rfl, -⟩ := hf c (by simp)
      unfold IC.firstOf
      rw [if_pos (fill_zero v u)]
      exact ih fun c hc => hf c (by simp [hc])
  have h2 : IC.points (IC.iconOf vc vm l) = l.length * 2 := by
    show IC.sumOf IC.cmdPts l = _
    clear h0 h1
    induction l with
    | nil => rfl
    | cons c r ih =>
      obtain ⟨v, rfl, -⟩ := hf c (by simp)
      show IC.cmdPts (IC.fillOf v [IC.pathOf u [IC.line]]) + IC.sumOf IC.cmdPts r = _
      rw [ih fun c hc => hf c (by simp [hc])]
      have : IC.cmdPts (IC.fillOf v [IC.pathOf u [IC.line]]) = 2 := rfl
      rw [this, List.length_cons]
      omega
  rw [IC.chk_of _ _ _ h0 (fun c hc => by obtain ⟨v, rfl, -⟩ := hf c hc; exact ⟨rfl, rfl⟩), h1, h2]
  by_cases h : 200 < l.length
  · simp [h]
  · have h5 : ¬ (4000 : Int) < l.length * 2 := by omega
    simp [h, h5]

set_option maxRecDepth 100000 in
set_option maxHeartbeats 4000000 in
theorem limits2_false (A : Nat → Addr) (n : Int) (w : World) (hE : Errs13 w A) (hn : (n.tmod 4 + 4).tmod 4 = 2) (hr : -4 < n.tmod 4 ∧ n.tmod 4 < 4) :
    Calls Tryd.prog 4 #[.int .i64 n, .bool false] w fun e w' => e = .returned (.bool true) ∧ Below w.heap.size w w' := by
  have kf : Hid (∀ W, Below w.heap.size w W → Calls Tryd.prog 6 #[] W fun e w' => e = .returned (.bool true) ∧ Below W.heap.size W w') := fun W hb => first_any A W (hE.three.below hb)
  have HE : Hid (Errs13 w A) := hE
  clear hE
  obtain ⟨r, hr'⟩ : ∃ r, n.tmod 4 = r := ⟨_, rfl⟩
  rw [hr'] at hn hr
  go_enter Tryd.func4, Tryd.ntmps4
  go_wp2_with (go_at_call 6; refine (kf.out _ (Below.refl _ _)).mono ?_; rintro e w1 ⟨rfl, hb1⟩; have B1 : Hid (Below w.heap.size w w1) := hb1; clear hb1)
  obtain ⟨W, hW⟩ : ∃ W, (((((w1.alloc (.cells #[.int .i64 3, .int .i64 1, .int .i64 0, .int .i64 2, .int .i64 0, .int .i64 1, .int .i64 0] 36)).alloc (.cells #[.int .i64 1, .int .i64 0, .int .i64 0, .int .i64 0, .int .i64 0, .int .i64 0, .int .i64 0] 36)).alloc (.cells #[.int .u8 0, .int .u8 0, .int .u8 0, .int .u8 0] 46)).alloc (.cells #[.int .i64 1, .int .i64 1, .int .i64 0, .slice (some ⟨w1.heap.size + 1 + 1, 0, none⟩) 1 1, .slice none 0 0] 27)).alloc (.cells #[.int .i64 1, .int .i64 0, .int .i64 0, .int .i64 0, .int .i64 0, .int .i64 0, .int .i64 0] 36)).alloc (.cells #[.int .i64 0, .int .i64 0, .slice (some ⟨w1.heap.size + 1 + 1 + 1 + 1, 0, none⟩) 1 1, .bool false] 39) = W := ⟨_, rfl⟩
  rw [hW]
  obtain ⟨S, hS⟩ : ∃ S, w1.heap.size = S := ⟨_, rfl⟩
  have HZ : Hid (W.heap.size = S + 6) := by rw [← hW, ← hS]; show _ = _; simp
  have HW : Hid (Below w.heap.size w W) := by rw [← hW]; exact base_below B1.out _ _ _ _ _ _
  have HB : Hid (Blk W S 36 (IC.cubic.cells).toArray ∧ Blk W (S + 1) 36 (IC.line.cells).toArray ∧ Blk W (S + 1 + 1) 46 (IC.Col.cells ⟨0, 0, 0, 0⟩).toArray ∧ Blk W (S + 1 + 1 + 1) 27 #[.int .i64 1, .int .i64 1, .int .i64 0, .slice (some ⟨S + 1 + 1, 0, none⟩) 1 1, .slice none 0 0] ∧ Blk W (S + 1 + 1 + 1 + 1) 36 (IC.line.cells).toArray ∧ Blk W (S + 1 + 1 + 1 + 1 + 1) 39 (IC.pathOf (.slice (some ⟨S + 1 + 1 + 1 + 1, 0, none⟩) 1 1) [IC.line]).cells.toArray) := by rw [← hW, ← hS]; exact base_blocks w1 _ _ _ _ _ _
  have hS0 : w.heap.size ≤ S := by rw [← hS]; exact B1.out.size
  rw [hS]
  clear hW hS B1 kf
  go_loopw [19] (fun i wr => ∃ (k cap : Nat) (ad : Option Addr) (l : List IC.Cmd), k ≤ 200 ∧ i = .int .i64 k ∧ Hid (l.length = k) ∧ Hid (Own wr (S + 6) 44 11 IC.Cmd.cells ad cap l) ∧ Hid (Fills wr (IC.pathOf (.slice (some ⟨S + 1 + 1 + 1 + 1, 0, none⟩) 1 1) [IC.line]) l) ∧ Hid (Blk wr (S + 1 + 1 + 1) 27 #[.int .i64 1, .int .i64 1, .int .i64 0, .slice (some ⟨S + 1 + 1, 0, none⟩) 1 1, .slice ad k cap]) ∧ Hid (Blk wr (S + 1 + 1) 46 (IC.Col.cells ⟨0, 0, 0, 0⟩).toArray ∧ Blk wr (S + 1 + 1 + 1 + 1) 36 (IC.line.cells).toArray ∧ Blk wr (S + 1 + 1 + 1 + 1 + 1) 39 (IC.pathOf (.slice (some ⟨S + 1 + 1 + 1 + 1, 0, none⟩) 1 1) [IC.line]).cells.toArray) ∧ Hid (Below S W wr)) (fun i _ => 200 - (intOf i).toNat)
  case atStart => exact ⟨0, 0, none, [], by omega, rfl, rfl, own_nil _ _ _ _ _, (fun _ h => absurd h (by simp)), HB.out.2.2.2.1, ⟨HB.out.2.2.1, HB.out.2.2.2.2.1, HB.out.2.2.2.2.2⟩, Below.refl _ _⟩
  case round =>
    obtain ⟨k, cap, ad, l, hk, rfl, HL, HO, HF, HI, HK, HX⟩ := hrel
    have hz := HK.out.2.2.lt
    obtain ⟨⟨i0, i1, i2, i3, i4⟩, i5⟩ := cells_icon HI.out
    by_cases hkN : k < 200
    · obtain ⟨⟨l0, l1, l2, l3⟩, -⟩ := cells_path HK.out.2.2
      have zi : S + 1 + 1 + 1 < wr.heap.size := by omega
      have H1 : Hid (Blk (wr.alloc (.cells #[.int .i64 0, .int .i64 0, .slice (some ⟨S + 1 + 1 + 1 + 1, 0, none⟩) 1 1, .bool false] 39)) wr.heap.size 39 (IC.pathOf (.slice (some ⟨S + 1 + 1 + 1 + 1, 0, none⟩) 1 1) [IC.line]).cells.toArray) := blk_new wr 39 _
      go_wp2_with (at_builtin; refine wpList_push _ rfl (.tmp 149) (.tmp 153) 25 rfl (S + 6) 44 _ 11 104 Tryd.underlying25 infoCmd rfl (by decide) IC.Cmd.cells cmd_len l (IC.fillOf (.slice (some ⟨wr.heap.size, 0, none⟩) 1 1) [IC.pathOf (.slice (some ⟨S + 1 + 1 + 1 + 1, 0, none⟩) 1 1) [IC.line]]) k HL.out rfl ((HO.out.alloc _).alloc _) (wr.heap.size + 1) rfl (by rw [← size_alloc wr (.cells #[.int .i64 0, .int .i64 0, .slice (some ⟨S + 1 + 1 + 1 + 1, 0, none⟩) 1 1, .bool false] 39)]; exact new_cells _ _ _) (cmd_one _ rfl) (by omega) (by omega) (by simp; omega) ?_; intro ad' cap' w' hown' hg'
                   have hne : ∀ x, ad = some x → S + 6 ≤ x.block := fun x e => (HO.out.lt x e).1
                   have hty := ((HO.out.alloc (.cells #[.int .i64 0, .int .i64 0, .slice (some ⟨S + 1 + 1 + 1 + 1, 0, none⟩) 1 1, .bool false] 39)).alloc (.cells (IC.fillOf (.slice (some ⟨wr.heap.size, 0, none⟩) 1 1) [IC.pathOf (.slice (some ⟨S + 1 + 1 + 1 + 1, 0, none⟩) 1 1) [IC.line]]).cells.toArray 44)).typed (t' := 39) (by decide)
                   have HO' : Hid (Own w' (S + 6) 44 11 IC.Cmd.cells ad' cap' (l ++ [IC.fillOf (.slice (some ⟨wr.heap.size, 0, none⟩) 1 1) [IC.pathOf (.slice (some ⟨S + 1 + 1 + 1 + 1, 0, none⟩) 1 1) [IC.line]]])) := hown'
                   have HI' : Hid (Blk w' (S + 1 + 1 + 1) 27 #[.int .i64 1, .int .i64 1, .int .i64 0, .slice (some ⟨S + 1 + 1, 0, none⟩) 1 1, .slice ad k cap]) := ((HI.out.alloc _).alloc _).grown hg' (fun x e => by have := hne x e; omega)
                   have HF' : Hid (Fills w' (IC.pathOf (.slice (some ⟨S + 1 + 1 + 1 + 1, 0, none⟩) 1 1) [IC.line]) (l ++ [IC.fillOf (.slice (some ⟨wr.heap.size, 0, none⟩) 1 1) [IC.pathOf (.slice (some ⟨S + 1 + 1 + 1 + 1, 0, none⟩) 1 1) [IC.line]]])) := fun c hc => by
                     rcases List.mem_append.1 hc with hc | hc
                     · exact ((HF.out.below (((Below.refl _ _).alloc (Nat.le_refl _) _).alloc (by simp) _)).kept hg' hty) c hc
                     · obtain rfl : c = _ := by simpa using hc
                       exact ⟨_, rfl, Row.kept (many_one IC.Path.cells _ rfl (H1.out.alloc _)) hg' hty⟩
                   have HK' : Hid (Blk w' (S + 1 + 1) 46 (IC.Col.cells ⟨0, 0, 0, 0⟩).toArray ∧ Blk w' (S + 1 + 1 + 1 + 1) 36 (IC.line.cells).toArray ∧ Blk w' (S + 1 + 1 + 1 + 1 + 1) 39 (IC.pathOf (.slice (some ⟨S + 1 + 1 + 1 + 1, 0, none⟩) 1 1) [IC.line]).cells.toArray) := ⟨((HK.out.1.alloc _).alloc _).grown hg' (fun x e => by have := hne x e; omega), ((HK.out.2.1.alloc _).alloc _).grown hg' (fun x e => by have := hne x e; omega), ((HK.out.2.2.alloc _).alloc _).grown hg' (fun x e => by have := hne x e; omega)⟩
                   have HX' : Hid (Below S W w') := below_grown ((HX.out.alloc (by omega) _).alloc (by simp; omega) _) hg' (by simp; omega) (fun x e => by have := hne x e; omega)
                   clear hown' hg' hty
                   obtain ⟨⟨-, -, -, -, q2⟩, q4⟩ := cells_icon HI'.out)
      go_roundw
      case rel => exact ⟨k + 1, cap', ad', l ++ [IC.fillOf (.slice (some ⟨wr.heap.size, 0, none⟩) 1 1) [IC.pathOf (.slice (some ⟨S + 1 + 1 + 1 + 1, 0, none⟩) 1 1) [IC.line]]], by omega, by go_num, (by show (_ ++ [_]).length = _; simp; exact HL.out), HO'.out.setLow (by show S + 1 + 1 + 1 < S + 6; omega) _, HF'.out.kept (grown_set _ _ _) (HI'.out.typed (by decide)), HI'.out.set _, ⟨HK'.out.1.far (by show S + 1 + 1 ≠ S + 1 + 1 + 1; omega) _, HK'.out.2.1.far (by show S + 1 + 1 + 1 + 1 ≠ S + 1 + 1 + 1; omega) _, HK'.out.2.2.far (by show S + 1 + 1 + 1 + 1 + 1 ≠ S + 1 + 1 + 1; omega) _⟩, HX'.out.setCell (by show S ≤ S + 1 + 1 + 1; omega) _⟩
      case measure => simp [intOf]; omega
    obtain rfl : k = 200 := by omega
    have hok := cmds_ok HL.out HK.out.1 HK.out.2.1 HO.out HF.out
    have BX : Hid (Below w.heap.size w wr) := HW.out.trans (HX.out.mono (by omega))
    have hkC := check_any A _ wr (HE.out.three.below BX.out) hok
    have hval : errv A (IC.chk (IC.iconOf (.slice (some ⟨S + 1 + 1, 0, none⟩) 1 1) (.slice ad 200 cap) l)) = .nilIface := by
      have hll := HL.out
      rw [lim_cmds _ _ _ l (by omega) HF.out, hll]
      rfl
    rw [hval] at hkC
    have kC : Hid (Calls Tryd.prog 9 #[.agg #[.int .i64 1, .int .i64 1, .int .i64 0, .slice (some ⟨S + 1 + 1, 0, none⟩) 1 1, .slice ad 200 cap]] wr fun e w' => e = .returned .nilIface ∧ Below wr.heap.size wr w') := hkC
    clear hok hkC hval
    go_wp2_with (go_at_call 9; refine (kC.out).mono ?_; rintro e w5 ⟨rfl, hb5⟩; have B5 : Hid (Below w.heap.size w w5) := chain BX.out hb5; clear hb5)
    go_ret
    exact ⟨rfl, B5.out⟩

set_option maxRecDepth 100000 in
set_option maxHeartbeats 4000000 in
theorem limits2_true (A : Nat → Addr) (n : Int) (w : World) (hE : Errs13 w A) (hn : (n.tmod 4 + 4).tmod 4 = 2) (hr : -4 < n.tmod 4 ∧ n.tmod 4 < 4) :
    Calls Tryd.prog 4 #[.int .i64 n, .bool true] w fun e w' => e = .returned (.bool true) ∧ Below w.heap.size w w' := by
  have kf : Hid (∀ W, Below w.heap.size w W → Calls Tryd.prog 6 #[] W fun e w' => e = .returned (.bool true) ∧ Below W.heap.size W w') := fun W hb => first_any A W (hE.three.below hb)
  have HE : Hid (Errs13 w A) := hE
  clear hE
  obtain ⟨r, hr'⟩ : ∃ r, n.tmod 4 = r := ⟨_, rfl⟩
  rw [hr'] at hn hr
  go_enter Tryd.func4, Tryd.ntmps4
  go_wp2_with (go_at_call 6; refine (kf.out _ (Below.refl _ _)).mono ?_; rintro e w1 ⟨rfl, hb1⟩; have B1 : Hid (Below w.heap.size w w1) := hb1; clear hb1)
  obtain ⟨W, hW⟩ : ∃ W, (((((w1.alloc (.cells #[.int .i64 3, .int .i64 1, .int .i64 0, .int .i64 2, .int .i64 0, .int .i64 1, .int .i64 0] 36)).alloc (.cells #[.int .i64 1, .int .i64 0, .int .i64 0, .int .i64 0, .int .i64 0, .int .i64 0, .int .i64 0] 36)).alloc (.cells #[.int .u8 0, .int .u8 0, .int .u8 0, .int .u8 0] 46)).alloc (.cells #[.int .i64 1, .int .i64 1, .int .i64 0, .slice (some ⟨w1.heap.size + 1 + 1, 0, none⟩) 1 1, .slice none 0 0] 27)).alloc (.cells #[.int .i64 1, .int .i64 0, .int .i64 0, .int .i64 0, .int .i64 0, .int .i64 0, .int .i64 0] 36)).alloc (.cells #[.int .i64 0, .int .i64 0, .slice (some ⟨w1.heap.size + 1 + 1 + 1 + 1, 0, none⟩) 1 1, .bool false] 39) = W := ⟨_, rfl⟩
  rw [hW]
  obtain ⟨S, hS⟩ : ∃ S, w1.heap.size = S := ⟨_, rfl⟩
  have HZ : Hid (W.heap.size = S + 6) := by rw [← hW, ← hS]; show _ = _; simp
  have HW : Hid (Below w.heap.size w W) := by rw [← hW]; exact base_below B1.out _ _ _ _ _ _
  have HB : Hid (Blk W S 36 (IC.cubic.cells).toArray ∧ Blk W (S + 1) 36 (IC.line.cells).toArray ∧ Blk W (S + 1 + 1) 46 (IC.Col.cells ⟨0, 0, 0, 0⟩).toArray ∧ Blk W (S + 1 + 1 + 1) 27 #[.int .i64 1, .int .i64 1, .int .i64 0, .slice (some ⟨S + 1 + 1, 0, none⟩) 1 1, .slice none 0 0] ∧ Blk W (S + 1 + 1 + 1 + 1) 36 (IC.line.cells).toArray ∧ Blk W (S + 1 + 1 + 1 + 1 + 1) 39 (IC.pathOf (.slice (some ⟨S + 1 + 1 + 1 + 1, 0, none⟩) 1 1) [IC.line]).cells.toArray) := by rw [← hW, ← hS]; exact base_blocks w1 _ _ _ _ _ _
  have hS0 : w.heap.size ≤ S := by rw [← hS]; exact B1.out.size
  rw [hS]
  clear hW hS B1 kf
  go_loopw [19] (fun i wr => ∃ (k cap : Nat) (ad : Option Addr) (l : List IC.Cmd), k ≤ 201 ∧ i = .int .i64 k ∧ Hid (l.length = k) ∧ Hid (Own wr (S + 6) 44 11 IC.Cmd.cells ad cap l) ∧ Hid (Fills wr (IC.pathOf (.slice (some ⟨S + 1 + 1 + 1 + 1, 0, none⟩) 1 1) [IC.line]) l) ∧ Hid (Blk wr (S + 1 + 1 + 1) 27 #[.int .i64 1, .int .i64 1, .int .i64 0, .slice (some ⟨S + 1 + 1, 0, none⟩) 1 1, .slice ad k cap]) ∧ Hid (Blk wr (S + 1 + 1) 46 (IC.Col.cells ⟨0, 0, 0, 0⟩).toArray ∧ Blk wr (S + 1 + 1 + 1 + 1) 36 (IC.line.cells).toArray ∧ Blk wr (S + 1 + 1 + 1 + 1 + 1) 39 (IC.pathOf (.slice (some ⟨S + 1 + 1 + 1 + 1, 0, none⟩) 1 1) [IC.line]).cells.toArray) ∧ Hid (Below S W wr)) (fun i _ => 201 - (intOf i).toNat)
  case atStart => exact ⟨0, 0, none, [], by omega, rfl, rfl, own_nil _ _ _ _ _, (fun _ h => absurd h (by simp)), HB.out.2.2.2.1, ⟨HB.out.2.2.1, HB.out.2.2.2.2.1, HB.out.2.2.2.2.2⟩, Below.refl _ _⟩
  case round =>
    obtain ⟨k, cap, ad, l, hk, rfl, HL, HO, HF, HI, HK, HX⟩ := hrel
    have hz := HK.out.2.2.lt
    obtain ⟨⟨i0, i1, i2, i3, i4⟩, i5⟩ := cells_icon HI.out
    by_cases hkN : k < 201
    · obtain ⟨⟨l0, l1, l2, l3⟩, -⟩ := cells_path HK.out.2.2
      have zi : S + 1 + 1 + 1 < wr.heap.size := by omega
      have H1 : Hid (Blk (wr.alloc (.cells #[.int .i64 0, .int .i64 0, .slice (some ⟨S + 1 + 1 + 1 + 1, 0, none⟩) 1 1, .bool false] 39)) wr.heap.size 39 (IC.pathOf (.slice (some ⟨S + 1 + 1 + 1 + 1, 0, none⟩) 1 1) [IC.line]).cells.toArray) := blk_new wr 39 _
      go_wp2_with (at_builtin; refine wpList_push _ rfl (.tmp 149) (.tmp 153) 25 rfl (S + 6) 44 _ 11 104 Tryd.underlying25 infoCmd rfl (by decide) IC.Cmd.cells cmd_len l (IC.fillOf (.slice (some ⟨wr.heap.size, 0, none⟩) 1 1) [IC.pathOf (.slice (some ⟨S + 1 + 1 + 1 + 1, 0, none⟩) 1 1) [IC.line]]) k HL.out rfl ((HO.out.alloc _).alloc _) (wr.heap.size + 1) rfl (by rw [← size_alloc wr (.cells #[.int .i64 0, .int .i64 0, .slice (some ⟨S + 1 + 1 + 1 + 1, 0, none⟩) 1 1, .bool false] 39)]; exact new_cells _ _ _) (cmd_one _ rfl) (by omega) (by omega) (by simp; omega) ?_; intro ad' cap' w' hown' hg'
                   have hne : ∀ x, ad = some x → S + 6 ≤ x.block := fun x e => (HO.out.lt x e).1
                   have hty := ((HO.out.alloc (.cells #[.int .i64 0, .int .i64 0, .slice (some ⟨S + 1 + 1 + 1 + 1, 0, none⟩) 1 1, .bool false] 39)).alloc (.cells (IC.fillOf (.slice (some ⟨wr.heap.size, 0, none⟩) 1 1) [IC.pathOf (.slice (some ⟨S + 1 + 1 + 1 + 1, 0, none⟩) 1 1) [IC.line]]).cells.toArray 44)).typed (t' := 39) (by decide)
                   have HO' : Hid (Own w' (S + 6) 44 11 IC.Cmd.cells ad' cap' (l ++ [IC.fillOf (.slice (some ⟨wr.heap.size, 0, none⟩) 1 1) [IC.pathOf (.slice (some ⟨S + 1 + 1 + 1 + 1, 0, none⟩) 1 1) [IC.line]]])) := hown'
                   have HI' : Hid (Blk w' (S + 1 + 1 + 1) 27 #[.int .i64 1, .int .i64 1, .int .i64 0, .slice (some ⟨S + 1 + 1, 0, none⟩) 1 1, .slice ad k cap]) := ((HI.out.alloc _).alloc _).grown hg' (fun x e => by have := hne x e; omega)
                   have HF' : Hid (Fills w' (IC.pathOf (.slice (some ⟨S + 1 + 1 + 1 + 1, 0, none⟩) 1 1) [IC.line]) (l ++ [IC.fillOf (.slice (some ⟨wr.heap.size, 0, none⟩) 1 1) [IC.pathOf (.slice (some ⟨S + 1 + 1 + 1 + 1, 0, none⟩) 1 1) [IC.line]]])) := fun c hc => by
                     rcases List.mem_append.1 hc with hc | hc
                     · exact ((HF.out.below (((Below.refl _ _).alloc (Nat.le_refl _) _).alloc (by simp) _)).kept hg' hty) c hc
                     · obtain rfl : c = _ := by simpa using hc
                       exact ⟨_, rfl, Row.kept (many_one IC.Path.cells _ rfl (H1.out.alloc _)) hg' hty⟩
                   have HK' : Hid (Blk w' (S + 1 + 1) 46 (IC.Col.cells ⟨0, 0, 0, 0⟩).toArray ∧ Blk w' (S + 1 + 1 + 1 + 1) 36 (IC.line.cells).toArray ∧ Blk w' (S + 1 + 1 + 1 + 1 + 1) 39 (IC.pathOf (.slice (some ⟨S + 1 + 1 + 1 + 1, 0, none⟩) 1 1) [IC.line]).cells.toArray) := ⟨((HK.out.1.alloc _).alloc _).grown hg' (fun x e => by have := hne x e; omega), ((HK.out.2.1.alloc _).alloc _).grown hg' (fun x e => by have := hne x e; omega), ((HK.out.2.2.alloc _).alloc _).grown hg' (fun x e => by have := hne x e; omega)⟩
                   have HX' : Hid (Below S W w') := below_grown ((HX.out.alloc (by omega) _).alloc (by simp; omega) _) hg' (by simp; omega) (fun x e => by have := hne x e; omega)
                   clear hown' hg' hty
                   obtain ⟨⟨-, -, -, -, q2⟩, q4⟩ := cells_icon HI'.out)
      go_roundw
      case rel => exact ⟨k + 1, cap', ad', l ++ [IC.fillOf (.slice (some ⟨wr.heap.size, 0, none⟩) 1 1) [IC.pathOf (.slice (some ⟨S + 1 + 1 + 1 + 1, 0, none⟩) 1 1) [IC.line]]], by omega, by go_num, (by show (_ ++ [_]).length = _; simp; exact HL.out), HO'.out.setLow (by show S + 1 + 1 + 1 < S + 6; omega) _, HF'.out.kept (grown_set _ _ _) (HI'.out.typed (by decide)), HI'.out.set _, ⟨HK'.out.1.far (by show S + 1 + 1 ≠ S + 1 + 1 + 1; omega) _, HK'.out.2.1.far (by show S + 1 + 1 + 1 + 1 ≠ S + 1 + 1 + 1; omega) _, HK'.out.2.2.far (by show S + 1 + 1 + 1 + 1 + 1 ≠ S + 1 + 1 + 1; omega) _⟩, HX'.out.setCell (by show S ≤ S + 1 + 1 + 1; omega) _⟩
      case measure => simp [intOf]; omega
    obtain rfl : k = 201 := by omega
    have hok := cmds_ok HL.out HK.out.1 HK.out.2.1 HO.out HF.out
    have BX : Hid (Below w.heap.size w wr) := HW.out.trans (HX.out.mono (by omega))
    have hkC := check_any A _ wr (HE.out.three.below BX.out) hok
    have hval : errv A (IC.chk (IC.iconOf (.slice (some ⟨S + 1 + 1, 0, none⟩) 1 1) (.slice ad 201 cap) l)) = (.iface 106 (.pointer (some (A 1)))) := by
      have hll := HL.out
      rw [lim_cmds _ _ _ l (by omega) HF.out, hll]
      rfl
    rw [hval] at hkC
    have kC : Hid (Calls Tryd.prog 9 #[.agg #[.int .i64 1, .int .i64 1, .int .i64 0, .slice (some ⟨S + 1 + 1, 0, none⟩) 1 1, .slice ad 201 cap]] wr fun e w' => e = .returned (.iface 106 (.pointer (some (A 1)))) ∧ Below wr.heap.size wr w') := hkC
    clear hok hkC hval
    go_wp2_with (first
      | (go_at_call 9; refine (kC.out).mono ?_; rintro e w5 ⟨rfl, hb5⟩; have B5 : Hid (Below w.heap.size w w5) := chain BX.out hb5; clear hb5)
      | (go_at_call 10; refine (is_bare A w5 (HE.out.below B5.out) 5 (by omega) (A 1) rfl 106 rfl).mono ?_; rintro e w6 ⟨rfl, hb6⟩))
    go_ret
    exact ⟨rfl, chain B5.out hb6⟩

end Go.Proofs.YtmkipfgglcpfaaaDoor

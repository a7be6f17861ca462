/-
  As many segments as may be, and one more: walked over the program.
-/
import Derived.Test.YtmkipfgglcpfaaaDoorIconLimBase
namespace Go.Proofs.YtmkipfgglcpfaaaDoor
open Go.RowKit

theorem lim_path (vc vm vp vs : Value) (l : List IC.Seg) (h0 : l.length ≠ 0) (h : IC.firstOf (IC.chkSeg 4) l = 0) (hp : l.length ≤ 400 → IC.sumOf IC.segPts l ≤ 3000) :
    IC.chk (IC.iconOf vc vm [IC.fillOf vp [IC.pathOf vs l]]) = if 400 < l.length then 2 else 0 := by
  have h1 := IC.path_of vs l h0 h
  have h2 : IC.firstOf (IC.chkOne 4 1) [IC.pathOf vs l] = if 400 < l.length then 2 else 0 := by
    unfold IC.firstOf
    rw [IC.one_of, h1]
    by_cases h : 400 < l.length <;> simp [h, IC.firstOf]
  have h3 : IC.firstOf (IC.chkCmd 4 1) [IC.fillOf vp [IC.pathOf vs l]] = if 400 < l.length then 2 else 0 := by
    unfold IC.firstOf
    rw [IC.fill_of _ _ (by simp), h2]
    by_cases h : 400 < l.length <;> simp [h, IC.firstOf]
  have h4 : IC.points (IC.iconOf vc vm [IC.fillOf vp [IC.pathOf vs l]]) = 1 + IC.sumOf IC.segPts l := by
    simp only [IC.points, IC.iconOf, IC.sumOf, IC.cmdPts, IC.fillOf, IC.pathPts, IC.pathOf]
    omega
  rw [IC.chk_of _ _ _ (by simp) (by simp [IC.fillOf]), h3, h4]
  by_cases h : 400 < l.length
  · simp [h]
  · have := hp (by omega)
    have h5 : ¬ 4000 < 1 + IC.sumOf IC.segPts l := by omega
    simp [h, h5]

theorem lim_rep (vc vm vp vs : Value) (n : Nat) (hn : n ≠ 0) : IC.chk (IC.iconOf vc vm [IC.fillOf vp [IC.pathOf vs (List.replicate n IC.line)]]) = if 400 < n then 2 else 0 := by
  rw [lim_path vc vm vp vs _ (by rw [List.length_replicate]; exact hn) (IC.firstOf_rep _ _ _ IC.seg_line) (fun h => ?_), List.length_replicate]
  rw [List.length_replicate] at h
  rw [IC.sumOf_rep]
  have e : IC.segPts IC.line = 1 := rfl
  rw [e]
  omega

theorem lim3_false (vc vm vp vs : Value) : IC.chk (IC.iconOf vc vm [IC.fillOf vp [IC.pathOf vs (List.replicate 400 IC.line)]]) = 0 := by
  rw [lim_rep _ _ _ _ _ (by omega), if_neg (by omega)]

theorem lim3_true (vc vm vp vs : Value) : IC.chk (IC.iconOf vc vm [IC.fillOf vp [IC.pathOf vs (List.replicate 401 IC.line)]]) = 2 := by
  rw [lim_rep _ _ _ _ _ (by omega), if_pos (by omega)]

set_option maxRecDepth 100000 in
set_option maxHeartbeats 4000000 in
theorem limits3_false (A : Nat → Addr) (n : Int) (w : World) (hE : Errs13 w A) (hn : (n.tmod 4 + 4).tmod 4 = 3) (hr : -4 < n.tmod 4 ∧ n.tmod 4 < 4) :
    Calls Tryd.prog 4 #[.int .i64 n, .bool false] w fun e w' => e = .returned (.bool true) ∧ Below w.heap.size w w' := by
  have kf : Hid (∀ W, Below w.heap.size w W → Calls Tryd.prog 6 #[] W fun e w' => e = .returned (.bool true) ∧ Below W.heap.size W w') := fun W hb => first_any A W (hE.three.below hb)
  have HE : Hid (Errs13 w A) := hE
  clear hE
  obtain ⟨r, hr'⟩ : ∃ r, n.tmod 4 = r := ⟨_, rfl⟩
  rw [hr'] at hn hr
  go_enter Tryd.func4, Tryd.ntmps4
  go_wp2_with (go_at_call 6; refine (kf.out _ (Below.refl _ _)).mono ?_; rintro e w1 ⟨rfl, hb1⟩; have B1 : Hid (Below w.heap.size w w1) := hb1; clear hb1)
  obtain ⟨W, hW⟩ : ∃ W, (((((w1.alloc (.cells #[.int .i64 3, .int .i64 1, .int .i64 0, .int .i64 2, .int .i64 0, .int .i64 1, .int .i64 0] 36)).alloc (.cells #[.int .i64 1, .int .i64 0, .int .i64 0, .int .i64 0, .int .i64 0, .int .i64 0, .int .i64 0] 36)).alloc (.cells #[.int .u8 0, .int .u8 0, .int .u8 0, .int .u8 0] 46)).alloc (.cells #[.int .i64 1, .int .i64 1, .int .i64 0, .slice (some ⟨w1.heap.size + 1 + 1, 0, none⟩) 1 1, .slice none 0 0] 27)).alloc (.cells #[.int .i64 1, .int .i64 0, .int .i64 0, .int .i64 0, .int .i64 0, .int .i64 0, .int .i64 0] 36)).alloc (.cells #[.int .i64 0, .int .i64 0, .slice (some ⟨w1.heap.size + 1 + 1 + 1 + 1, 0, none⟩) 1 1, .bool false] 39) = W := ⟨_, rfl⟩
  rw [hW]
  obtain ⟨S, hS⟩ : ∃ S, w1.heap.size = S := ⟨_, rfl⟩
  have HZ : Hid (W.heap.size = S + 6) := by rw [← hW, ← hS]; show _ = _; simp
  have HW : Hid (Below w.heap.size w W) := by rw [← hW]; exact base_below B1.out _ _ _ _ _ _
  have HB : Hid (Blk W S 36 (IC.cubic.cells).toArray ∧ Blk W (S + 1) 36 (IC.line.cells).toArray ∧ Blk W (S + 1 + 1) 46 (IC.Col.cells ⟨0, 0, 0, 0⟩).toArray ∧ Blk W (S + 1 + 1 + 1) 27 #[.int .i64 1, .int .i64 1, .int .i64 0, .slice (some ⟨S + 1 + 1, 0, none⟩) 1 1, .slice none 0 0] ∧ Blk W (S + 1 + 1 + 1 + 1) 36 (IC.line.cells).toArray ∧ Blk W (S + 1 + 1 + 1 + 1 + 1) 39 (IC.pathOf (.slice (some ⟨S + 1 + 1 + 1 + 1, 0, none⟩) 1 1) [IC.line]).cells.toArray) := by rw [← hW, ← hS]; exact base_blocks w1 _ _ _ _ _ _
  have hS0 : w.heap.size ≤ S := by rw [← hS]; exact B1.out.size
  rw [hS]
  clear hW hS B1 kf
  go_loopw [21] (fun i wr => ∃ (k cap : Nat) (ad : Option Addr), k ≤ 400 ∧ i = .int .i64 k ∧ Hid (Own wr (S + 7) 36 7 IC.Seg.cells ad cap (List.replicate k IC.line)) ∧ Hid (Blk wr (S + 1 + 1 + 1 + 1 + 1 + 1) 39 (IC.pathOf (.slice ad k cap) []).cells.toArray) ∧ Hid (Below (S + 6) W wr)) (fun i _ => 400 - (intOf i).toNat)
  case atStart => exact ⟨0, 0, none, by omega, rfl, own_nil _ _ _ _ _, (by have h := blk_new W 39 #[.int .i64 0, .int .i64 0, .slice none 0 0, .bool false]; rw [HZ.out] at h; exact h), (Below.refl _ _).alloc (by rw [HZ.out]; omega) _⟩
  case round =>
    obtain ⟨k, cap, ad, hk, rfl, HO, HP, HX⟩ := hrel
    have hz := HP.out.lt
    obtain ⟨⟨d0, d1, d2, d3⟩, d4⟩ := cells_path HP.out
    by_cases hkN : k < 400
    · obtain ⟨l0, l1, l2, l3, l4, l5, l6⟩ := cells_line (HB.out.2.1.below HX.out (by omega))
      go_wp2_with (at_builtin; refine wpList_push _ rfl (.tmp 51) (.tmp 53) 37 rfl (S + 7) 36 _ 7 56 Tryd.underlying37 infoSeg rfl (by decide) IC.Seg.cells seg_len (List.replicate k IC.line) IC.line k (by simp) rfl (HO.out.alloc _) wr.heap.size rfl (new_cells _ _ _) (seg_one _) (by omega) (by omega) (by simp; omega) ?_; intro ad' cap' w' hown' hg'
                   have HO' : Hid (Own w' (S + 7) 36 7 IC.Seg.cells ad' cap' (List.replicate (k + 1) IC.line)) := hown'.rep
                   have HP' : Hid (Blk w' (S + 1 + 1 + 1 + 1 + 1 + 1) 39 (IC.pathOf (.slice ad k cap) []).cells.toArray) := (HP.out.alloc _).grown hg' (fun x e => by have := (HO.out.lt x e).1; omega)
                   have HX' : Hid (Below (S + 6) W w') := below_grown (HX.out.alloc (by omega) _) hg' (by simp; omega) (fun x e => by have := (HO.out.lt x e).1; omega)
                   clear hown' hg'
                   obtain ⟨⟨-, -, q2, -⟩, q4⟩ := cells_path HP'.out)
      go_roundw
      case rel => exact ⟨k + 1, cap', ad', by omega, by go_num, HO'.out.setLow (by show S + 1 + 1 + 1 + 1 + 1 + 1 < S + 7; omega) _, HP'.out.set _, HX'.out.setCell (by show S + 6 ≤ S + 1 + 1 + 1 + 1 + 1 + 1; omega) _⟩
      case measure => simp [intOf]; omega
    obtain rfl : k = 400 := by omega
    obtain ⟨⟨i0, i1, i2, i3, i4⟩, i5⟩ := cells_icon (HB.out.2.2.2.1.below HX.out (by omega))
    have zi : S + 1 + 1 + 1 < wr.heap.size := by omega
    have zj : S + 1 + 1 + 1 < wr.heap.size + 1 := by omega
    obtain ⟨X, hX⟩ : ∃ X, ((wr.setCell ⟨S + 1 + 1 + 1, 4, none⟩ (.slice (some ⟨wr.heap.size + 1, 0, none⟩) 1 1)).alloc (.cells #[.int .i64 0, .int .i64 0, .slice ad 400 cap, .bool false] 39)).alloc (.cells #[.int .i64 1, .int .i64 0, .int .i64 0, .int .i64 0, .int .i64 0, .int .i64 0, .int .i64 0, .int .i64 0, .int .i64 0, .int .i64 0, .slice (some ⟨wr.heap.size, 0, none⟩) 1 1] 44) = X := ⟨_, rfl⟩
    have hok := hX ▸ one_ok (v4 := .slice (some ⟨wr.heap.size + 1, 0, none⟩) 1 1) (HB.out.2.2.1.below HX.out (by omega)) HO.out
    have BR : Below w.heap.size w wr := HW.out.trans (HX.out.mono (by have := HW.out.size; have := HZ.out; omega))
    have BX : Hid (Below w.heap.size w X) := hX ▸ ((BR.setCell (by show _ ≤ S + 1 + 1 + 1; omega) _).alloc (by have := BR.size; simp; omega) _).alloc (by have := BR.size; simp; omega) _
    have hkC := check_any A _ X (HE.out.three.below BX.out) hok
    have hval : errv A (IC.chk (IC.iconOf (.slice (some ⟨S + 1 + 1, 0, none⟩) 1 1) (.slice (some ⟨wr.heap.size + 1, 0, none⟩) 1 1) [IC.fillOf (.slice (some ⟨wr.heap.size, 0, none⟩) 1 1) [IC.pathOf (.slice ad 400 cap) (List.replicate 400 IC.line)]])) = .nilIface := by
      rw [lim3_false]; rfl
    rw [hval] at hkC
    have kC : Hid (Calls Tryd.prog 9 #[.agg #[.int .i64 1, .int .i64 1, .int .i64 0, .slice (some ⟨S + 1 + 1, 0, none⟩) 1 1, .slice (some ⟨wr.heap.size + 1, 0, none⟩) 1 1]] X fun e w' => e = .returned .nilIface ∧ Below X.heap.size X w') := hkC
    clear hok BR hkC hval
    rw [← hX] at kC BX
    clear hX
    go_wp2_with (go_at_call 9; refine (kC.out).mono ?_; rintro e w5 ⟨rfl, hb5⟩; have B5 : Hid (Below w.heap.size w w5) := chain BX.out hb5; clear hb5)
    go_ret
    exact ⟨rfl, B5.out⟩

set_option maxRecDepth 100000 in
set_option maxHeartbeats 4000000 in
theorem limits3_true (A : Nat → Addr) (n : Int) (w : World) (hE : Errs13 w A) (hn : (n.tmod 4 + 4).tmod 4 = 3) (hr : -4 < n.tmod 4 ∧ n.tmod 4 < 4) :
    Calls Tryd.prog 4 #[.int .i64 n, .bool true] w fun e w' => e = .returned (.bool true) ∧ Below w.heap.size w w' := by
  have kf : Hid (∀ W, Below w.heap.size w W → Calls Tryd.prog 6 #[] W fun e w' => e = .returned (.bool true) ∧ Below W.heap.size W w') := fun W hb => first_any A W (hE.three.below hb)
  have HE : Hid (Errs13 w A) := hE
  clear hE
  obtain ⟨r, hr'⟩ : ∃ r, n.tmod 4 = r := ⟨_, rfl⟩
  rw [hr'] at hn hr
  go_enter Tryd.func4, Tryd.ntmps4
  go_wp2_with (go_at_call 6; refine (kf.out _ (Below.refl _ _)).mono ?_; rintro e w1 ⟨rfl, hb1⟩; have B1 : Hid (Below w.heap.size w w1) := hb1; clear hb1)
  obtain ⟨W, hW⟩ : ∃ W, (((((w1.alloc (.cells #[.int .i64 3, .int .i64 1, .int .i64 0, .int .i64 2, .int .i64 0, .int .i64 1, .int .i64 0] 36)).alloc (.cells #[.int .i64 1, .int .i64 0, .int .i64 0, .int .i64 0, .int .i64 0, .int .i64 0, .int .i64 0] 36)).alloc (.cells #[.int .u8 0, .int .u8 0, .int .u8 0, .int .u8 0] 46)).alloc (.cells #[.int .i64 1, .int .i64 1, .int .i64 0, .slice (some ⟨w1.heap.size + 1 + 1, 0, none⟩) 1 1, .slice none 0 0] 27)).alloc (.cells #[.int .i64 1, .int .i64 0, .int .i64 0, .int .i64 0, .int .i64 0, .int .i64 0, .int .i64 0] 36)).alloc (.cells #[.int .i64 0, .int .i64 0, .slice (some ⟨w1.heap.size + 1 + 1 + 1 + 1, 0, none⟩) 1 1, .bool false] 39) = W := ⟨_, rfl⟩
  rw [hW]
  obtain ⟨S, hS⟩ : ∃ S, w1.heap.size = S := ⟨_, rfl⟩
  have HZ : Hid (W.heap.size = S + 6) := by rw [← hW, ← hS]; show _ = _; simp
  have HW : Hid (Below w.heap.size w W) := by rw [← hW]; exact base_below B1.out _ _ _ _ _ _
  have HB : Hid (Blk W S 36 (IC.cubic.cells).toArray ∧ Blk W (S + 1) 36 (IC.line.cells).toArray ∧ Blk W (S + 1 + 1) 46 (IC.Col.cells ⟨0, 0, 0, 0⟩).toArray ∧ Blk W (S + 1 + 1 + 1) 27 #[.int .i64 1, .int .i64 1, .int .i64 0, .slice (some ⟨S + 1 + 1, 0, none⟩) 1 1, .slice none 0 0] ∧ Blk W (S + 1 + 1 + 1 + 1) 36 (IC.line.cells).toArray ∧ Blk W (S + 1 + 1 + 1 + 1 + 1) 39 (IC.pathOf (.slice (some ⟨S + 1 + 1 + 1 + 1, 0, none⟩) 1 1) [IC.line]).cells.toArray) := by rw [← hW, ← hS]; exact base_blocks w1 _ _ _ _ _ _
  have hS0 : w.heap.size ≤ S := by rw [← hS]; exact B1.out.size
  rw [hS]
  clear hW hS B1 kf
  go_loopw [21] (fun i wr => ∃ (k cap : Nat) (ad : Option Addr), k ≤ 401 ∧ i = .int .i64 k ∧ Hid (Own wr (S + 7) 36 7 IC.Seg.cells ad cap (List.replicate k IC.line)) ∧ Hid (Blk wr (S + 1 + 1 + 1 + 1 + 1 + 1) 39 (IC.pathOf (.slice ad k cap) []).cells.toArray) ∧ Hid (Below (S + 6) W wr)) (fun i _ => 401 - (intOf i).toNat)
  case atStart => exact ⟨0, 0, none, by omega, rfl, own_nil _ _ _ _ _, (by have h := blk_new W 39 #[.int .i64 0, .int .i64 0, .slice none 0 0, .bool false]; rw [HZ.out] at h; exact h), (Below.refl _ _).alloc (by rw [HZ.out]; omega) _⟩
  case round =>
    obtain ⟨k, cap, ad, hk, rfl, HO, HP, HX⟩ := hrel
    have hz := HP.out.lt
    obtain ⟨⟨d0, d1, d2, d3⟩, d4⟩ := cells_path HP.out
    by_cases hkN : k < 401
    · obtain ⟨l0, l1, l2, l3, l4, l5, l6⟩ := cells_line (HB.out.2.1.below HX.out (by omega))
      go_wp2_with (at_builtin; refine wpList_push _ rfl (.tmp 51) (.tmp 53) 37 rfl (S + 7) 36 _ 7 56 Tryd.underlying37 infoSeg rfl (by decide) IC.Seg.cells seg_len (List.replicate k IC.line) IC.line k (by simp) rfl (HO.out.alloc _) wr.heap.size rfl (new_cells _ _ _) (seg_one _) (by omega) (by omega) (by simp; omega) ?_; intro ad' cap' w' hown' hg'
                   have HO' : Hid (Own w' (S + 7) 36 7 IC.Seg.cells ad' cap' (List.replicate (k + 1) IC.line)) := hown'.rep
                   have HP' : Hid (Blk w' (S + 1 + 1 + 1 + 1 + 1 + 1) 39 (IC.pathOf (.slice ad k cap) []).cells.toArray) := (HP.out.alloc _).grown hg' (fun x e => by have := (HO.out.lt x e).1; omega)
                   have HX' : Hid (Below (S + 6) W w') := below_grown (HX.out.alloc (by omega) _) hg' (by simp; omega) (fun x e => by have := (HO.out.lt x e).1; omega)
                   clear hown' hg'
                   obtain ⟨⟨-, -, q2, -⟩, q4⟩ := cells_path HP'.out)
      go_roundw
      case rel => exact ⟨k + 1, cap', ad', by omega, by go_num, HO'.out.setLow (by show S + 1 + 1 + 1 + 1 + 1 + 1 < S + 7; omega) _, HP'.out.set _, HX'.out.setCell (by show S + 6 ≤ S + 1 + 1 + 1 + 1 + 1 + 1; omega) _⟩
      case measure => simp [intOf]; omega
    obtain rfl : k = 401 := by omega
    obtain ⟨⟨i0, i1, i2, i3, i4⟩, i5⟩ := cells_icon (HB.out.2.2.2.1.below HX.out (by omega))
    have zi : S + 1 + 1 + 1 < wr.heap.size := by omega
    have zj : S + 1 + 1 + 1 < wr.heap.size + 1 := by omega
    obtain ⟨X, hX⟩ : ∃ X, ((wr.setCell ⟨S + 1 + 1 + 1, 4, none⟩ (.slice (some ⟨wr.heap.size + 1, 0, none⟩) 1 1)).alloc (.cells #[.int .i64 0, .int .i64 0, .slice ad 401 cap, .bool false] 39)).alloc (.cells #[.int .i64 1, .int .i64 0, .int .i64 0, .int .i64 0, .int .i64 0, .int .i64 0, .int .i64 0, .int .i64 0, .int .i64 0, .int .i64 0, .slice (some ⟨wr.heap.size, 0, none⟩) 1 1] 44) = X := ⟨_, rfl⟩
    have hok := hX ▸ one_ok (v4 := .slice (some ⟨wr.heap.size + 1, 0, none⟩) 1 1) (HB.out.2.2.1.below HX.out (by omega)) HO.out
    have BR : Below w.heap.size w wr := HW.out.trans (HX.out.mono (by have := HW.out.size; have := HZ.out; omega))
    have BX : Hid (Below w.heap.size w X) := hX ▸ ((BR.setCell (by show _ ≤ S + 1 + 1 + 1; omega) _).alloc (by have := BR.size; simp; omega) _).alloc (by have := BR.size; simp; omega) _
    have hkC := check_any A _ X (HE.out.three.below BX.out) hok
    have hval : errv A (IC.chk (IC.iconOf (.slice (some ⟨S + 1 + 1, 0, none⟩) 1 1) (.slice (some ⟨wr.heap.size + 1, 0, none⟩) 1 1) [IC.fillOf (.slice (some ⟨wr.heap.size, 0, none⟩) 1 1) [IC.pathOf (.slice ad 401 cap) (List.replicate 401 IC.line)]])) = (.iface 106 (.pointer (some (A 1)))) := by
      rw [lim3_true]; rfl
    rw [hval] at hkC
    have kC : Hid (Calls Tryd.prog 9 #[.agg #[.int .i64 1, .int .i64 1, .int .i64 0, .slice (some ⟨S + 1 + 1, 0, none⟩) 1 1, .slice (some ⟨wr.heap.size + 1, 0, none⟩) 1 1]] X fun e w' => e = .returned (.iface 106 (.pointer (some (A 1)))) ∧ Below X.heap.size X w') := hkC
    clear hok BR hkC hval
    rw [← hX] at kC BX
    clear hX
    go_wp2_with (first
      | (go_at_call 9; refine (kC.out).mono ?_; rintro e w5 ⟨rfl, hb5⟩; have B5 : Hid (Below w.heap.size w w5) := chain BX.out hb5; clear hb5)
      | (go_at_call 10; refine (is_bare A w5 (HE.out.below B5.out) 5 (by omega) (A 1) rfl 106 rfl).mono ?_; rintro e w6 ⟨rfl, hb6⟩))
    go_ret
    exact ⟨rfl, chain B5.out hb6⟩

end Go.Proofs.YtmkipfgglcpfaaaDoor

/-
  As many paths as may be, and one more: walked over the program.
-/
import Derived.Test.YtmkipfgglcpfaaaDoorIconLimBase
namespace Go.Proofs.YtmkipfgglcpfaaaDoor
open Go.RowKit

theorem one_zero (v : Value) : IC.chkOne 4 1 (IC.pathOf v [IC.line]) = 0 := by rw [IC.one_of, IC.path_of v _ (by simp) (by decide)]; simp
theorem one_pts (v : Value) : IC.pathPts (IC.pathOf v [IC.line]) = 2 := rfl

theorem lim_paths (vc vm vp vs : Value) (n : Nat) (hn : n ≠ 0) : IC.chk (IC.iconOf vc vm [IC.fillOf vp (List.replicate n (IC.pathOf vs [IC.line]))]) = if 200 < n then 2 else 0 := by
  have h3 : IC.firstOf (IC.chkCmd 4 1) [IC.fillOf vp (List.replicate n (IC.pathOf vs [IC.line]))] = if 200 < n then 2 else 0 := by
    unfold IC.firstOf
    rw [IC.fill_of _ _ (by rw [List.length_replicate]; exact hn), IC.firstOf_rep _ _ _ (one_zero vs), List.length_replicate]
    by_cases h : 200 < n <;> simp [h, IC.firstOf]
  have h4 : IC.points (IC.iconOf vc vm [IC.fillOf vp (List.replicate n (IC.pathOf vs [IC.line]))]) = n * 2 := by
    simp only [IC.points, IC.iconOf, IC.sumOf, IC.cmdPts, IC.fillOf]
    rw [IC.sumOf_rep, one_pts]
    omega
  rw [IC.chk_of _ _ _ (by simp) (by simp [IC.fillOf]), h3, h4]
  by_cases h : 200 < n
  · simp [h]
  · have h5 : ¬ (4000 : Int) < n * 2 := by omega
    simp [h, h5]

theorem lim1_false (vc vm vp vs : Value) : IC.chk (IC.iconOf vc vm [IC.fillOf vp (List.replicate 200 (IC.pathOf vs [IC.line]))]) = 0 := by
  rw [lim_paths _ _ _ _ _ (by omega), if_neg (by omega)]

theorem lim1_true (vc vm vp vs : Value) : IC.chk (IC.iconOf vc vm [IC.fillOf vp (List.replicate 201 (IC.pathOf vs [IC.line]))]) = 2 := by
  rw [lim_paths _ _ _ _ _ (by omega), if_pos (by omega)]

set_option maxRecDepth 100000 in
set_option maxHeartbeats 4000000 in
theorem limits1_false (A : Nat → Addr) (n : Int) (w : World) (hE : Errs13 w A) (hn : (n.tmod 4 + 4).tmod 4 = 1) (hr : -4 < n.tmod 4 ∧ n.tmod 4 < 4) :
    Calls Tryd.prog 4 #[.int .i64 n, .bool false] w fun e w' => e = .returned (.bool true) ∧ Below w.heap.size w w' := by
  have kf : Hid (∀ W, Below w.heap.size w W → Calls Tryd.prog 6 #[] W fun e w' => e = .returned (.bool true) ∧ Below W.heap.size W w') := fun W hb => first_any A W (hE.three.below hb)
  have HE : Hid (Errs13 w A) := hE
  clear hE
  obtain ⟨r, hr'⟩ : ∃ r, n.tmod 4 = r := ⟨_, rfl⟩
  rw [hr'] at hn hr
  go_enter Tryd.func4, Tryd.ntmps4
  go_wp2_with (go_at_call 6; refine (kf.out _ (Below.refl _ _)).mono ?_; rintro e w1 ⟨rfl, hb1⟩; have B1 : Hid (Below w.heap.size w w1) := hb1; clear hb1)
  obtain ⟨W, hW⟩ : ∃ W, (((((w1.alloc (.cells #[.int .i64 3, .int .i64 1, .int .i64 0, .int .i64 2, .int .i64 0, .int .i64 1, .int .i64 0] 36)).alloc (.cells #[.int .i64 1, .int .i64 0, .int .i64 0, .int .i64 0, .int .i64 0, .int .i64 0, .int .i64 0] 36)).alloc (.cells #[.int .u8 0, .int .u8 0, .int .u8 0, .int .u8 0] 46)).alloc (.cells #[.int .i64 1, .int .i64 1, .int .i64 0, .slice (some ⟨w1.heap.size + 1 + 1, 0, none⟩) 1 1, .slice none 0 0] 27)).alloc (.cells #[.int .i64 1, .int .i64 0, .int .i64 0, .int .i64 0, .int .i64 0, .int .i64 0, .int .i64 0] 36)).alloc (.cells #[.int .i64 0, .int .i64 0, .slice (some ⟨w1.heap.size + 1 + 1 + 1 + 1, 0, none⟩) 1 1, .bool false] 39) = W := ⟨_, rfl⟩
  rw [hW]
  obtain ⟨S, hS⟩ : ∃ S, w1.heap.size = S := ⟨_, rfl⟩
  have HZ : Hid (W.heap.size = S + 6) := by rw [← hW, ← hS]; show _ = _; simp
  have HW : Hid (Below w.heap.size w W) := by rw [← hW]; exact base_below B1.out _ _ _ _ _ _
  have HB : Hid (Blk W S 36 (IC.cubic.cells).toArray ∧ Blk W (S + 1) 36 (IC.line.cells).toArray ∧ Blk W (S + 1 + 1) 46 (IC.Col.cells ⟨0, 0, 0, 0⟩).toArray ∧ Blk W (S + 1 + 1 + 1) 27 #[.int .i64 1, .int .i64 1, .int .i64 0, .slice (some ⟨S + 1 + 1, 0, none⟩) 1 1, .slice none 0 0] ∧ Blk W (S + 1 + 1 + 1 + 1) 36 (IC.line.cells).toArray ∧ Blk W (S + 1 + 1 + 1 + 1 + 1) 39 (IC.pathOf (.slice (some ⟨S + 1 + 1 + 1 + 1, 0, none⟩) 1 1) [IC.line]).cells.toArray) := by rw [← hW, ← hS]; exact base_blocks w1 _ _ _ _ _ _
  have hS0 : w.heap.size ≤ S := by rw [← hS]; exact B1.out.size
  rw [hS]
  clear hW hS B1 kf
  go_loopw [18] (fun i wr => ∃ (k cap : Nat) (ad : Option Addr), k ≤ 200 ∧ i = .int .i64 k ∧ Hid (Own wr (S + 7) 39 4 IC.Path.cells ad cap (List.replicate k (IC.pathOf (.slice (some ⟨S + 1 + 1 + 1 + 1, 0, none⟩) 1 1) [IC.line]))) ∧ Hid (Blk wr (S + 1 + 1 + 1 + 1 + 1 + 1) 44 (IC.fillOf (.slice ad k cap) []).cells.toArray) ∧ Hid (Below (S + 6) W wr)) (fun i _ => 200 - (intOf i).toNat)
  case atStart => exact ⟨0, 0, none, by omega, rfl, own_nil _ _ _ _ _, (by have h := blk_new W 44 (IC.fillOf (.slice none 0 0) []).cells.toArray; rw [HZ.out] at h; exact h), (Below.refl _ _).alloc (by rw [HZ.out]; omega) _⟩
  case round =>
    obtain ⟨k, cap, ad, hk, rfl, HO, HP, HX⟩ := hrel
    have hz := HP.out.lt
    obtain ⟨⟨d0, d1, d2, d3, d4, d5, d6, d7, d8, d9, d10⟩, d11⟩ := cells_fill HP.out
    by_cases hkN : k < 200
    · obtain ⟨⟨l0, l1, l2, l3⟩, -⟩ := cells_path (HB.out.2.2.2.2.2.below HX.out (by omega))
      go_wp2_with (at_builtin; refine wpList_push _ rfl (.tmp 132) (.tmp 134) 40 rfl (S + 7) 39 _ 4 48 Tryd.underlying40 infoPath rfl (by decide) IC.Path.cells path_len (List.replicate k (IC.pathOf (.slice (some ⟨S + 1 + 1 + 1 + 1, 0, none⟩) 1 1) [IC.line])) (IC.pathOf (.slice (some ⟨S + 1 + 1 + 1 + 1, 0, none⟩) 1 1) [IC.line]) k (by simp) rfl (HO.out.alloc _) wr.heap.size rfl (new_cells _ _ _) (path_one _ rfl) (by omega) (by omega) (by simp; omega) ?_; intro ad' cap' w' hown' hg'
                   have HO' : Hid (Own w' (S + 7) 39 4 IC.Path.cells ad' cap' (List.replicate (k + 1) (IC.pathOf (.slice (some ⟨S + 1 + 1 + 1 + 1, 0, none⟩) 1 1) [IC.line]))) := hown'.rep
                   have HP' : Hid (Blk w' (S + 1 + 1 + 1 + 1 + 1 + 1) 44 (IC.fillOf (.slice ad k cap) []).cells.toArray) := (HP.out.alloc _).grown hg' (fun x e => by have := (HO.out.lt x e).1; omega)
                   have HX' : Hid (Below (S + 6) W w') := below_grown (HX.out.alloc (by omega) _) hg' (by simp; omega) (fun x e => by have := (HO.out.lt x e).1; omega)
                   clear hown' hg'
                   obtain ⟨⟨-, -, -, -, -, -, -, -, -, -, q2⟩, q4⟩ := cells_fill HP'.out)
      go_roundw
      case rel => exact ⟨k + 1, cap', ad', by omega, by go_num, HO'.out.setLow (by show S + 1 + 1 + 1 + 1 + 1 + 1 < S + 7; omega) _, HP'.out.set _, HX'.out.setCell (by show S + 6 ≤ S + 1 + 1 + 1 + 1 + 1 + 1; omega) _⟩
      case measure => simp [intOf]; omega
    obtain rfl : k = 200 := by omega
    obtain ⟨⟨i0, i1, i2, i3, i4⟩, i5⟩ := cells_icon (HB.out.2.2.2.1.below HX.out (by omega))
    have zi : S + 1 + 1 + 1 < wr.heap.size := by omega
    obtain ⟨X, hX⟩ : ∃ X, (wr.setCell ⟨S + 1 + 1 + 1, 4, none⟩ (.slice (some ⟨wr.heap.size, 0, none⟩) 1 1)).alloc (.cells #[.int .i64 1, .int .i64 0, .int .i64 0, .int .i64 0, .int .i64 0, .int .i64 0, .int .i64 0, .int .i64 0, .int .i64 0, .int .i64 0, .slice ad 200 cap] 44) = X := ⟨_, rfl⟩
    have hok := hX ▸ paths_ok (v4 := .slice (some ⟨wr.heap.size, 0, none⟩) 1 1) (HB.out.2.2.1.below HX.out (by omega)) (HB.out.2.2.2.2.1.below HX.out (by omega)) HO.out
    have BR : Below w.heap.size w wr := HW.out.trans (HX.out.mono (by have := HW.out.size; have := HZ.out; omega))
    have BX : Hid (Below w.heap.size w X) := hX ▸ (BR.setCell (by show _ ≤ S + 1 + 1 + 1; omega) _).alloc (by have := BR.size; simp; omega) _
    have hkC := check_any A _ X (HE.out.three.below BX.out) hok
    have hval : errv A (IC.chk (IC.iconOf (.slice (some ⟨S + 1 + 1, 0, none⟩) 1 1) (.slice (some ⟨wr.heap.size, 0, none⟩) 1 1) [IC.fillOf (.slice ad 200 cap) (List.replicate 200 (IC.pathOf (.slice (some ⟨S + 1 + 1 + 1 + 1, 0, none⟩) 1 1) [IC.line]))])) = .nilIface := by
      rw [lim1_false]; rfl
    rw [hval] at hkC
    have kC : Hid (Calls Tryd.prog 9 #[.agg #[.int .i64 1, .int .i64 1, .int .i64 0, .slice (some ⟨S + 1 + 1, 0, none⟩) 1 1, .slice (some ⟨wr.heap.size, 0, none⟩) 1 1]] X fun e w' => e = .returned .nilIface ∧ Below X.heap.size X w') := hkC
    clear hok BR hkC hval
    rw [← hX] at kC BX
    clear hX
    go_wp2_with (go_at_call 9; refine (kC.out).mono ?_; rintro e w5 ⟨rfl, hb5⟩; have B5 : Hid (Below w.heap.size w w5) := chain BX.out hb5; clear hb5)
    go_ret
    exact ⟨rfl, B5.out⟩

set_option maxRecDepth 100000 in
set_option maxHeartbeats 4000000 in
theorem limits1_true (A : Nat → Addr) (n : Int) (w : World) (hE : Errs13 w A) (hn : (n.tmod 4 + 4).tmod 4 = 1) (hr : -4 < n.tmod 4 ∧ n.tmod 4 < 4) :
    Calls Tryd.prog 4 #[.int .i64 n, .bool true] w fun e w' => e = .returned (.bool true) ∧ Below w.heap.size w w' := by
  have kf : Hid (∀ W, Below w.heap.size w W → Calls Tryd.prog 6 #[] W fun e w' => e = .returned (.bool true) ∧ Below W.heap.size W w') := fun W hb => first_any A W (hE.three.below hb)
  have HE : Hid (Errs13 w A) := hE
  clear hE
  obtain ⟨r, hr'⟩ : ∃ r, n.tmod 4 = r := ⟨_, rfl⟩
  rw [hr'] at hn hr
  go_enter Tryd.func4, Tryd.ntmps4
  go_wp2_with (go_at_call 6; refine (kf.out _ (Below.refl _ _)).mono ?_; rintro e w1 ⟨rfl, hb1⟩; have B1 : Hid (Below w.heap.size w w1) := hb1; clear hb1)
  obtain ⟨W, hW⟩ : ∃ W, (((((w1.alloc (.cells #[.int .i64 3, .int .i64 1, .int .i64 0, .int .i64 2, .int .i64 0, .int .i64 1, .int .i64 0] 36)).alloc (.cells #[.int .i64 1, .int .i64 0, .int .i64 0, .int .i64 0, .int .i64 0, .int .i64 0, .int .i64 0] 36)).alloc (.cells #[.int .u8 0, .int .u8 0, .int .u8 0, .int .u8 0] 46)).alloc (.cells #[.int .i64 1, .int .i64 1, .int .i64 0, .slice (some ⟨w1.heap.size + 1 + 1, 0, none⟩) 1 1, .slice none 0 0] 27)).alloc (.cells #[.int .i64 1, .int .i64 0, .int .i64 0, .int .i64 0, .int .i64 0, .int .i64 0, .int .i64 0] 36)).alloc (.cells #[.int .i64 0, .int .i64 0, .slice (some ⟨w1.heap.size + 1 + 1 + 1 + 1, 0, none⟩) 1 1, .bool false] 39) = W := ⟨_, rfl⟩
  rw [hW]
  obtain ⟨S, hS⟩ : ∃ S, w1.heap.size = S := ⟨_, rfl⟩
  have HZ : Hid (W.heap.size = S + 6) := by rw [← hW, ← hS]; show _ = _; simp
  have HW : Hid (Below w.heap.size w W) := by rw [← hW]; exact base_below B1.out _ _ _ _ _ _
  have HB : Hid (Blk W S 36 (IC.cubic.cells).toArray ∧ Blk W (S + 1) 36 (IC.line.cells).toArray ∧ Blk W (S + 1 + 1) 46 (IC.Col.cells ⟨0, 0, 0, 0⟩).toArray ∧ Blk W (S + 1 + 1 + 1) 27 #[.int .i64 1, .int .i64 1, .int .i64 0, .slice (some ⟨S + 1 + 1, 0, none⟩) 1 1, .slice none 0 0] ∧ Blk W (S + 1 + 1 + 1 + 1) 36 (IC.line.cells).toArray ∧ Blk W (S + 1 + 1 + 1 + 1 + 1) 39 (IC.pathOf (.slice (some ⟨S + 1 + 1 + 1 + 1, 0, none⟩) 1 1) [IC.line]).cells.toArray) := by rw [← hW, ← hS]; exact base_blocks w1 _ _ _ _ _ _
  have hS0 : w.heap.size ≤ S := by rw [← hS]; exact B1.out.size
  rw [hS]
  clear hW hS B1 kf
  go_loopw [18] (fun i wr => ∃ (k cap : Nat) (ad : Option Addr), k ≤ 201 ∧ i = .int .i64 k ∧ Hid (Own wr (S + 7) 39 4 IC.Path.cells ad cap (List.replicate k (IC.pathOf (.slice (some ⟨S + 1 + 1 + 1 + 1, 0, none⟩) 1 1) [IC.line]))) ∧ Hid (Blk wr (S + 1 + 1 + 1 + 1 + 1 + 1) 44 (IC.fillOf (.slice ad k cap) []).cells.toArray) ∧ Hid (Below (S + 6) W wr)) (fun i _ => 201 - (intOf i).toNat)
  case atStart => exact ⟨0, 0, none, by omega, rfl, own_nil _ _ _ _ _, (by have h := blk_new W 44 (IC.fillOf (.slice none 0 0) []).cells.toArray; rw [HZ.out] at h; exact h), (Below.refl _ _).alloc (by rw [HZ.out]; omega) _⟩
  case round =>
    obtain ⟨k, cap, ad, hk, rfl, HO, HP, HX⟩ := hrel
    have hz := HP.out.lt
    obtain ⟨⟨d0, d1, d2, d3, d4, d5, d6, d7, d8, d9, d10⟩, d11⟩ := cells_fill HP.out
    by_cases hkN : k < 201
    · obtain ⟨⟨l0, l1, l2, l3⟩, -⟩ := cells_path (HB.out.2.2.2.2.2.below HX.out (by omega))
      go_wp2_with (at_builtin; refine wpList_push _ rfl (.tmp 132) (.tmp 134) 40 rfl (S + 7) 39 _ 4 48 Tryd.underlying40 infoPath rfl (by decide) IC.Path.cells path_len (List.replicate k (IC.pathOf (.slice (some ⟨S + 1 + 1 + 1 + 1, 0, none⟩) 1 1) [IC.line])) (IC.pathOf (.slice (some ⟨S + 1 + 1 + 1 + 1, 0, none⟩) 1 1) [IC.line]) k (by simp) rfl (HO.out.alloc _) wr.heap.size rfl (new_cells _ _ _) (path_one _ rfl) (by omega) (by omega) (by simp; omega) ?_; intro ad' cap' w' hown' hg'
                   have HO' : Hid (Own w' (S + 7) 39 4 IC.Path.cells ad' cap' (List.replicate (k + 1) (IC.pathOf (.slice (some ⟨S + 1 + 1 + 1 + 1, 0, none⟩) 1 1) [IC.line]))) := hown'.rep
                   have HP' : Hid (Blk w' (S + 1 + 1 + 1 + 1 + 1 + 1) 44 (IC.fillOf (.slice ad k cap) []).cells.toArray) := (HP.out.alloc _).grown hg' (fun x e => by have := (HO.out.lt x e).1; omega)
                   have HX' : Hid (Below (S + 6) W w') := below_grown (HX.out.alloc (by omega) _) hg' (by simp; omega) (fun x e => by have := (HO.out.lt x e).1; omega)
                   clear hown' hg'
                   obtain ⟨⟨-, -, -, -, -, -, -, -, -, -, q2⟩, q4⟩ := cells_fill HP'.out)
      go_roundw
      case rel => exact ⟨k + 1, cap', ad', by omega, by go_num, HO'.out.setLow (by show S + 1 + 1 + 1 + 1 + 1 + 1 < S + 7; omega) _, HP'.out.set _, HX'.out.setCell (by show S + 6 ≤ S + 1 + 1 + 1 + 1 + 1 + 1; omega) _⟩
      case measure => simp [intOf]; omega
    obtain rfl : k = 201 := by omega
    obtain ⟨⟨i0, i1, i2, i3, i4⟩, i5⟩ := cells_icon (HB.out.2.2.2.1.below HX.out (by omega))
    have zi : S + 1 + 1 + 1 < wr.heap.size := by omega
    obtain ⟨X, hX⟩ : ∃ X, (wr.setCell ⟨S + 1 + 1 + 1, 4, none⟩ (.slice (some ⟨wr.heap.size, 0, none⟩) 1 1)).alloc (.cells #[.int .i64 1, .int .i64 0, .int .i64 0, .int .i64 0, .int .i64 0, .int .i64 0, .int .i64 0, .int .i64 0, .int .i64 0, .int .i64 0, .slice ad 201 cap] 44) = X := ⟨_, rfl⟩
    have hok := hX ▸ paths_ok (v4 := .slice (some ⟨wr.heap.size, 0, none⟩) 1 1) (HB.out.2.2.1.below HX.out (by omega)) (HB.out.2.2.2.2.1.below HX.out (by omega)) HO.out
    have BR : Below w.heap.size w wr := HW.out.trans (HX.out.mono (by have := HW.out.size; have := HZ.out; omega))
    have BX : Hid (Below w.heap.size w X) := hX ▸ (BR.setCell (by show _ ≤ S + 1 + 1 + 1; omega) _).alloc (by have := BR.size; simp; omega) _
    have hkC := check_any A _ X (HE.out.three.below BX.out) hok
    have hval : errv A (IC.chk (IC.iconOf (.slice (some ⟨S + 1 + 1, 0, none⟩) 1 1) (.slice (some ⟨wr.heap.size, 0, none⟩) 1 1) [IC.fillOf (.slice ad 201 cap) (List.replicate 201 (IC.pathOf (.slice (some ⟨S + 1 + 1 + 1 + 1, 0, none⟩) 1 1) [IC.line]))])) = (.iface 106 (.pointer (some (A 1)))) := by
      rw [lim1_true]; rfl
    rw [hval] at hkC
    have kC : Hid (Calls Tryd.prog 9 #[.agg #[.int .i64 1, .int .i64 1, .int .i64 0, .slice (some ⟨S + 1 + 1, 0, none⟩) 1 1, .slice (some ⟨wr.heap.size, 0, none⟩) 1 1]] X fun e w' => e = .returned (.iface 106 (.pointer (some (A 1)))) ∧ Below X.heap.size X w') := hkC
    clear hok BR hkC hval
    rw [← hX] at kC BX
    clear hX
    go_wp2_with (first
      | (go_at_call 9; refine (kC.out).mono ?_; rintro e w5 ⟨rfl, hb5⟩; have B5 : Hid (Below w.heap.size w w5) := chain BX.out hb5; clear hb5)
      | (go_at_call 10; refine (is_bare A w5 (HE.out.below B5.out) 5 (by omega) (A 1) rfl 106 rfl).mono ?_; rintro e w6 ⟨rfl, hb6⟩))
    go_ret
    exact ⟨rfl, chain B5.out hb6⟩

end Go.Proofs.YtmkipfgglcpfaaaDoor

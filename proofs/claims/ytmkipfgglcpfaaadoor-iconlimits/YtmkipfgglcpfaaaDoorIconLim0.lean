/-
  As many points as may be, and one more: walked over the program.
-/
import Derived.Test.YtmkipfgglcpfaaaDoorIconLimBase
namespace Go.Proofs.YtmkipfgglcpfaaaDoor
open Go.RowKit

theorem big_zero {w : World} {c : IC.Cmd} {segs : List IC.Seg} (h : BigOk w c segs) (h0 : segs.length ≠ 0) (h1 : segs.length ≤ 400) (hf : IC.firstOf (IC.chkSeg 4) segs = 0) : IC.chkCmd 4 1 c = 0 ∧ IC.cmdPts c = 1 + IC.sumOf IC.segPts segs ∧ c.pn.a = 0 ∧ c.pn.b = 0 ∧ c.paths.length ≤ 1 ∧ ∀ p ∈ c.paths, p.segs.length ≤ 400 := by
  obtain ⟨v, u, rfl, -, -⟩ := h
  refine ⟨?_, ?_, rfl, rfl, by simp [IC.fillOf], fun p hp => ?_⟩
  · have h2 : IC.chkPath 4 (IC.pathOf u segs) = 0 := by rw [IC.path_of u _ h0 hf, if_neg (by omega)]
    have h3 : IC.firstOf (IC.chkOne 4 1) [IC.pathOf u segs] = 0 := by
      unfold IC.firstOf
      rw [IC.one_of, h2]
      rfl
    rw [IC.fill_of _ _ (by simp), h3]
    simp
  · simp only [IC.cmdPts, IC.fillOf, IC.sumOf, IC.pathPts, IC.pathOf]
    omega
  · obtain rfl : p = _ := by simpa [IC.fillOf] using hp
    exact h1

theorem cubs (n : Nat) : IC.firstOf (IC.chkSeg 4) (List.replicate n IC.cubic) = 0 ∧ IC.sumOf IC.segPts (List.replicate n IC.cubic) = n * 3 ∧ (List.replicate n IC.cubic).length = n :=
  ⟨IC.firstOf_rep _ _ _ IC.seg_cubic, by rw [IC.sumOf_rep]; rfl, List.length_replicate⟩

theorem cublines (n m : Nat) : IC.firstOf (IC.chkSeg 4) (List.replicate n IC.cubic ++ List.replicate m IC.line) = 0 ∧ IC.sumOf IC.segPts (List.replicate n IC.cubic ++ List.replicate m IC.line) = n * 3 + m ∧ (List.replicate n IC.cubic ++ List.replicate m IC.line).length = n + m := by
  refine ⟨by rw [IC.firstOf_app _ _ _ (cubs n).1]; exact IC.firstOf_rep _ _ _ IC.seg_line, ?_, by rw [List.length_append, List.length_replicate, List.length_replicate]⟩
  rw [IC.sumOf_app, (cubs n).2.1, IC.sumOf_rep]
  have e : IC.segPts IC.line = 1 := rfl
  rw [e]
  omega

/-- Three of 400 cubics, one of 131 and some lines. -/
theorem lim_any {w : World} (vc vm : Value) (l : List IC.Cmd) (c : IC.Cmd) (sa sb : List IC.Seg) (m : Nat) (hm : m ≤ 10) (h3 : l.length = 3)
    (a1 : IC.firstOf (IC.chkSeg 4) sa = 0) (a2 : IC.sumOf IC.segPts sa = 1200) (a3 : sa.length = 400) (b1 : IC.firstOf (IC.chkSeg 4) sb = 0) (b2 : IC.sumOf IC.segPts sb = 393 + m) (b3 : sb.length = 131 + m)
    (hl : ∀ c ∈ l, BigOk w c sa) (hc : BigOk w c sb) :
    IC.points (IC.iconOf vc vm (l ++ [c])) = 3997 + m ∧ IC.chk (IC.iconOf vc vm (l ++ [c])) = (if 3 < m then 2 else 0) ∧ (∀ x ∈ (IC.iconOf vc vm (l ++ [c])).cmds, x.paths.length ≤ 1000) ∧ (∀ x ∈ (IC.iconOf vc vm (l ++ [c])).cmds, ∀ p ∈ x.paths, p.segs.length ≤ 1000) := by
  have k1 : ∀ c ∈ l, IC.chkCmd 4 1 c = 0 ∧ IC.cmdPts c = 1201 ∧ c.pn.a = 0 ∧ c.pn.b = 0 ∧ c.paths.length ≤ 1 ∧ ∀ p ∈ c.paths, p.segs.length ≤ 400 := fun c hx => by
    obtain ⟨x1, x2, x3⟩ := big_zero (hl c hx) (by omega) (by omega) a1
    exact ⟨x1, by omega, x3⟩
  have k2 : IC.chkCmd 4 1 c = 0 ∧ IC.cmdPts c = 394 + m ∧ c.pn.a = 0 ∧ c.pn.b = 0 ∧ c.paths.length ≤ 1 ∧ ∀ p ∈ c.paths, p.segs.length ≤ 400 := by
    obtain ⟨x1, x2, x3⟩ := big_zero hc (by omega) (by omega) b1
    exact ⟨x1, by omega, x3⟩
  clear hl hc a1 a2 a3 b1 b2 b3
  have hp : IC.points (IC.iconOf vc vm (l ++ [c])) = 3997 + m := by
    show IC.sumOf IC.cmdPts (l ++ [c]) = _
    rcases l with _ | ⟨a, _ | ⟨b, _ | ⟨d, _ | ⟨e, r⟩⟩⟩⟩
    · simp at h3
    · simp at h3
    · simp at h3
    · have ka := (k1 a (by simp)).2.1
      have kb := (k1 b (by simp)).2.1
      have kd := (k1 d (by simp)).2.1
      have kc := k2.2.1
      show IC.cmdPts a + (IC.cmdPts b + (IC.cmdPts d + (IC.cmdPts c + 0))) = _
      omega
    · simp at h3
  have hf : IC.firstOf (IC.chkCmd 4 1) (l ++ [c]) = 0 := by
    rcases l with _ | ⟨a, _ | ⟨b, _ | ⟨d, _ | ⟨e, r⟩⟩⟩⟩
    · simp at h3
    · simp at h3
    · simp at h3
    · show IC.firstOf (IC.chkCmd 4 1) [a, b, d, c] = 0
      simp only [IC.firstOf]
      rw [if_pos (k1 a (by simp)).1, if_pos (k1 b (by simp)).1, if_pos (k1 d (by simp)).1, if_pos k2.1]
    · simp at h3
  have hm' : ∀ x ∈ l ++ [c], x ∈ l ∨ x = c := fun x hx => by
    rcases List.mem_append.1 hx with h | h
    · exact .inl h
    · exact .inr (List.mem_singleton.1 h)
  refine ⟨hp, ?_, fun x (hx : x ∈ l ++ [c]) => ?_, fun x (hx : x ∈ l ++ [c]) p hp' => ?_⟩
  · rw [IC.chk_of _ _ _ (by simp) (fun x hx => by
      rcases hm' x hx with h | h
      · exact ⟨(k1 x h).2.2.1, (k1 x h).2.2.2.1⟩
      · rw [h]; exact ⟨k2.2.2.1, k2.2.2.2.1⟩), hf, hp, if_neg (by rw [List.length_append, h3]; simp), if_neg (by simp)]
    by_cases h : 3 < m
    · rw [if_pos (by omega), if_pos h]
    · rw [if_neg (by omega), if_neg h]
  · rcases hm' x hx with h | h
    · exact Nat.le_trans (k1 x h).2.2.2.2.1 (by omega)
    · rw [h]; exact Nat.le_trans k2.2.2.2.2.1 (by omega)
  · rcases hm' x hx with h | h
    · exact Nat.le_trans ((k1 x h).2.2.2.2.2 p hp') (by omega)
    · rw [h] at hp'; exact Nat.le_trans (k2.2.2.2.2.2 p hp') (by omega)

theorem lim_points {w : World} (vc vm : Value) (l : List IC.Cmd) (c : IC.Cmd) (m : Nat) (hm : m ≤ 10) (h3 : l.length = 3) (hl : ∀ c ∈ l, BigOk w c (List.replicate 400 IC.cubic)) (hc : BigOk w c (List.replicate 131 IC.cubic ++ List.replicate m IC.line)) :
    IC.points (IC.iconOf vc vm (l ++ [c])) = 3997 + m ∧ IC.chk (IC.iconOf vc vm (l ++ [c])) = (if 3 < m then 2 else 0) ∧ (∀ x ∈ (IC.iconOf vc vm (l ++ [c])).cmds, x.paths.length ≤ 1000) ∧ (∀ x ∈ (IC.iconOf vc vm (l ++ [c])).cmds, ∀ p ∈ x.paths, p.segs.length ≤ 1000) := by
  obtain ⟨a1, a2, a3⟩ := cubs 400
  obtain ⟨b1, b2, b3⟩ := cublines 131 m
  generalize List.replicate 400 IC.cubic = sa at hl a1 a2 a3
  generalize List.replicate 131 IC.cubic ++ List.replicate m IC.line = sb at hc b1 b2 b3
  exact lim_any vc vm l c sa sb m hm h3 a1 (by omega) a3 b1 (by omega) b3 hl hc

set_option maxRecDepth 100000 in
set_option maxHeartbeats 4000000 in
theorem limits0_false (A : Nat → Addr) (n : Int) (w : World) (hE : Errs13 w A) (hn : (n.tmod 4 + 4).tmod 4 = 0) (hr : -4 < n.tmod 4 ∧ n.tmod 4 < 4) :
    Calls Tryd.prog 4 #[.int .i64 n, .bool false] w fun e w' => e = .returned (.bool true) ∧ Below w.heap.size w w' := by
  have kf : Hid (∀ W, Below w.heap.size w W → Calls Tryd.prog 6 #[] W fun e w' => e = .returned (.bool true) ∧ Below W.heap.size W w') := fun W hb => first_any A W (hE.three.below hb)
  have HE : Hid (Errs13 w A) := hE
  clear hE
  obtain ⟨r, hr'⟩ : ∃ r, n.tmod 4 = r := ⟨_, rfl⟩
  rw [hr'] at hn hr
  go_enter Tryd.func4, Tryd.ntmps4
  go_wp2_with (go_at_call 6; refine (kf.out _ (Below.refl _ _)).mono ?_; rintro e w1 ⟨rfl, hb1⟩; have B1 : Hid (Below w.heap.size w w1) := hb1; clear hb1)
  obtain ⟨W, hW⟩ : ∃ W, (((((w1.alloc (.cells #[.int .i64 3, .int .i64 1, .int .i64 0, .int .i64 2, .int .i64 0, .int .i64 1, .int .i64 0] 36)).alloc (.cells #[.int .i64 1, .int .i64 0, .int .i64 0, .int .i64 0, .int .i64 0, .int .i64 0, .int .i64 0] 36)).alloc (.cells #[.int .u8 0, .int .u8 0, .int .u8 0, .int .u8 0] 46)).alloc (.cells #[.int .i64 1, .int .i64 1, .int .i64 0, .slice (some ⟨w1.heap.size + 1 + 1, 0, none⟩) 1 1, .slice none 0 0] 27)).alloc (.cells #[.int .i64 1, .int .i64 0, .int .i64 0, .int .i64 0, .int .i64 0, .int .i64 0, .int .i64 0] 36)).alloc (.cells #[.int .i64 0, .int .i64 0, .slice (some ⟨w1.heap.size + 1 + 1 + 1 + 1, 0, none⟩) 1 1, .bool false] 39) = W := ⟨_, rfl⟩
  rw [hW]
  obtain ⟨S, hS⟩ : ∃ S, w1.heap.size = S := ⟨_, rfl⟩
  have HZ : Hid (W.heap.size = S + 6) := by rw [← hW, ← hS]; show _ = _; simp
  have HW : Hid (Below w.heap.size w W) := by rw [← hW]; exact base_below B1.out _ _ _ _ _ _
  have HB : Hid (Blk W S 36 (IC.cubic.cells).toArray ∧ Blk W (S + 1) 36 (IC.line.cells).toArray ∧ Blk W (S + 1 + 1) 46 (IC.Col.cells ⟨0, 0, 0, 0⟩).toArray ∧ Blk W (S + 1 + 1 + 1) 27 #[.int .i64 1, .int .i64 1, .int .i64 0, .slice (some ⟨S + 1 + 1, 0, none⟩) 1 1, .slice none 0 0] ∧ Blk W (S + 1 + 1 + 1 + 1) 36 (IC.line.cells).toArray ∧ Blk W (S + 1 + 1 + 1 + 1 + 1) 39 (IC.pathOf (.slice (some ⟨S + 1 + 1 + 1 + 1, 0, none⟩) 1 1) [IC.line]).cells.toArray) := by rw [← hW, ← hS]; exact base_blocks w1 _ _ _ _ _ _
  have hS0 : w.heap.size ≤ S := by rw [← hS]; exact B1.out.size
  rw [hS]
  clear hW hS B1 kf
  go_loopw [11] (fun i wr => ∃ (k cap : Nat) (ad : Option Addr) (l : List IC.Cmd), k ≤ 3 ∧ i = .int .i64 k ∧ Hid (l.length = k) ∧ Hid (Own wr (S + 6) 44 11 IC.Cmd.cells ad cap l) ∧ Hid (∀ c ∈ l, BigOk wr c (List.replicate 400 IC.cubic)) ∧ Hid (Blk wr (S + 1 + 1 + 1) 27 #[.int .i64 1, .int .i64 1, .int .i64 0, .slice (some ⟨S + 1 + 1, 0, none⟩) 1 1, .slice ad k cap]) ∧ Hid (Blk wr S 36 (IC.cubic.cells).toArray ∧ Blk wr (S + 1) 36 (IC.line.cells).toArray ∧ Blk wr (S + 1 + 1) 46 (IC.Col.cells ⟨0, 0, 0, 0⟩).toArray) ∧ Hid (S + 6 ≤ wr.heap.size) ∧ Hid (Below S W wr)) (fun i _ => 3 - (intOf i).toNat)
  case atStart => exact ⟨0, 0, none, [], by omega, rfl, rfl, own_nil _ _ _ _ _, (fun _ h => absurd h (by simp)), HB.out.2.2.2.1, ⟨HB.out.1, HB.out.2.1, HB.out.2.2.1⟩, (by show S + 6 ≤ W.heap.size; rw [HZ.out]; omega), Below.refl _ _⟩
  case round =>
    obtain ⟨k, cap, ad, l, hk, rfl, HL, HO, HF, HI, HK, HG, HX⟩ := hrel
    clear HB
    rename World => wa
    by_cases hk3 : k < 3
    · have hki : ((k : Nat) : Int) < 3 := by omega
      go_wp2
      go_loopw [13] (fun i wr => ∃ (j cap2 : Nat) (ad2 : Option Addr), j ≤ 400 ∧ i = .int .i64 j ∧ Hid (Own wr (wa.heap.size + 1) 36 7 IC.Seg.cells ad2 cap2 (List.replicate j IC.cubic)) ∧ Hid (Blk wr wa.heap.size 39 (IC.pathOf (.slice ad2 j cap2) []).cells.toArray) ∧ Hid (Below wa.heap.size wa wr)) (fun i _ => 400 - (intOf i).toNat)
      case atStart => exact ⟨0, 0, none, by omega, rfl, own_nil _ _ _ _ _, blk_new wa 39 _, (Below.refl _ _).alloc (Nat.le_refl _) _⟩
      case round =>
        obtain ⟨j, cap2, ad2, hj, rfl, HO2, HP2, HX2⟩ := hrel
        have hz := HP2.out.lt
        have hg6 := HG.out
        obtain ⟨⟨d0, d1, d2, d3⟩, d4⟩ := cells_path HP2.out
        by_cases hj4 : j < 400
        · obtain ⟨l0, l1, l2, l3, l4, l5, l6⟩ := cells_cubic (HK.out.1.below HX2.out HK.out.1.lt)
          go_wp2_with (at_builtin; refine wpList_push _ rfl (.tmp 73) (.tmp 75) 37 rfl (wa.heap.size + 1) 36 _ 7 56 Tryd.underlying37 infoSeg rfl (by decide) IC.Seg.cells seg_len (List.replicate j IC.cubic) IC.cubic j (by simp) rfl (HO2.out.alloc _) wr.heap.size rfl (new_cells _ _ _) (seg_one _) (by omega) (by omega) (by simp; omega) ?_; intro ad' cap' w' hown' hg'
                       have HO' : Hid (Own w' (wa.heap.size + 1) 36 7 IC.Seg.cells ad' cap' (List.replicate (j + 1) IC.cubic)) := hown'.rep
                       have HP' : Hid (Blk w' wa.heap.size 39 (IC.pathOf (.slice ad2 j cap2) []).cells.toArray) := (HP2.out.alloc _).grown hg' (fun x e => by have := (HO2.out.lt x e).1; omega)
                       have HX' : Hid (Below wa.heap.size wa w') := below_grown (HX2.out.alloc (by omega) _) hg' (by simp; omega) (fun x e => by have := (HO2.out.lt x e).1; omega)
                       clear hown' hg'
                       obtain ⟨⟨-, -, q2, -⟩, q4⟩ := cells_path HP'.out)
          go_roundw
          case rel => exact ⟨j + 1, cap', ad', by omega, by go_num, HO'.out.setLow (by show wa.heap.size < wa.heap.size + 1; omega) _, HP'.out.set _, HX'.out.setCell (Nat.le_refl _) _⟩
          case measure => simp [intOf]; omega
        obtain rfl : j = 400 := by omega
        have HIr : Hid (Blk wr (S + 1 + 1 + 1) 27 #[.int .i64 1, .int .i64 1, .int .i64 0, .slice (some ⟨S + 1 + 1, 0, none⟩) 1 1, .slice ad k cap]) := HI.out.below HX2.out HI.out.lt
        have HOr : Hid (Own wr (S + 6) 44 11 IC.Cmd.cells ad cap l) := HO.out.below HX2.out (Nat.le_refl _)
        have HFr : Hid (∀ c ∈ l, BigOk wr c (List.replicate 400 IC.cubic)) := fun c hc => (HF.out c hc).below HX2.out
        have HKr : Hid (Blk wr S 36 (IC.cubic.cells).toArray ∧ Blk wr (S + 1) 36 (IC.line.cells).toArray ∧ Blk wr (S + 1 + 1) 46 (IC.Col.cells ⟨0, 0, 0, 0⟩).toArray) := ⟨HK.out.1.below HX2.out HK.out.1.lt, HK.out.2.1.below HX2.out HK.out.2.1.lt, HK.out.2.2.below HX2.out HK.out.2.2.lt⟩
        have HXr : Hid (Below S W wr) := HX.out.trans (HX2.out.mono (by omega))
        obtain ⟨⟨i0, i1, i2, i3, i4⟩, i5⟩ := cells_icon HIr.out
        have zi : S + 1 + 1 + 1 < wr.heap.size := HIr.out.lt
        have hB6 : S + 6 ≤ wr.heap.size := Nat.le_trans HG.out (by omega)
        have HM : Hid (Many wr 36 7 IC.Seg.cells (.slice ad2 400 cap2) (List.replicate 400 IC.cubic)) := HO2.out.manyRep
        clear HP2 HX2 HO2 HI HO HF HK HG HX
        have H1 : Hid (Blk (wr.alloc (.cells #[.int .i64 0, .int .i64 0, .slice ad2 400 cap2, .bool false] 39)) wr.heap.size 39 (IC.pathOf (.slice ad2 400 cap2) (List.replicate 400 IC.cubic)).cells.toArray) := blk_new wr 39 _
        go_wp2_with (at_builtin; refine wpList_push _ rfl (.tmp 79) (.tmp 83) 25 rfl (S + 6) 44 _ 11 104 Tryd.underlying25 infoCmd rfl (by decide) IC.Cmd.cells cmd_len l (IC.fillOf (.slice (some ⟨wr.heap.size, 0, none⟩) 1 1) [IC.pathOf (.slice ad2 400 cap2) (List.replicate 400 IC.cubic)]) k HL.out rfl ((HOr.out.alloc _).alloc _) (wr.heap.size + 1) rfl (by rw [← size_alloc wr (.cells #[.int .i64 0, .int .i64 0, .slice ad2 400 cap2, .bool false] 39)]; exact new_cells _ _ _) (cmd_one _ rfl) (by omega) (by omega) (by simp; omega) ?_; intro ad' cap' w' hown' hg'
                     have hne : ∀ x, ad = some x → S + 6 ≤ x.block := fun x e => (HOr.out.lt x e).1
                     have hty := fun t' (ht : 44 ≠ t') => ((HOr.out.alloc (.cells #[.int .i64 0, .int .i64 0, .slice ad2 400 cap2, .bool false] 39)).alloc (.cells (IC.fillOf (.slice (some ⟨wr.heap.size, 0, none⟩) 1 1) [IC.pathOf (.slice ad2 400 cap2) (List.replicate 400 IC.cubic)]).cells.toArray 44)).typed (t' := t') ht
                     have hbb : Below wr.heap.size wr ((wr.alloc (.cells #[.int .i64 0, .int .i64 0, .slice ad2 400 cap2, .bool false] 39)).alloc (.cells (IC.fillOf (.slice (some ⟨wr.heap.size, 0, none⟩) 1 1) [IC.pathOf (.slice ad2 400 cap2) (List.replicate 400 IC.cubic)]).cells.toArray 44)) := ((Below.refl _ _).alloc (Nat.le_refl _) _).alloc (by simp) _
                     have HO' : Hid (Own w' (S + 6) 44 11 IC.Cmd.cells ad' cap' (l ++ [IC.fillOf (.slice (some ⟨wr.heap.size, 0, none⟩) 1 1) [IC.pathOf (.slice ad2 400 cap2) (List.replicate 400 IC.cubic)]])) := hown'
                     have HI' : Hid (Blk w' (S + 1 + 1 + 1) 27 #[.int .i64 1, .int .i64 1, .int .i64 0, .slice (some ⟨S + 1 + 1, 0, none⟩) 1 1, .slice ad k cap]) := ((HIr.out.alloc _).alloc _).grown hg' (fun x e => by have := hne x e; omega)
                     have HF' : Hid (∀ c ∈ l ++ [IC.fillOf (.slice (some ⟨wr.heap.size, 0, none⟩) 1 1) [IC.pathOf (.slice ad2 400 cap2) (List.replicate 400 IC.cubic)]], BigOk w' c (List.replicate 400 IC.cubic)) := fun c hc => by
                       rcases List.mem_append.1 hc with hc | hc
                       · exact ((HFr.out c hc).below hbb).kept hg' (hty _ (by decide)) (hty _ (by decide))
                       · obtain rfl : c = _ := List.mem_singleton.1 hc
                         exact ⟨_, _, rfl, Row.kept (many_one IC.Path.cells _ rfl (H1.out.alloc _)) hg' (hty _ (by decide)), Row.kept (Row.below HM.out hbb) hg' (hty _ (by decide))⟩
                     have HK' : Hid (Blk w' S 36 (IC.cubic.cells).toArray ∧ Blk w' (S + 1) 36 (IC.line.cells).toArray ∧ Blk w' (S + 1 + 1) 46 (IC.Col.cells ⟨0, 0, 0, 0⟩).toArray) := ⟨((HKr.out.1.alloc _).alloc _).grown hg' (fun x e => by have := hne x e; omega), ((HKr.out.2.1.alloc _).alloc _).grown hg' (fun x e => by have := hne x e; omega), ((HKr.out.2.2.alloc _).alloc _).grown hg' (fun x e => by have := hne x e; omega)⟩
                     have HG' : Hid (S + 6 ≤ w'.heap.size) := by have := hg'.size; simp at this; show _ ≤ _; omega
                     have HX' : Hid (Below S W w') := below_grown ((HXr.out.alloc (by omega) _).alloc (by simp; omega) _) hg' (by simp; omega) (fun x e => by have := hne x e; omega)
                     clear hown' hg' hty hbb
                     obtain ⟨⟨-, -, -, -, q2⟩, q4⟩ := cells_icon HI'.out)
        go_roundw
        case rel => exact ⟨k + 1, cap', ad', l ++ [IC.fillOf (.slice (some ⟨wr.heap.size, 0, none⟩) 1 1) [IC.pathOf (.slice ad2 400 cap2) (List.replicate 400 IC.cubic)]], by omega, by go_num, (by show (_ ++ [_]).length = _; rw [List.length_append, HL.out]; rfl), HO'.out.setLow (by show S + 1 + 1 + 1 < S + 6; omega) _, (fun c hc => (HF'.out c hc).kept (grown_set _ _ _) (HI'.out.typed (by decide)) (HI'.out.typed (by decide))), HI'.out.set _, ⟨HK'.out.1.far (by show S ≠ S + 1 + 1 + 1; omega) _, HK'.out.2.1.far (by show S + 1 ≠ S + 1 + 1 + 1; omega) _, HK'.out.2.2.far (by show S + 1 + 1 ≠ S + 1 + 1 + 1; omega) _⟩, (by show _ ≤ _; simp; exact HG'.out), HX'.out.setCell (by show S ≤ S + 1 + 1 + 1; omega) _⟩
        case measure => simp [intOf]; omega
    obtain rfl : k = 3 := by omega
    clear hk hk3
    rw [show ((3 : Nat) : Int) = 3 from rfl]
    go_wp2
    go_loopw [15] (fun i wr => ∃ (j cap2 : Nat) (ad2 : Option Addr), j ≤ 131 ∧ i = .int .i64 j ∧ Hid (Own wr (wa.heap.size + 1) 36 7 IC.Seg.cells ad2 cap2 (List.replicate j IC.cubic)) ∧ Hid (Blk wr wa.heap.size 39 (IC.pathOf (.slice ad2 j cap2) []).cells.toArray) ∧ Hid (Below wa.heap.size wa wr)) (fun i _ => 131 - (intOf i).toNat)
    case atStart => exact ⟨0, 0, none, by omega, rfl, own_nil _ _ _ _ _, blk_new wa 39 _, (Below.refl _ _).alloc (Nat.le_refl _) _⟩
    case round =>
      obtain ⟨j, cap2, ad2, hj, rfl, HO2, HP2, HX2⟩ := hrel
      have hz := HP2.out.lt
      obtain ⟨⟨d0, d1, d2, d3⟩, d4⟩ := cells_path HP2.out
      by_cases hj4 : j < 131
      · obtain ⟨l0, l1, l2, l3, l4, l5, l6⟩ := cells_cubic (HK.out.1.below HX2.out HK.out.1.lt)
        go_wp2_with (at_builtin; refine wpList_push _ rfl (.tmp 92) (.tmp 94) 37 rfl (wa.heap.size + 1) 36 _ 7 56 Tryd.underlying37 infoSeg rfl (by decide) IC.Seg.cells seg_len (List.replicate j IC.cubic) IC.cubic j (by simp) rfl (HO2.out.alloc _) wr.heap.size rfl (new_cells _ _ _) (seg_one _) (by omega) (by omega) (by simp; omega) ?_; intro ad' cap' w' hown' hg'
                     have HO' : Hid (Own w' (wa.heap.size + 1) 36 7 IC.Seg.cells ad' cap' (List.replicate (j + 1) IC.cubic)) := hown'.rep
                     have HP' : Hid (Blk w' wa.heap.size 39 (IC.pathOf (.slice ad2 j cap2) []).cells.toArray) := (HP2.out.alloc _).grown hg' (fun x e => by have := (HO2.out.lt x e).1; omega)
                     have HX' : Hid (Below wa.heap.size wa w') := below_grown (HX2.out.alloc (by omega) _) hg' (by simp; omega) (fun x e => by have := (HO2.out.lt x e).1; omega)
                     clear hown' hg'
                     obtain ⟨⟨-, -, q2, -⟩, q4⟩ := cells_path HP'.out)
        go_roundw
        case rel => exact ⟨j + 1, cap', ad', by omega, by go_num, HO'.out.setLow (by show wa.heap.size < wa.heap.size + 1; omega) _, HP'.out.set _, HX'.out.setCell (Nat.le_refl _) _⟩
        case measure => simp [intOf]; omega
      obtain rfl : j = 131 := by omega
      clear d0 d1 d2 d3 d4 hj hj4
      rw [show ((131 : Nat) : Int) = 131 from rfl]
      go_wp2
      rename World => wb
      go_loopw [16] (fun i wr => ∃ (j cap2 : Nat) (ad2 : Option Addr), j ≤ 3 ∧ i = .int .i64 j ∧ Hid (Own wr (wa.heap.size + 1) 36 7 IC.Seg.cells ad2 cap2 (List.replicate 131 IC.cubic ++ List.replicate j IC.line)) ∧ Hid (Blk wr wa.heap.size 39 (IC.pathOf (.slice ad2 (131 + j) cap2) []).cells.toArray) ∧ Hid (Below wa.heap.size wa wr)) (fun i _ => 3 - (intOf i).toNat)
      case atStart => exact ⟨0, cap2, ad2, by omega, rfl, (by show Own _ _ _ _ _ _ _ (_ ++ []); rw [List.append_nil]; exact HO2.out), HP2, HX2⟩
      case round =>
        clear HO2 HP2 HX2 hz
        obtain ⟨j, cap2, ad2, hj, rfl, HO2, HP2, HX2⟩ := hrel
        have hz := HP2.out.lt
        obtain ⟨⟨d0, d1, d2, d3⟩, d4⟩ := cells_path HP2.out
        by_cases hj4 : j < 3
        · obtain ⟨l0, l1, l2, l3, l4, l5, l6⟩ := cells_line (HK.out.2.1.below HX2.out HK.out.2.1.lt)
          go_wp2_with (at_builtin; refine wpList_push _ rfl (.tmp 104) (.tmp 106) 37 rfl (wa.heap.size + 1) 36 _ 7 56 Tryd.underlying37 infoSeg rfl (by decide) IC.Seg.cells seg_len (List.replicate 131 IC.cubic ++ List.replicate j IC.line) IC.line (131 + j) (by rw [List.length_append, List.length_replicate, List.length_replicate]) rfl (HO2.out.alloc _) wr.heap.size rfl (new_cells _ _ _) (seg_one _) (by omega) (by omega) (by simp; omega) ?_; intro ad' cap' w' hown' hg'
                       have HO' : Hid (Own w' (wa.heap.size + 1) 36 7 IC.Seg.cells ad' cap' (List.replicate 131 IC.cubic ++ List.replicate (j + 1) IC.line)) := by rw [show List.replicate (j + 1) IC.line = List.replicate j IC.line ++ [IC.line] from List.replicate_succ', ← List.append_assoc]; exact hown'
                       have HP' : Hid (Blk w' wa.heap.size 39 (IC.pathOf (.slice ad2 (131 + j) cap2) []).cells.toArray) := (HP2.out.alloc _).grown hg' (fun x e => by have := (HO2.out.lt x e).1; omega)
                       have HX' : Hid (Below wa.heap.size wa w') := below_grown (HX2.out.alloc (by omega) _) hg' (by simp; omega) (fun x e => by have := (HO2.out.lt x e).1; omega)
                       clear hown' hg'
                       obtain ⟨⟨-, -, q2, -⟩, q4⟩ := cells_path HP'.out)
          go_roundw
          case rel => exact ⟨j + 1, cap', ad', by omega, by go_num, HO'.out.setLow (by show wa.heap.size < wa.heap.size + 1; omega) _, HP'.out.set _, HX'.out.setCell (Nat.le_refl _) _⟩
          case measure => simp [intOf]; omega
        obtain rfl : j = 3 := by omega
        have HIr : Hid (Blk wr (S + 1 + 1 + 1) 27 #[.int .i64 1, .int .i64 1, .int .i64 0, .slice (some ⟨S + 1 + 1, 0, none⟩) 1 1, .slice ad 3 cap]) := HI.out.below HX2.out HI.out.lt
        have HOr : Hid (Own wr (S + 6) 44 11 IC.Cmd.cells ad cap l) := HO.out.below HX2.out (Nat.le_refl _)
        have HFr : Hid (∀ c ∈ l, BigOk wr c (List.replicate 400 IC.cubic)) := fun c hc => (HF.out c hc).below HX2.out
        have HKr : Hid (Blk wr (S + 1 + 1) 46 (IC.Col.cells ⟨0, 0, 0, 0⟩).toArray) := HK.out.2.2.below HX2.out HK.out.2.2.lt
        have HXr : Hid (Below S W wr) := HX.out.trans (HX2.out.mono (by have := HG.out; omega))
        obtain ⟨⟨i0, i1, i2, i3, i4⟩, i5⟩ := cells_icon HIr.out
        have zi : S + 1 + 1 + 1 < wr.heap.size := HIr.out.lt
        have hB6 : S + 6 ≤ wr.heap.size := Nat.le_trans HG.out (by omega)
        have HM : Hid (Many wr 36 7 IC.Seg.cells (.slice ad2 (131 + 3) cap2) (List.replicate 131 IC.cubic ++ List.replicate 3 IC.line)) := HO2.out.manyOf (by rw [List.length_append, List.length_replicate, List.length_replicate])
        clear HP2 HX2 HO2 HI HO HF HK HG HX
        obtain ⟨T, hT⟩ : ∃ T, List.replicate 131 IC.cubic ++ List.replicate 3 IC.line = T := ⟨_, rfl⟩
        rw [hT] at HM
        have H1 : Hid (Blk (wr.alloc (.cells #[.int .i64 0, .int .i64 0, .slice ad2 (131 + 3) cap2, .bool false] 39)) wr.heap.size 39 (IC.pathOf (.slice ad2 (131 + 3) cap2) T).cells.toArray) := blk_new wr 39 _
        have HT : Hid (List.replicate 131 IC.cubic ++ List.replicate 3 IC.line = T) := hT
        clear hT
        go_upto_region 38 with (first
                   | (at_builtin; refine wpList_push _ rfl (.tmp 110) (.tmp 114) 25 rfl (S + 6) 44 _ 11 104 Tryd.underlying25 infoCmd rfl (by decide) IC.Cmd.cells cmd_len l (IC.fillOf (.slice (some ⟨wr.heap.size, 0, none⟩) 1 1) [IC.pathOf (.slice ad2 (131 + 3) cap2) T]) 3 HL.out rfl ((HOr.out.alloc _).alloc _) (wr.heap.size + 1) rfl (by rw [← size_alloc wr (.cells #[.int .i64 0, .int .i64 0, .slice ad2 (131 + 3) cap2, .bool false] 39)]; exact new_cells _ _ _) (cmd_one _ rfl) (by omega) (by omega) (by simp; omega) ?_; intro ad' cap' w' hown' hg'
                      have hne : ∀ x, ad = some x → S + 6 ≤ x.block := fun x e => (HOr.out.lt x e).1
                      have hty := fun t' (ht : 44 ≠ t') => ((HOr.out.alloc (.cells #[.int .i64 0, .int .i64 0, .slice ad2 (131 + 3) cap2, .bool false] 39)).alloc (.cells (IC.fillOf (.slice (some ⟨wr.heap.size, 0, none⟩) 1 1) [IC.pathOf (.slice ad2 (131 + 3) cap2) T]).cells.toArray 44)).typed (t' := t') ht
                      have hbb : Below wr.heap.size wr ((wr.alloc (.cells #[.int .i64 0, .int .i64 0, .slice ad2 (131 + 3) cap2, .bool false] 39)).alloc (.cells (IC.fillOf (.slice (some ⟨wr.heap.size, 0, none⟩) 1 1) [IC.pathOf (.slice ad2 (131 + 3) cap2) T]).cells.toArray 44)) := ((Below.refl _ _).alloc (Nat.le_refl _) _).alloc (by simp) _
                      have HO' : Hid (Own w' (S + 6) 44 11 IC.Cmd.cells ad' cap' (l ++ [IC.fillOf (.slice (some ⟨wr.heap.size, 0, none⟩) 1 1) [IC.pathOf (.slice ad2 (131 + 3) cap2) T]])) := hown'
                      have HI' : Hid (Blk w' (S + 1 + 1 + 1) 27 #[.int .i64 1, .int .i64 1, .int .i64 0, .slice (some ⟨S + 1 + 1, 0, none⟩) 1 1, .slice ad 3 cap]) := ((HIr.out.alloc _).alloc _).grown hg' (fun x e => by have := hne x e; omega)
                      have HF' : Hid (∀ c ∈ l, BigOk w' c (List.replicate 400 IC.cubic)) := fun c hc => ((HFr.out c hc).below hbb).kept hg' (hty _ (by decide)) (hty _ (by decide))
                      have HC' : Hid (BigOk w' (IC.fillOf (.slice (some ⟨wr.heap.size, 0, none⟩) 1 1) [IC.pathOf (.slice ad2 (131 + 3) cap2) T]) T) := ⟨_, _, rfl, Row.kept (many_one IC.Path.cells _ rfl (H1.out.alloc _)) hg' (hty _ (by decide)), Row.kept (Row.below HM.out hbb) hg' (hty _ (by decide))⟩
                      have HK' : Hid (Blk w' (S + 1 + 1) 46 (IC.Col.cells ⟨0, 0, 0, 0⟩).toArray) := ((HKr.out.alloc _).alloc _).grown hg' (fun x e => by have := hne x e; omega)
                      have HX' : Hid (Below S W w') := below_grown ((HXr.out.alloc (by omega) _).alloc (by simp; omega) _) hg' (by simp; omega) (fun x e => by have := hne x e; omega)
                      clear hown' hg' hty hbb
                      obtain ⟨⟨-, -, -, -, q2⟩, q4⟩ := cells_icon HI'.out))
        obtain ⟨X, hX⟩ : ∃ X, w'.setCell ⟨S + 1 + 1 + 1, 4, none⟩ (.slice ad' (3 + 1) cap') = X := ⟨_, rfl⟩
        obtain ⟨E, hE⟩ : ∃ E, IC.fillOf (.slice (some ⟨wr.heap.size, 0, none⟩) 1 1) [IC.pathOf (.slice ad2 (131 + 3) cap2) T] = E := ⟨_, rfl⟩
        rw [hE] at HC' HO'
        have HOx : Hid (Own X (S + 6) 44 11 IC.Cmd.cells ad' cap' (l ++ [E])) := hX ▸ HO'.out.setLow (by show S + 1 + 1 + 1 < S + 6; omega) _
        have HFx : Hid (∀ c ∈ l, BigOk X c (List.replicate 400 IC.cubic)) := hX ▸ fun c hc => (HF'.out c hc).kept (grown_set _ _ _) (HI'.out.typed (by decide)) (HI'.out.typed (by decide))
        have HCx : Hid (BigOk X E T) := hX ▸ HC'.out.kept (grown_set _ _ _) (HI'.out.typed (by decide)) (HI'.out.typed (by decide))
        have HIx : Hid (Blk X (S + 1 + 1 + 1) 27 #[.int .i64 1, .int .i64 1, .int .i64 0, .slice (some ⟨S + 1 + 1, 0, none⟩) 1 1, .slice ad' (3 + 1) cap']) := hX ▸ HI'.out.set _
        have HKx : Hid (Blk X (S + 1 + 1) 46 (IC.Col.cells ⟨0, 0, 0, 0⟩).toArray) := hX ▸ HK'.out.far (by show S + 1 + 1 ≠ S + 1 + 1 + 1; omega) _
        have BX : Hid (Below w.heap.size w X) := HW.out.trans (Below.mono (hX ▸ HX'.out.setCell (by show S ≤ S + 1 + 1 + 1; omega) _) (by omega))
        have hok : IconOk X (IC.iconOf (.slice (some ⟨S + 1 + 1, 0, none⟩) 1 1) (.slice ad' (3 + 1) cap') (l ++ [E])) := ⟨many_one IC.Col.cells _ rfl HKx.out, HOx.out.manyOf (by rw [List.length_append, HL.out]; rfl), fun c hc => by
          rcases List.mem_append.1 hc with hc | hc
          · exact (HFx.out c hc).cmd
          · obtain rfl : c = E := List.mem_singleton.1 hc
            exact HCx.out.cmd⟩
        have hlp := lim_points (.slice (some ⟨S + 1 + 1, 0, none⟩) 1 1) (.slice ad' (3 + 1) cap') l E 3 (by omega) HL.out HFx.out (by rw [HT.out]; exact HCx.out)
        have hkP := points_any _ X hok (by show (l ++ [E]).length ≤ 1000; rw [List.length_append, HL.out]; simp) hlp.2.2.1 hlp.2.2.2
        rw [hlp.1] at hkP
        have hkC := fun Y hb => check_any A _ Y (HE.out.three.below (chain BX.out hb)) (hok.below hb)
        rw [hlp.2.1] at hkC
        have kP : Hid (Calls Tryd.prog 11 #[.agg #[.int .i64 1, .int .i64 1, .int .i64 0, .slice (some ⟨S + 1 + 1, 0, none⟩) 1 1, .slice ad' (3 + 1) cap']] X fun e w' => e = .returned (.int .i64 4000) ∧ Below X.heap.size X w') := hkP
        have kC : Hid (∀ Y, Below X.heap.size X Y → Calls Tryd.prog 9 #[.agg #[.int .i64 1, .int .i64 1, .int .i64 0, .slice (some ⟨S + 1 + 1, 0, none⟩) 1 1, .slice ad' (3 + 1) cap']] Y fun e w' => e = .returned .nilIface ∧ Below Y.heap.size Y w') := hkC
        rw [hX]
        obtain ⟨⟨x0, x1, x2, x3, x4⟩, -⟩ := cells_icon HIx.out
        have zx := HIx.out.lt
        clear hok hlp hkP hkC hE hX HOx HFx HCx HIx HKx HO' HI' HF' HC' HK' HX' HT H1 HM HIr HOr HFr HKr HXr i0 i1 i2 i3 i4 i5 q2 q4 d0 d1 d2 d3 d4
        go_wp2_with (first
          | (go_at_call 11; refine (kP.out).mono ?_; rintro e w4 ⟨rfl, hb4⟩; have B4 : Hid (Below X.heap.size X w4) := hb4; obtain ⟨y0, y1, y2, y3, y4⟩ := five_below ⟨x0, x1, x2, x3, x4⟩ hb4 zx; clear hb4)
          | (go_at_call 9; refine (kC.out _ B4.out).mono ?_; rintro e w5 ⟨rfl, hb5⟩; have B5 : Hid (Below w.heap.size w w5) := chain (chain BX.out B4.out) hb5; clear hb5))
        go_ret
        exact ⟨rfl, B5.out⟩

set_option maxRecDepth 100000 in
set_option maxHeartbeats 4000000 in
theorem limits0_true (A : Nat → Addr) (n : Int) (w : World) (hE : Errs13 w A) (hn : (n.tmod 4 + 4).tmod 4 = 0) (hr : -4 < n.tmod 4 ∧ n.tmod 4 < 4) :
    Calls Tryd.prog 4 #[.int .i64 n, .bool true] w fun e w' => e = .returned (.bool true) ∧ Below w.heap.size w w' := by
  have kf : Hid (∀ W, Below w.heap.size w W → Calls Tryd.prog 6 #[] W fun e w' => e = .returned (.bool true) ∧ Below W.heap.size W w') := fun W hb => first_any A W (hE.three.below hb)
  have HE : Hid (Errs13 w A) := hE
  clear hE
  obtain ⟨r, hr'⟩ : ∃ r, n.tmod 4 = r := ⟨_, rfl⟩
  rw [hr'] at hn hr
  go_enter Tryd.func4, Tryd.ntmps4
  go_wp2_with (go_at_call 6; refine (kf.out _ (Below.refl _ _)).mono ?_; rintro e w1 ⟨rfl, hb1⟩; have B1 : Hid (Below w.heap.size w w1) := hb1; clear hb1)
  obtain ⟨W, hW⟩ : ∃ W, (((((w1.alloc (.cells #[.int .i64 3, .int .i64 1, .int .i64 0, .int .i64 2, .int .i64 0, .int .i64 1, .int .i64 0] 36)).alloc (.cells #[.int .i64 1, .int .i64 0, .int .i64 0, .int .i64 0, .int .i64 0, .int .i64 0, .int .i64 0] 36)).alloc (.cells #[.int .u8 0, .int .u8 0, .int .u8 0, .int .u8 0] 46)).alloc (.cells #[.int .i64 1, .int .i64 1, .int .i64 0, .slice (some ⟨w1.heap.size + 1 + 1, 0, none⟩) 1 1, .slice none 0 0] 27)).alloc (.cells #[.int .i64 1, .int .i64 0, .int .i64 0, .int .i64 0, .int .i64 0, .int .i64 0, .int .i64 0] 36)).alloc (.cells #[.int .i64 0, .int .i64 0, .slice (some ⟨w1.heap.size + 1 + 1 + 1 + 1, 0, none⟩) 1 1, .bool false] 39) = W := ⟨_, rfl⟩
  rw [hW]
  obtain ⟨S, hS⟩ : ∃ S, w1.heap.size = S := ⟨_, rfl⟩
  have HZ : Hid (W.heap.size = S + 6) := by rw [← hW, ← hS]; show _ = _; simp
  have HW : Hid (Below w.heap.size w W) := by rw [← hW]; exact base_below B1.out _ _ _ _ _ _
  have HB : Hid (Blk W S 36 (IC.cubic.cells).toArray ∧ Blk W (S + 1) 36 (IC.line.cells).toArray ∧ Blk W (S + 1 + 1) 46 (IC.Col.cells ⟨0, 0, 0, 0⟩).toArray ∧ Blk W (S + 1 + 1 + 1) 27 #[.int .i64 1, .int .i64 1, .int .i64 0, .slice (some ⟨S + 1 + 1, 0, none⟩) 1 1, .slice none 0 0] ∧ Blk W (S + 1 + 1 + 1 + 1) 36 (IC.line.cells).toArray ∧ Blk W (S + 1 + 1 + 1 + 1 + 1) 39 (IC.pathOf (.slice (some ⟨S + 1 + 1 + 1 + 1, 0, none⟩) 1 1) [IC.line]).cells.toArray) := by rw [← hW, ← hS]; exact base_blocks w1 _ _ _ _ _ _
  have hS0 : w.heap.size ≤ S := by rw [← hS]; exact B1.out.size
  rw [hS]
  clear hW hS B1 kf
  go_loopw [11] (fun i wr => ∃ (k cap : Nat) (ad : Option Addr) (l : List IC.Cmd), k ≤ 3 ∧ i = .int .i64 k ∧ Hid (l.length = k) ∧ Hid (Own wr (S + 6) 44 11 IC.Cmd.cells ad cap l) ∧ Hid (∀ c ∈ l, BigOk wr c (List.replicate 400 IC.cubic)) ∧ Hid (Blk wr (S + 1 + 1 + 1) 27 #[.int .i64 1, .int .i64 1, .int .i64 0, .slice (some ⟨S + 1 + 1, 0, none⟩) 1 1, .slice ad k cap]) ∧ Hid (Blk wr S 36 (IC.cubic.cells).toArray ∧ Blk wr (S + 1) 36 (IC.line.cells).toArray ∧ Blk wr (S + 1 + 1) 46 (IC.Col.cells ⟨0, 0, 0, 0⟩).toArray) ∧ Hid (S + 6 ≤ wr.heap.size) ∧ Hid (Below S W wr)) (fun i _ => 3 - (intOf i).toNat)
  case atStart => exact ⟨0, 0, none, [], by omega, rfl, rfl, own_nil _ _ _ _ _, (fun _ h => absurd h (by simp)), HB.out.2.2.2.1, ⟨HB.out.1, HB.out.2.1, HB.out.2.2.1⟩, (by show S + 6 ≤ W.heap.size; rw [HZ.out]; omega), Below.refl _ _⟩
  case round =>
    obtain ⟨k, cap, ad, l, hk, rfl, HL, HO, HF, HI, HK, HG, HX⟩ := hrel
    clear HB
    rename World => wa
    by_cases hk3 : k < 3
    · have hki : ((k : Nat) : Int) < 3 := by omega
      go_wp2
      go_loopw [13] (fun i wr => ∃ (j cap2 : Nat) (ad2 : Option Addr), j ≤ 400 ∧ i = .int .i64 j ∧ Hid (Own wr (wa.heap.size + 1) 36 7 IC.Seg.cells ad2 cap2 (List.replicate j IC.cubic)) ∧ Hid (Blk wr wa.heap.size 39 (IC.pathOf (.slice ad2 j cap2) []).cells.toArray) ∧ Hid (Below wa.heap.size wa wr)) (fun i _ => 400 - (intOf i).toNat)
      case atStart => exact ⟨0, 0, none, by omega, rfl, own_nil _ _ _ _ _, blk_new wa 39 _, (Below.refl _ _).alloc (Nat.le_refl _) _⟩
      case round =>
        obtain ⟨j, cap2, ad2, hj, rfl, HO2, HP2, HX2⟩ := hrel
        have hz := HP2.out.lt
        have hg6 := HG.out
        obtain ⟨⟨d0, d1, d2, d3⟩, d4⟩ := cells_path HP2.out
        by_cases hj4 : j < 400
        · obtain ⟨l0, l1, l2, l3, l4, l5, l6⟩ := cells_cubic (HK.out.1.below HX2.out HK.out.1.lt)
          go_wp2_with (at_builtin; refine wpList_push _ rfl (.tmp 73) (.tmp 75) 37 rfl (wa.heap.size + 1) 36 _ 7 56 Tryd.underlying37 infoSeg rfl (by decide) IC.Seg.cells seg_len (List.replicate j IC.cubic) IC.cubic j (by simp) rfl (HO2.out.alloc _) wr.heap.size rfl (new_cells _ _ _) (seg_one _) (by omega) (by omega) (by simp; omega) ?_; intro ad' cap' w' hown' hg'
                       have HO' : Hid (Own w' (wa.heap.size + 1) 36 7 IC.Seg.cells ad' cap' (List.replicate (j + 1) IC.cubic)) := hown'.rep
                       have HP' : Hid (Blk w' wa.heap.size 39 (IC.pathOf (.slice ad2 j cap2) []).cells.toArray) := (HP2.out.alloc _).grown hg' (fun x e => by have := (HO2.out.lt x e).1; omega)
                       have HX' : Hid (Below wa.heap.size wa w') := below_grown (HX2.out.alloc (by omega) _) hg' (by simp; omega) (fun x e => by have := (HO2.out.lt x e).1; omega)
                       clear hown' hg'
                       obtain ⟨⟨-, -, q2, -⟩, q4⟩ := cells_path HP'.out)
          go_roundw
          case rel => exact ⟨j + 1, cap', ad', by omega, by go_num, HO'.out.setLow (by show wa.heap.size < wa.heap.size + 1; omega) _, HP'.out.set _, HX'.out.setCell (Nat.le_refl _) _⟩
          case measure => simp [intOf]; omega
        obtain rfl : j = 400 := by omega
        have HIr : Hid (Blk wr (S + 1 + 1 + 1) 27 #[.int .i64 1, .int .i64 1, .int .i64 0, .slice (some ⟨S + 1 + 1, 0, none⟩) 1 1, .slice ad k cap]) := HI.out.below HX2.out HI.out.lt
        have HOr : Hid (Own wr (S + 6) 44 11 IC.Cmd.cells ad cap l) := HO.out.below HX2.out (Nat.le_refl _)
        have HFr : Hid (∀ c ∈ l, BigOk wr c (List.replicate 400 IC.cubic)) := fun c hc => (HF.out c hc).below HX2.out
        have HKr : Hid (Blk wr S 36 (IC.cubic.cells).toArray ∧ Blk wr (S + 1) 36 (IC.line.cells).toArray ∧ Blk wr (S + 1 + 1) 46 (IC.Col.cells ⟨0, 0, 0, 0⟩).toArray) := ⟨HK.out.1.below HX2.out HK.out.1.lt, HK.out.2.1.below HX2.out HK.out.2.1.lt, HK.out.2.2.below HX2.out HK.out.2.2.lt⟩
        have HXr : Hid (Below S W wr) := HX.out.trans (HX2.out.mono (by omega))
        obtain ⟨⟨i0, i1, i2, i3, i4⟩, i5⟩ := cells_icon HIr.out
        have zi : S + 1 + 1 + 1 < wr.heap.size := HIr.out.lt
        have hB6 : S + 6 ≤ wr.heap.size := Nat.le_trans HG.out (by omega)
        have HM : Hid (Many wr 36 7 IC.Seg.cells (.slice ad2 400 cap2) (List.replicate 400 IC.cubic)) := HO2.out.manyRep
        clear HP2 HX2 HO2 HI HO HF HK HG HX
        have H1 : Hid (Blk (wr.alloc (.cells #[.int .i64 0, .int .i64 0, .slice ad2 400 cap2, .bool false] 39)) wr.heap.size 39 (IC.pathOf (.slice ad2 400 cap2) (List.replicate 400 IC.cubic)).cells.toArray) := blk_new wr 39 _
        go_wp2_with (at_builtin; refine wpList_push _ rfl (.tmp 79) (.tmp 83) 25 rfl (S + 6) 44 _ 11 104 Tryd.underlying25 infoCmd rfl (by decide) IC.Cmd.cells cmd_len l (IC.fillOf (.slice (some ⟨wr.heap.size, 0, none⟩) 1 1) [IC.pathOf (.slice ad2 400 cap2) (List.replicate 400 IC.cubic)]) k HL.out rfl ((HOr.out.alloc _).alloc _) (wr.heap.size + 1) rfl (by rw [← size_alloc wr (.cells #[.int .i64 0, .int .i64 0, .slice ad2 400 cap2, .bool false] 39)]; exact new_cells _ _ _) (cmd_one _ rfl) (by omega) (by omega) (by simp; omega) ?_; intro ad' cap' w' hown' hg'
                     have hne : ∀ x, ad = some x → S + 6 ≤ x.block := fun x e => (HOr.out.lt x e).1
                     have hty := fun t' (ht : 44 ≠ t') => ((HOr.out.alloc (.cells #[.int .i64 0, .int .i64 0, .slice ad2 400 cap2, .bool false] 39)).alloc (.cells (IC.fillOf (.slice (some ⟨wr.heap.size, 0, none⟩) 1 1) [IC.pathOf (.slice ad2 400 cap2) (List.replicate 400 IC.cubic)]).cells.toArray 44)).typed (t' := t') ht
                     have hbb : Below wr.heap.size wr ((wr.alloc (.cells #[.int .i64 0, .int .i64 0, .slice ad2 400 cap2, .bool false] 39)).alloc (.cells (IC.fillOf (.slice (some ⟨wr.heap.size, 0, none⟩) 1 1) [IC.pathOf (.slice ad2 400 cap2) (List.replicate 400 IC.cubic)]).cells.toArray 44)) := ((Below.refl _ _).alloc (Nat.le_refl _) _).alloc (by simp) _
                     have HO' : Hid (Own w' (S + 6) 44 11 IC.Cmd.cells ad' cap' (l ++ [IC.fillOf (.slice (some ⟨wr.heap.size, 0, none⟩) 1 1) [IC.pathOf (.slice ad2 400 cap2) (List.replicate 400 IC.cubic)]])) := hown'
                     have HI' : Hid (Blk w' (S + 1 + 1 + 1) 27 #[.int .i64 1, .int .i64 1, .int .i64 0, .slice (some ⟨S + 1 + 1, 0, none⟩) 1 1, .slice ad k cap]) := ((HIr.out.alloc _).alloc _).grown hg' (fun x e => by have := hne x e; omega)
                     have HF' : Hid (∀ c ∈ l ++ [IC.fillOf (.slice (some ⟨wr.heap.size, 0, none⟩) 1 1) [IC.pathOf (.slice ad2 400 cap2) (List.replicate 400 IC.cubic)]], BigOk w' c (List.replicate 400 IC.cubic)) := fun c hc => by
                       rcases List.mem_append.1 hc with hc | hc
                       · exact ((HFr.out c hc).below hbb).kept hg' (hty _ (by decide)) (hty _ (by decide))
                       · obtain rfl : c = _ := List.mem_singleton.1 hc
                         exact ⟨_, _, rfl, Row.kept (many_one IC.Path.cells _ rfl (H1.out.alloc _)) hg' (hty _ (by decide)), Row.kept (Row.below HM.out hbb) hg' (hty _ (by decide))⟩
                     have HK' : Hid (Blk w' S 36 (IC.cubic.cells).toArray ∧ Blk w' (S + 1) 36 (IC.line.cells).toArray ∧ Blk w' (S + 1 + 1) 46 (IC.Col.cells ⟨0, 0, 0, 0⟩).toArray) := ⟨((HKr.out.1.alloc _).alloc _).grown hg' (fun x e => by have := hne x e; omega), ((HKr.out.2.1.alloc _).alloc _).grown hg' (fun x e => by have := hne x e; omega), ((HKr.out.2.2.alloc _).alloc _).grown hg' (fun x e => by have := hne x e; omega)⟩
                     have HG' : Hid (S + 6 ≤ w'.heap.size) := by have := hg'.size; simp at this; show _ ≤ _; omega
                     have HX' : Hid (Below S W w') := below_grown ((HXr.out.alloc (by omega) _).alloc (by simp; omega) _) hg' (by simp; omega) (fun x e => by have := hne x e; omega)
                     clear hown' hg' hty hbb
                     obtain ⟨⟨-, -, -, -, q2⟩, q4⟩ := cells_icon HI'.out)
        go_roundw
        case rel => exact ⟨k + 1, cap', ad', l ++ [IC.fillOf (.slice (some ⟨wr.heap.size, 0, none⟩) 1 1) [IC.pathOf (.slice ad2 400 cap2) (List.replicate 400 IC.cubic)]], by omega, by go_num, (by show (_ ++ [_]).length = _; rw [List.length_append, HL.out]; rfl), HO'.out.setLow (by show S + 1 + 1 + 1 < S + 6; omega) _, (fun c hc => (HF'.out c hc).kept (grown_set _ _ _) (HI'.out.typed (by decide)) (HI'.out.typed (by decide))), HI'.out.set _, ⟨HK'.out.1.far (by show S ≠ S + 1 + 1 + 1; omega) _, HK'.out.2.1.far (by show S + 1 ≠ S + 1 + 1 + 1; omega) _, HK'.out.2.2.far (by show S + 1 + 1 ≠ S + 1 + 1 + 1; omega) _⟩, (by show _ ≤ _; simp; exact HG'.out), HX'.out.setCell (by show S ≤ S + 1 + 1 + 1; omega) _⟩
        case measure => simp [intOf]; omega
    obtain rfl : k = 3 := by omega
    clear hk hk3
    rw [show ((3 : Nat) : Int) = 3 from rfl]
    go_wp2
    go_loopw [15] (fun i wr => ∃ (j cap2 : Nat) (ad2 : Option Addr), j ≤ 131 ∧ i = .int .i64 j ∧ Hid (Own wr (wa.heap.size + 1) 36 7 IC.Seg.cells ad2 cap2 (List.replicate j IC.cubic)) ∧ Hid (Blk wr wa.heap.size 39 (IC.pathOf (.slice ad2 j cap2) []).cells.toArray) ∧ Hid (Below wa.heap.size wa wr)) (fun i _ => 131 - (intOf i).toNat)
    case atStart => exact ⟨0, 0, none, by omega, rfl, own_nil _ _ _ _ _, blk_new wa 39 _, (Below.refl _ _).alloc (Nat.le_refl _) _⟩
    case round =>
      obtain ⟨j, cap2, ad2, hj, rfl, HO2, HP2, HX2⟩ := hrel
      have hz := HP2.out.lt
      obtain ⟨⟨d0, d1, d2, d3⟩, d4⟩ := cells_path HP2.out
      by_cases hj4 : j < 131
      · obtain ⟨l0, l1, l2, l3, l4, l5, l6⟩ := cells_cubic (HK.out.1.below HX2.out HK.out.1.lt)
        go_wp2_with (at_builtin; refine wpList_push _ rfl (.tmp 92) (.tmp 94) 37 rfl (wa.heap.size + 1) 36 _ 7 56 Tryd.underlying37 infoSeg rfl (by decide) IC.Seg.cells seg_len (List.replicate j IC.cubic) IC.cubic j (by simp) rfl (HO2.out.alloc _) wr.heap.size rfl (new_cells _ _ _) (seg_one _) (by omega) (by omega) (by simp; omega) ?_; intro ad' cap' w' hown' hg'
                     have HO' : Hid (Own w' (wa.heap.size + 1) 36 7 IC.Seg.cells ad' cap' (List.replicate (j + 1) IC.cubic)) := hown'.rep
                     have HP' : Hid (Blk w' wa.heap.size 39 (IC.pathOf (.slice ad2 j cap2) []).cells.toArray) := (HP2.out.alloc _).grown hg' (fun x e => by have := (HO2.out.lt x e).1; omega)
                     have HX' : Hid (Below wa.heap.size wa w') := below_grown (HX2.out.alloc (by omega) _) hg' (by simp; omega) (fun x e => by have := (HO2.out.lt x e).1; omega)
                     clear hown' hg'
                     obtain ⟨⟨-, -, q2, -⟩, q4⟩ := cells_path HP'.out)
        go_roundw
        case rel => exact ⟨j + 1, cap', ad', by omega, by go_num, HO'.out.setLow (by show wa.heap.size < wa.heap.size + 1; omega) _, HP'.out.set _, HX'.out.setCell (Nat.le_refl _) _⟩
        case measure => simp [intOf]; omega
      obtain rfl : j = 131 := by omega
      clear d0 d1 d2 d3 d4 hj hj4
      rw [show ((131 : Nat) : Int) = 131 from rfl]
      go_wp2
      rename World => wb
      go_loopw [16] (fun i wr => ∃ (j cap2 : Nat) (ad2 : Option Addr), j ≤ 4 ∧ i = .int .i64 j ∧ Hid (Own wr (wa.heap.size + 1) 36 7 IC.Seg.cells ad2 cap2 (List.replicate 131 IC.cubic ++ List.replicate j IC.line)) ∧ Hid (Blk wr wa.heap.size 39 (IC.pathOf (.slice ad2 (131 + j) cap2) []).cells.toArray) ∧ Hid (Below wa.heap.size wa wr)) (fun i _ => 4 - (intOf i).toNat)
      case atStart => exact ⟨0, cap2, ad2, by omega, rfl, (by show Own _ _ _ _ _ _ _ (_ ++ []); rw [List.append_nil]; exact HO2.out), HP2, HX2⟩
      case round =>
        clear HO2 HP2 HX2 hz
        obtain ⟨j, cap2, ad2, hj, rfl, HO2, HP2, HX2⟩ := hrel
        have hz := HP2.out.lt
        obtain ⟨⟨d0, d1, d2, d3⟩, d4⟩ := cells_path HP2.out
        by_cases hj4 : j < 4
        · obtain ⟨l0, l1, l2, l3, l4, l5, l6⟩ := cells_line (HK.out.2.1.below HX2.out HK.out.2.1.lt)
          go_wp2_with (at_builtin; refine wpList_push _ rfl (.tmp 104) (.tmp 106) 37 rfl (wa.heap.size + 1) 36 _ 7 56 Tryd.underlying37 infoSeg rfl (by decide) IC.Seg.cells seg_len (List.replicate 131 IC.cubic ++ List.replicate j IC.line) IC.line (131 + j) (by rw [List.length_append, List.length_replicate, List.length_replicate]) rfl (HO2.out.alloc _) wr.heap.size rfl (new_cells _ _ _) (seg_one _) (by omega) (by omega) (by simp; omega) ?_; intro ad' cap' w' hown' hg'
                       have HO' : Hid (Own w' (wa.heap.size + 1) 36 7 IC.Seg.cells ad' cap' (List.replicate 131 IC.cubic ++ List.replicate (j + 1) IC.line)) := by rw [show List.replicate (j + 1) IC.line = List.replicate j IC.line ++ [IC.line] from List.replicate_succ', ← List.append_assoc]; exact hown'
                       have HP' : Hid (Blk w' wa.heap.size 39 (IC.pathOf (.slice ad2 (131 + j) cap2) []).cells.toArray) := (HP2.out.alloc _).grown hg' (fun x e => by have := (HO2.out.lt x e).1; omega)
                       have HX' : Hid (Below wa.heap.size wa w') := below_grown (HX2.out.alloc (by omega) _) hg' (by simp; omega) (fun x e => by have := (HO2.out.lt x e).1; omega)
                       clear hown' hg'
                       obtain ⟨⟨-, -, q2, -⟩, q4⟩ := cells_path HP'.out)
          go_roundw
          case rel => exact ⟨j + 1, cap', ad', by omega, by go_num, HO'.out.setLow (by show wa.heap.size < wa.heap.size + 1; omega) _, HP'.out.set _, HX'.out.setCell (Nat.le_refl _) _⟩
          case measure => simp [intOf]; omega
        obtain rfl : j = 4 := by omega
        have HIr : Hid (Blk wr (S + 1 + 1 + 1) 27 #[.int .i64 1, .int .i64 1, .int .i64 0, .slice (some ⟨S + 1 + 1, 0, none⟩) 1 1, .slice ad 3 cap]) := HI.out.below HX2.out HI.out.lt
        have HOr : Hid (Own wr (S + 6) 44 11 IC.Cmd.cells ad cap l) := HO.out.below HX2.out (Nat.le_refl _)
        have HFr : Hid (∀ c ∈ l, BigOk wr c (List.replicate 400 IC.cubic)) := fun c hc => (HF.out c hc).below HX2.out
        have HKr : Hid (Blk wr (S + 1 + 1) 46 (IC.Col.cells ⟨0, 0, 0, 0⟩).toArray) := HK.out.2.2.below HX2.out HK.out.2.2.lt
        have HXr : Hid (Below S W wr) := HX.out.trans (HX2.out.mono (by have := HG.out; omega))
        obtain ⟨⟨i0, i1, i2, i3, i4⟩, i5⟩ := cells_icon HIr.out
        have zi : S + 1 + 1 + 1 < wr.heap.size := HIr.out.lt
        have hB6 : S + 6 ≤ wr.heap.size := Nat.le_trans HG.out (by omega)
        have HM : Hid (Many wr 36 7 IC.Seg.cells (.slice ad2 (131 + 4) cap2) (List.replicate 131 IC.cubic ++ List.replicate 4 IC.line)) := HO2.out.manyOf (by rw [List.length_append, List.length_replicate, List.length_replicate])
        clear HP2 HX2 HO2 HI HO HF HK HG HX
        obtain ⟨T, hT⟩ : ∃ T, List.replicate 131 IC.cubic ++ List.replicate 4 IC.line = T := ⟨_, rfl⟩
        rw [hT] at HM
        have H1 : Hid (Blk (wr.alloc (.cells #[.int .i64 0, .int .i64 0, .slice ad2 (131 + 4) cap2, .bool false] 39)) wr.heap.size 39 (IC.pathOf (.slice ad2 (131 + 4) cap2) T).cells.toArray) := blk_new wr 39 _
        have HT : Hid (List.replicate 131 IC.cubic ++ List.replicate 4 IC.line = T) := hT
        clear hT
        go_upto_region 38 with (first
                   | (at_builtin; refine wpList_push _ rfl (.tmp 110) (.tmp 114) 25 rfl (S + 6) 44 _ 11 104 Tryd.underlying25 infoCmd rfl (by decide) IC.Cmd.cells cmd_len l (IC.fillOf (.slice (some ⟨wr.heap.size, 0, none⟩) 1 1) [IC.pathOf (.slice ad2 (131 + 4) cap2) T]) 3 HL.out rfl ((HOr.out.alloc _).alloc _) (wr.heap.size + 1) rfl (by rw [← size_alloc wr (.cells #[.int .i64 0, .int .i64 0, .slice ad2 (131 + 4) cap2, .bool false] 39)]; exact new_cells _ _ _) (cmd_one _ rfl) (by omega) (by omega) (by simp; omega) ?_; intro ad' cap' w' hown' hg'
                      have hne : ∀ x, ad = some x → S + 6 ≤ x.block := fun x e => (HOr.out.lt x e).1
                      have hty := fun t' (ht : 44 ≠ t') => ((HOr.out.alloc (.cells #[.int .i64 0, .int .i64 0, .slice ad2 (131 + 4) cap2, .bool false] 39)).alloc (.cells (IC.fillOf (.slice (some ⟨wr.heap.size, 0, none⟩) 1 1) [IC.pathOf (.slice ad2 (131 + 4) cap2) T]).cells.toArray 44)).typed (t' := t') ht
                      have hbb : Below wr.heap.size wr ((wr.alloc (.cells #[.int .i64 0, .int .i64 0, .slice ad2 (131 + 4) cap2, .bool false] 39)).alloc (.cells (IC.fillOf (.slice (some ⟨wr.heap.size, 0, none⟩) 1 1) [IC.pathOf (.slice ad2 (131 + 4) cap2) T]).cells.toArray 44)) := ((Below.refl _ _).alloc (Nat.le_refl _) _).alloc (by simp) _
                      have HO' : Hid (Own w' (S + 6) 44 11 IC.Cmd.cells ad' cap' (l ++ [IC.fillOf (.slice (some ⟨wr.heap.size, 0, none⟩) 1 1) [IC.pathOf (.slice ad2 (131 + 4) cap2) T]])) := hown'
                      have HI' : Hid (Blk w' (S + 1 + 1 + 1) 27 #[.int .i64 1, .int .i64 1, .int .i64 0, .slice (some ⟨S + 1 + 1, 0, none⟩) 1 1, .slice ad 3 cap]) := ((HIr.out.alloc _).alloc _).grown hg' (fun x e => by have := hne x e; omega)
                      have HF' : Hid (∀ c ∈ l, BigOk w' c (List.replicate 400 IC.cubic)) := fun c hc => ((HFr.out c hc).below hbb).kept hg' (hty _ (by decide)) (hty _ (by decide))
                      have HC' : Hid (BigOk w' (IC.fillOf (.slice (some ⟨wr.heap.size, 0, none⟩) 1 1) [IC.pathOf (.slice ad2 (131 + 4) cap2) T]) T) := ⟨_, _, rfl, Row.kept (many_one IC.Path.cells _ rfl (H1.out.alloc _)) hg' (hty _ (by decide)), Row.kept (Row.below HM.out hbb) hg' (hty _ (by decide))⟩
                      have HK' : Hid (Blk w' (S + 1 + 1) 46 (IC.Col.cells ⟨0, 0, 0, 0⟩).toArray) := ((HKr.out.alloc _).alloc _).grown hg' (fun x e => by have := hne x e; omega)
                      have HX' : Hid (Below S W w') := below_grown ((HXr.out.alloc (by omega) _).alloc (by simp; omega) _) hg' (by simp; omega) (fun x e => by have := hne x e; omega)
                      clear hown' hg' hty hbb
                      obtain ⟨⟨-, -, -, -, q2⟩, q4⟩ := cells_icon HI'.out))
        obtain ⟨X, hX⟩ : ∃ X, w'.setCell ⟨S + 1 + 1 + 1, 4, none⟩ (.slice ad' (3 + 1) cap') = X := ⟨_, rfl⟩
        obtain ⟨E, hE⟩ : ∃ E, IC.fillOf (.slice (some ⟨wr.heap.size, 0, none⟩) 1 1) [IC.pathOf (.slice ad2 (131 + 4) cap2) T] = E := ⟨_, rfl⟩
        rw [hE] at HC' HO'
        have HOx : Hid (Own X (S + 6) 44 11 IC.Cmd.cells ad' cap' (l ++ [E])) := hX ▸ HO'.out.setLow (by show S + 1 + 1 + 1 < S + 6; omega) _
        have HFx : Hid (∀ c ∈ l, BigOk X c (List.replicate 400 IC.cubic)) := hX ▸ fun c hc => (HF'.out c hc).kept (grown_set _ _ _) (HI'.out.typed (by decide)) (HI'.out.typed (by decide))
        have HCx : Hid (BigOk X E T) := hX ▸ HC'.out.kept (grown_set _ _ _) (HI'.out.typed (by decide)) (HI'.out.typed (by decide))
        have HIx : Hid (Blk X (S + 1 + 1 + 1) 27 #[.int .i64 1, .int .i64 1, .int .i64 0, .slice (some ⟨S + 1 + 1, 0, none⟩) 1 1, .slice ad' (3 + 1) cap']) := hX ▸ HI'.out.set _
        have HKx : Hid (Blk X (S + 1 + 1) 46 (IC.Col.cells ⟨0, 0, 0, 0⟩).toArray) := hX ▸ HK'.out.far (by show S + 1 + 1 ≠ S + 1 + 1 + 1; omega) _
        have BX : Hid (Below w.heap.size w X) := HW.out.trans (Below.mono (hX ▸ HX'.out.setCell (by show S ≤ S + 1 + 1 + 1; omega) _) (by omega))
        have hok : IconOk X (IC.iconOf (.slice (some ⟨S + 1 + 1, 0, none⟩) 1 1) (.slice ad' (3 + 1) cap') (l ++ [E])) := ⟨many_one IC.Col.cells _ rfl HKx.out, HOx.out.manyOf (by rw [List.length_append, HL.out]; rfl), fun c hc => by
          rcases List.mem_append.1 hc with hc | hc
          · exact (HFx.out c hc).cmd
          · obtain rfl : c = E := List.mem_singleton.1 hc
            exact HCx.out.cmd⟩
        have hlp := lim_points (.slice (some ⟨S + 1 + 1, 0, none⟩) 1 1) (.slice ad' (3 + 1) cap') l E 4 (by omega) HL.out HFx.out (by rw [HT.out]; exact HCx.out)
        have hkP := points_any _ X hok (by show (l ++ [E]).length ≤ 1000; rw [List.length_append, HL.out]; simp) hlp.2.2.1 hlp.2.2.2
        rw [hlp.1] at hkP
        have hkC := fun Y hb => check_any A _ Y (HE.out.three.below (chain BX.out hb)) (hok.below hb)
        rw [hlp.2.1] at hkC
        have kP : Hid (Calls Tryd.prog 11 #[.agg #[.int .i64 1, .int .i64 1, .int .i64 0, .slice (some ⟨S + 1 + 1, 0, none⟩) 1 1, .slice ad' (3 + 1) cap']] X fun e w' => e = .returned (.int .i64 4001) ∧ Below X.heap.size X w') := hkP
        have kC : Hid (∀ Y, Below X.heap.size X Y → Calls Tryd.prog 9 #[.agg #[.int .i64 1, .int .i64 1, .int .i64 0, .slice (some ⟨S + 1 + 1, 0, none⟩) 1 1, .slice ad' (3 + 1) cap']] Y fun e w' => e = .returned (.iface 106 (.pointer (some (A 1)))) ∧ Below Y.heap.size Y w') := hkC
        rw [hX]
        obtain ⟨⟨x0, x1, x2, x3, x4⟩, -⟩ := cells_icon HIx.out
        have zx := HIx.out.lt
        clear hok hlp hkP hkC hE hX HOx HFx HCx HIx HKx HO' HI' HF' HC' HK' HX' HT H1 HM HIr HOr HFr HKr HXr i0 i1 i2 i3 i4 i5 q2 q4 d0 d1 d2 d3 d4
        go_wp2_with (first
          | (go_at_call 11; refine (kP.out).mono ?_; rintro e w4 ⟨rfl, hb4⟩; have B4 : Hid (Below X.heap.size X w4) := hb4; obtain ⟨y0, y1, y2, y3, y4⟩ := five_below ⟨x0, x1, x2, x3, x4⟩ hb4 zx; clear hb4)
          | (go_at_call 9; refine (kC.out _ B4.out).mono ?_; rintro e w5 ⟨rfl, hb5⟩; have B5 : Hid (Below w.heap.size w w5) := chain (chain BX.out B4.out) hb5; clear hb5)
          | (go_at_call 10; refine (is_bare A w5 (HE.out.below B5.out) 5 (by omega) (A 1) rfl 106 rfl).mono ?_; rintro e w6 ⟨rfl, hb6⟩))
        go_ret
        exact ⟨rfl, chain B5.out hb6⟩

end Go.Proofs.YtmkipfgglcpfaaaDoor

/-
  A reader reads a color: one more: walked over the program.
-/
import Derived.Test.YtcnlkdoifogkbaaGreatDoorDecColB
namespace Go.Proofs.YtcnlkdoifogkbaaGreatDoor
open Go.RowKit

set_option maxRecDepth 20000 in
set_option maxHeartbeats 4000000 in
theorem dcol3 (x : Src) (q : Nat) (s : DP.St) (w : World) (h : Rd x q w s) (hc : s.cols.length < 256) (hcap : x.bs.length ≤ x.cap) (g o : Nat) (hao : x.ao = some ⟨g, o, none⟩) (hgq : g < q) (hsh : ¬ x.bs.length < s.at' + 4) (hany : s.cols.any (IC.sameCol (DP.colAt x.bs s.at')) = false) :
    Calls Tryz.prog 59 #[.pointer (some ⟨q, 0, none⟩)] w fun e w' => ∃ c : IC.Col, e = .returned (.agg c.cells.toArray) ∧ ColPost x q w (DP.col x.bs s) c w' := by
  have hat := h.fit.at'
  have hlen := h.base.len
  have c0 : w.cell? ⟨q, 0, none⟩ = some (.slice (some ⟨g, o, none⟩) x.bs.length x.cap) := by rw [← hao]; exact h.blk.cell 0
  have c1 : w.cell? ⟨q, 1, none⟩ = some (.int .i64 s.at') := h.blk.cell 1
  have hq := h.lt
  have HR := hid'' h
  obtain ⟨L, hL⟩ : ∃ L, x.bs.length = L := ⟨_, rfl⟩
  rw [hL] at c0 hat hlen hcap hsh
  obtain ⟨T, hT⟩ : ∃ T, s.at' = T := ⟨_, rfl⟩
  rw [hT] at c1 hat hsh
  clear h
  have HS : Hid (x.bs.length = L ∧ s.at' = T ∧ x.ao = some ⟨g, o, none⟩) := ⟨hL, hT, hao⟩
  have hcT : ¬ x.cap = T := by omega
  obtain ⟨⟨b0, hb0⟩, ⟨b1, hb1⟩, ⟨b2, hb2⟩, ⟨b3, hb3⟩⟩ : (∃ b, x.bs.getD T 0 = b) ∧ (∃ b, x.bs.getD (T + 1) 0 = b) ∧ (∃ b, x.bs.getD (T + 2) 0 = b) ∧ (∃ b, x.bs.getD (T + 3) 0 = b) := ⟨⟨_, rfl⟩, ⟨_, rfl⟩, ⟨_, rfl⟩, ⟨_, rfl⟩⟩
  have cells : ∀ j, j < L → w.cell? ⟨g, o + j, none⟩ = some (.int .u8 (x.bs.getD j 0 : Nat)) := fun j hj => by
    obtain ⟨b', o', e1, e2, e3⟩ := HR.out.base.byt j (by rw [hL]; exact hj)
    rw [hao] at e1
    cases e1
    rw [e3, List.getD_eq_getElem?_getD, List.getElem?_eq_getElem (by rw [hL]; exact hj)]
    rfl
  have e0 := cells T (by omega)
  have e1 := cells (T + 1) (by omega)
  have e2 := cells (T + 2) (by omega)
  have e3 := cells (T + 3) (by omega)
  rw [hb0] at e0
  rw [hb1, ← Nat.add_assoc] at e1
  rw [hb2, ← Nat.add_assoc] at e2
  rw [hb3, ← Nat.add_assoc] at e3
  have HC : DP.colAt x.bs T = ⟨b0, b1, b2, b3⟩ := by
    unfold DP.colAt
    rw [hb0, hb1, hb2, hb3]
  have hgw : g < w.heap.size := by omega
  rw [hT, HC] at hany
  have hcol : DP.col x.bs s = .ok (⟨b0, b1, b2, b3⟩, { s with cols := s.cols ++ [⟨b0, b1, b2, b3⟩], at' := T + 4 }) := by
    unfold DP.col
    rw [hL, hT, if_neg hsh, HC, hany]
    rfl
  have HCOL := hid'' hcol
  have kc : Hid (∀ W, Below w.heap.size w W → Calls Tryz.prog 76 #[.slice x.adc s.cols.length x.capc, .agg #[.int .u8 b0, .int .u8 b1, .int .u8 b2, .int .u8 b3]] W fun e w' => e = .returned (.bool false) ∧ Below W.heap.size W w') := fun W hW => by
    have := contains_any s.cols _ ⟨b0, b1, b2, b3⟩ W (HR.out.own.below hW (Nat.le_refl _)).many
    rw [hany] at this
    exact this
  obtain ⟨NC, hNC⟩ : ∃ n, s.cols.length = n := ⟨_, rfl⟩
  rw [hNC] at kc hc
  have HNC := hid'' hNC
  clear cells hb0 hb1 hb2 hb3 hL hT hao hany hcol hNC HC
  go_enter Tryz.func59, Tryz.ntmps59
  go_wp2
  go_region
  go_wp2
  go_region
  obtain ⟨W2, hW2⟩ : ∃ W2, ((w.alloc (.cells #[.int .u8 0, .int .u8 0, .int .u8 0, .int .u8 0] 66)).alloc (.cells #[.int .u8 b0, .int .u8 b1, .int .u8 b2, .int .u8 b3] 66)).drew.drew = W2 := ⟨_, rfl⟩
  have BW2 : Below w.heap.size w W2 := by rw [← hW2]; exact (((Below.refl _ _).alloc (Nat.le_refl _) _).alloc (by simp) _).drew.drew
  have S2 : Hid (Rd x q W2 s) := HR.out.below BW2
  have B2 : Blk W2 w.heap.size 66 #[.int .u8 0, .int .u8 0, .int .u8 0, .int .u8 0] := by rw [← hW2]; exact (two_boxes w _ _ _ _).1
  have C2 : Blk W2 (w.heap.size + 1) 66 #[.int .u8 b0, .int .u8 b1, .int .u8 b2, .int .u8 b3] := by rw [← hW2]; exact (two_boxes w _ _ _ _).2
  have HB2 := hid'' BW2
  rw [hW2]
  have lt2 : w.heap.size + 1 < W2.heap.size := C2.lt
  have k4 : W2.cell? ⟨q, 4, none⟩ = some (.slice x.adc NC x.capc) := by rw [← HNC.out]; exact S2.out.blk.cell 4
  have q4 := Grown.cell S2.out.lt k4
  have q0 := Grown.cell lt2 (show W2.cell? ⟨w.heap.size + 1, 0, none⟩ = some (.int .u8 b0) from C2.cell 0)
  have q1 := Grown.cell lt2 (show W2.cell? ⟨w.heap.size + 1, 1, none⟩ = some (.int .u8 b1) from C2.cell 1)
  have q2 := Grown.cell lt2 (show W2.cell? ⟨w.heap.size + 1, 2, none⟩ = some (.int .u8 b2) from C2.cell 2)
  have q3 := Grown.cell lt2 (show W2.cell? ⟨w.heap.size + 1, 3, none⟩ = some (.int .u8 b3) from C2.cell 3)
  have hne := Grown.some W2
  clear hW2 BW2 e0 e1 e2 e3 c0 c1 k4
  go_upto_region 6 with fail
  refine wp_region_grow (by kernel_rfl) (by kernel_rfl) ?_
  repeat (go_big_quiet_step ((go_at_call 76; exact grow_of (kc.out _ (HB2.out.trans ((Grown.below _).mono HB2.out.size))))))
  refine wpQuiet_nil ?_
  rintro _ ⟨G, rfl⟩
  have HG := hid'' G.below
  clear q0 q1 q2 q3 q4 hne
  obtain ⟨w3, hw3⟩ : ∃ w3, G.w = w3 := ⟨_, rfl⟩
  rw [hw3] at HG
  rw [hw3]
  clear hw3
  have S3 : Hid (Rd x q w3 s) := S2.out.below HG.out
  have B3 := B2.below HG.out (by omega)
  have C3 := C2.below HG.out lt2
  have M3 : Hid (MkC x q w w3) := MkC.of (Mk.below (HB2.out.trans (HG.out.mono HB2.out.size)))
  have lt3 := C3.lt
  have m1 : w3.cell? ⟨q, 1, none⟩ = some (.int .i64 T) := by rw [← HS.out.2.1]; exact S3.out.blk.cell 1
  have hq3 := S3.out.lt
  clear S2 B2 C2
  have O3 : Hid (Own w3 (q + 1) 66 4 IC.Col.cells x.adc x.capc s.cols) := S3.out.own
  have HAD : Hid (∀ a, x.adc = some a → a.block < w.heap.size ∧ q < a.block) := fun a e => ⟨(HR.out.own.lt a e).2, (HR.out.own.lt a e).1⟩
  have m4 : w3.cell? ⟨q, 4, none⟩ = some (.slice x.adc NC x.capc) := by rw [← HNC.out]; exact S3.out.blk.cell 4
  have fm4 := S3.out.blk.frozen 4
  have fm1 := S3.out.blk.frozen 1
  have d0 := C3.cell 0
  have d1 := C3.cell 1
  have d2 := C3.cell 2
  have d3 := C3.cell 3
  simp at d0 d1 d2 d3
  go_wp2
  go_region_law (refine step_pushL (ad := x.adc) (cap := x.capc) rfl (.tmp 56) (.tmp 58) 24 rfl (q + 1) 66 _ 4 4 Tryz.underlying24 infoColor rfl (by decide) IC.Col.cells dcol_len s.cols ⟨b0, b1, b2, b3⟩ NC HNC.out (by simp [Act.eval]) (by first | exact (O3.out.drew).alloc _ | exact (O3.out.alloc _).drew) w3.heap.size (by simp [Act.eval]) (new_cells _ _ _) (col_one _) (by omega) (by omega) (by simp; omega) ?_
                 intro g' cap' w5 hown' hg' hat'
                 have HO5 := hid'' hown'
                 have hg5 : w3.heap.size ≤ w5.heap.size := by have := hg'.size; simp at this; omega
                 have hgs : Hid (∀ k, k < w3.heap.size → (∀ a, x.adc = some a → k ≠ a.block) → w5.heap[k]? = w3.heap[k]?) := fun k hk hn => by
                   have e1 := hg'.block k (by simp; omega) (fun e => by
                     cases ha : x.adc with
                     | none => rw [ha] at e; simp at e
                     | some a => rw [ha] at e; simp at e; exact hn a ha e)
                   exact e1.trans (Below.heap_alloc _ _ _ hk)
                 have HAT : Hid (x.adc.map (·.block) = some g' ∨ w3.heap.size ≤ g') := hat'.imp id (fun e => by simp at e; omega)
                 have HOS : Hid (w5.os = w3.os ∧ w5.tape = w3.tape ∧ w5.output = w3.output) := ⟨hg'.os, hg'.tape, hg'.output⟩
                 have Q5 : Blk w5 q 84 (rcells x s) := (hgs.out q hq3 (fun a e => by have := (HAD.out a e).2; omega)).trans S3.out.blk
                 have B5 : Blk w5 w.heap.size 66 _ := (hgs.out w.heap.size (by omega) (fun a e => by have := (HAD.out a e).1; omega)).trans B3
                 have C5 : Blk w5 (w.heap.size + 1) 66 _ := (hgs.out (w.heap.size + 1) (by omega) (fun a e => by have := (HAD.out a e).1; omega)).trans C3
                 have lq5 := Q5.lt
                 have lb5 := B5.lt
                 have lc5 := C5.lt
                 have r1 : w5.cell? ⟨q, 1, none⟩ = some (.int .i64 T) := by rw [← HS.out.2.1]; exact Q5.cell 1
                 have r4 : w5.cell? ⟨q, 4, none⟩ = some (.slice x.adc NC x.capc) := by rw [← HNC.out]; exact Q5.cell 4
                 have fr1 := Q5.frozen 1
                 have fr4 := Q5.frozen 4
                 have x0 := B5.cell 0
                 have fx0 := B5.frozen 0
                 have y0 := C5.cell 0
                 have x1 := B5.cell 1
                 have fx1 := B5.frozen 1
                 have y1 := C5.cell 1
                 have x2 := B5.cell 2
                 have fx2 := B5.frozen 2
                 have y2 := C5.cell 2
                 have x3 := B5.cell 3
                 have fx3 := B5.frozen 3
                 have y3 := C5.cell 3
                 simp at x0 x1 x2 x3 y0 y1 y2 y3
                 clear hown' hg' hat')
  all_goals go_wp2
  all_goals
    have B7 := (B5.far (p := ⟨q, 4, none⟩) (by show w.heap.size ≠ q; omega) (.slice (some ⟨g', 0, none⟩) (NC + 1) cap')).far (p := ⟨q, 1, none⟩) (by show w.heap.size ≠ q; omega) (.int .i64 ((T : Int) + 4))
    have Q7 := (Q5.set (j := 4) (.slice (some ⟨g', 0, none⟩) (NC + 1) cap')).set (j := 1) (.int .i64 ((T : Int) + 4))
    have O7 := (HO5.out.setLow (p := ⟨q, 4, none⟩) (by show q < q + 1; omega) (.slice (some ⟨g', 0, none⟩) (NC + 1) cap')).setLow (p := ⟨q, 1, none⟩) (by show q < q + 1; omega) (.int .i64 ((T : Int) + 4))
    have hgne : g' ≠ w.heap.size := by
      rcases HAT.out with e | e
      · cases ha : x.adc with
        | none => rw [ha] at e; simp at e
        | some a => rw [ha] at e; simp at e; have := (HAD.out a ha).1; omega
      · omega
    have M5 : MkC x q w w5 := ⟨HOS.out.1.trans M3.out.os, HOS.out.2.1.trans M3.out.tape, HOS.out.2.2.trans M3.out.output, by have := M3.out.size; omega, fun k hk h1 h2 => (hgs.out k (by have := M3.out.size; omega) h2).trans (M3.out.block k hk h1 h2)⟩
    have M7 := (M5.set (p := ⟨q, 4, none⟩) (.inr rfl) (.slice (some ⟨g', 0, none⟩) (NC + 1) cap')).set (p := ⟨q, 1, none⟩) (.inr rfl) (.int .i64 ((T : Int) + 4))
    have BL0 : Below q w3 w5 := ⟨HOS.out.1, HOS.out.2.1, HOS.out.2.2, hg5, fun k hk => hgs.out k (by omega) (fun a e => by have := (HAD.out a e).2; omega)⟩
    have BL := (BL0.setCell (p := ⟨q, 4, none⟩) (Nat.le_refl _) (.slice (some ⟨g', 0, none⟩) (NC + 1) cap')).setCell (p := ⟨q, 1, none⟩) (Nat.le_refl _) (.int .i64 ((T : Int) + 4))
    have hfit := HR.out.fit
    have hcl : (s.cols ++ [(⟨b0, b1, b2, b3⟩ : IC.Col)]).length = NC + 1 := by rw [List.length_append, HNC.out]; rfl
    refine bodyPost_ret (v := .agg #[.int .u8 b0, .int .u8 b1, .int .u8 b2, .int .u8 b3]) (by simp [results, Tryz.results59, go_sem, B7.got 0 (by simp) (.int .u8 b0), (B7.set (j := 0) (.int .u8 b0)).got 1 (by simp) (.int .u8 b1), ((B7.set (j := 0) (.int .u8 b0)).set (j := 1) (.int .u8 b1)).got 2 (by simp) (.int .u8 b2), (((B7.set (j := 0) (.int .u8 b0)).set (j := 1) (.int .u8 b1)).set (j := 2) (.int .u8 b2)).got 3 (by simp) (.int .u8 b3)]) rfl ⟨⟨b0, b1, b2, b3⟩, rfl, ?_⟩
    rw [HCOL.out]
    refine ⟨((((M7.set (p := ⟨w.heap.size, 0, none⟩) (.inl (Nat.le_refl _)) (.int .u8 b0)).set (p := ⟨w.heap.size, 1, none⟩) (.inl (Nat.le_refl _)) (.int .u8 b1)).set (p := ⟨w.heap.size, 2, none⟩) (.inl (Nat.le_refl _)) (.int .u8 b2)).set (p := ⟨w.heap.size, 3, none⟩) (.inl (Nat.le_refl _)) (.int .u8 b3)), rfl, ⟨g', 0, none⟩, cap', ⟨?_, ?_, ?_, ?_⟩, ?_⟩
    · have hb := S3.out.base.low ((((BL.setCell (p := ⟨w.heap.size, 0, none⟩) (by show q ≤ w.heap.size; omega) (.int .u8 b0)).setCell (p := ⟨w.heap.size, 1, none⟩) (by show q ≤ w.heap.size; omega) (.int .u8 b1)).setCell (p := ⟨w.heap.size, 2, none⟩) (by show q ≤ w.heap.size; omega) (.int .u8 b2)).setCell (p := ⟨w.heap.size, 3, none⟩) (by show q ≤ w.heap.size; omega) (.int .u8 b3))
      exact ⟨hb.errs, hb.q13, hb.qlt, hb.byt, hb.lt256, hb.len⟩
    · refine ⟨by show T + 4 ≤ x.bs.length; rw [HS.out.1]; omega, hfit.far0, hfit.far1, by show (s.cols ++ [_]).length ≤ 256; rw [hcl]; omega, ?_, hfit.pts⟩
      show s.used ≤ (s.cols ++ [_]).length
      have := hfit.used
      rw [HNC.out] at this
      rw [hcl]
      omega
    · have e := ((((Q7.far (p := ⟨w.heap.size, 0, none⟩) (by show q ≠ w.heap.size; omega) (.int .u8 b0)).far (p := ⟨w.heap.size, 1, none⟩) (by show q ≠ w.heap.size; omega) (.int .u8 b1)).far (p := ⟨w.heap.size, 2, none⟩) (by show q ≠ w.heap.size; omega) (.int .u8 b2)).far (p := ⟨w.heap.size, 3, none⟩) (by show q ≠ w.heap.size; omega) (.int .u8 b3))
      have e2 : rcells { x with adc := some ⟨g', 0, none⟩, capc := cap' } { s with cols := s.cols ++ [(⟨b0, b1, b2, b3⟩ : IC.Col)], at' := T + 4 } = ((rcells x s).setIfInBounds 4 (.slice (some ⟨g', 0, none⟩) (NC + 1) cap')).setIfInBounds 1 (.int .i64 ((T : Int) + 4)) := by
        unfold rcells
        rw [hcl]
        simp
      rw [e2]
      exact e
    · exact ((((((((O7).kept fun a e => Below.heap_setCell _ _ _ _ (by cases e; show g' ≠ w.heap.size; omega))).kept fun a e => Below.heap_setCell _ _ _ _ (by cases e; show g' ≠ w.heap.size; omega))).kept fun a e => Below.heap_setCell _ _ _ _ (by cases e; show g' ≠ w.heap.size; omega))).kept fun a e => Below.heap_setCell _ _ _ _ (by cases e; show g' ≠ w.heap.size; omega))
    · rcases HAT.out with e | e
      · cases ha : x.adc with
        | none => rw [ha] at e; simp at e
        | some a =>
          rw [ha] at e
          simp at e
          left
          rcases HR.out.own.2 with ⟨h1, _⟩ | ⟨g2, c2, cur, h1, _⟩
          · rw [ha] at h1; cases h1
          · rw [ha] at h1; cases h1; rw [← e]
      · right; show w.heap.size ≤ g'; omega

end Go.Proofs.YtcnlkdoifogkbaaGreatDoor

/-
  A reader reads a color: one that is one ahead: walked over the program.
-/
import Derived.Test.YtbfhehdinkbioaaDoorDecColB
namespace Go.Proofs.YtbfhehdinkbioaaDoor
open Go.RowKit

set_option maxRecDepth 20000 in
set_option maxHeartbeats 4000000 in
theorem dcol2 (x : Src) (q : Nat) (s : DP.St) (w : World) (h : Rd x q w s) (_hc : s.cols.length < 256) (hcap : x.bs.length ≤ x.cap) (g o : Nat) (hao : x.ao = some ⟨g, o, none⟩) (hgq : g < q) (hsh : ¬ x.bs.length < s.at' + 4) (hany : s.cols.any (IC.sameCol (DP.colAt x.bs s.at')) = true) :
    Calls Tryd.prog 50 #[.pointer (some ⟨q, 0, none⟩)] w fun e w' => ∃ c : IC.Col, e = .returned (.agg c.cells.toArray) ∧ ColPost x q w (DP.col x.bs s) c w' := by
  have hat := h.fit.at'
  have hlen := h.base.len
  have c0 : w.cell? ⟨q, 0, none⟩ = some (.slice (some ⟨g, o, none⟩) x.bs.length x.cap) := by rw [← hao]; exact h.blk.cell 0
  have c1 : w.cell? ⟨q, 1, none⟩ = some (.int .i64 s.at') := h.blk.cell 1
  have hq := h.lt
  have HR := hid'' h
  obtain ⟨L, hL⟩ : ∃ L, x.bs.length = L := ⟨_, rfl⟩
  rw [hL] at c0 hat hlen hcap hsh
  obtain ⟨T, hT⟩ : ∃ T, s.at' = T := ⟨_, rfl⟩
  rw [hT] at c1 hat hsh
  clear h
  have HS : Hid (x.bs.length = L ∧ s.at' = T ∧ x.ao = some ⟨g, o, none⟩) := ⟨hL, hT, hao⟩
  have hcT : ¬ x.cap = T := by omega
  obtain ⟨⟨b0, hb0⟩, ⟨b1, hb1⟩, ⟨b2, hb2⟩, ⟨b3, hb3⟩⟩ : (∃ b, x.bs.getD T 0 = b) ∧ (∃ b, x.bs.getD (T + 1) 0 = b) ∧ (∃ b, x.bs.getD (T + 2) 0 = b) ∧ (∃ b, x.bs.getD (T + 3) 0 = b) := ⟨⟨_, rfl⟩, ⟨_, rfl⟩, ⟨_, rfl⟩, ⟨_, rfl⟩⟩
  have cells : ∀ j, j < L → w.cell? ⟨g, o + j, none⟩ = some (.int .u8 (x.bs.getD j 0 : Nat)) := fun j hj => by
    obtain ⟨b', o', e1, e2, e3⟩ := HR.out.base.byt j (by rw [hL]; exact hj)
    rw [hao] at e1
    cases e1
    rw [e3, List.getD_eq_getElem?_getD, List.getElem?_eq_getElem (by rw [hL]; exact hj)]
    rfl
  have e0 := cells T (by omega)
  have e1 := cells (T + 1) (by omega)
  have e2 := cells (T + 2) (by omega)
  have e3 := cells (T + 3) (by omega)
  rw [hb0] at e0
  rw [hb1, ← Nat.add_assoc] at e1
  rw [hb2, ← Nat.add_assoc] at e2
  rw [hb3, ← Nat.add_assoc] at e3
  have HC : DP.colAt x.bs T = ⟨b0, b1, b2, b3⟩ := by
    unfold DP.colAt
    rw [hb0, hb1, hb2, hb3]
  have hgw : g < w.heap.size := by omega
  rw [hT, HC] at hany
  have hcol : DP.col x.bs s = .error (DP.eCanon, T) := by
    unfold DP.col
    rw [hL, hT, if_neg hsh, HC, hany]
    rfl
  have HCOL := hid'' hcol
  have kc : Hid (∀ W, Below w.heap.size w W → Calls Tryd.prog 77 #[.slice x.adc s.cols.length x.capc, .agg #[.int .u8 b0, .int .u8 b1, .int .u8 b2, .int .u8 b3]] W fun e w' => e = .returned (.bool true) ∧ Below W.heap.size W w') := fun W hW => by
    have := contains_any s.cols _ ⟨b0, b1, b2, b3⟩ W (HR.out.own.below hW (Nat.le_refl _)).many
    rw [hany] at this
    exact this
  obtain ⟨NC, hNC⟩ : ∃ n, s.cols.length = n := ⟨_, rfl⟩
  rw [hNC] at kc
  have HNC := hid'' hNC
  clear cells hb0 hb1 hb2 hb3 hL hT hao hany hcol hNC HC
  go_enter Tryd.func50, Tryd.ntmps50
  go_wp2
  go_region
  go_wp2
  go_region
  obtain ⟨W2, hW2⟩ : ∃ W2, ((w.alloc (.cells #[.int .u8 0, .int .u8 0, .int .u8 0, .int .u8 0] 79)).alloc (.cells #[.int .u8 b0, .int .u8 b1, .int .u8 b2, .int .u8 b3] 79)).drew.drew = W2 := ⟨_, rfl⟩
  have BW2 : Below w.heap.size w W2 := by rw [← hW2]; exact (((Below.refl _ _).alloc (Nat.le_refl _) _).alloc (by simp) _).drew.drew
  have S2 : Hid (Rd x q W2 s) := HR.out.below BW2
  have B2 : Blk W2 w.heap.size 79 #[.int .u8 0, .int .u8 0, .int .u8 0, .int .u8 0] := by rw [← hW2]; exact (two_boxes w _ _ _ _).1
  have C2 : Blk W2 (w.heap.size + 1) 79 #[.int .u8 b0, .int .u8 b1, .int .u8 b2, .int .u8 b3] := by rw [← hW2]; exact (two_boxes w _ _ _ _).2
  have HB2 := hid'' BW2
  rw [hW2]
  have lt2 : w.heap.size + 1 < W2.heap.size := C2.lt
  have k4 : W2.cell? ⟨q, 4, none⟩ = some (.slice x.adc NC x.capc) := by rw [← HNC.out]; exact S2.out.blk.cell 4
  have q4 := Grown.cell S2.out.lt k4
  have q0 := Grown.cell lt2 (show W2.cell? ⟨w.heap.size + 1, 0, none⟩ = some (.int .u8 b0) from C2.cell 0)
  have q1 := Grown.cell lt2 (show W2.cell? ⟨w.heap.size + 1, 1, none⟩ = some (.int .u8 b1) from C2.cell 1)
  have q2 := Grown.cell lt2 (show W2.cell? ⟨w.heap.size + 1, 2, none⟩ = some (.int .u8 b2) from C2.cell 2)
  have q3 := Grown.cell lt2 (show W2.cell? ⟨w.heap.size + 1, 3, none⟩ = some (.int .u8 b3) from C2.cell 3)
  have hne := Grown.some W2
  clear hW2 BW2 e0 e1 e2 e3 c0 c1 k4
  go_upto_region 6 with fail
  refine wp_region_grow (by kernel_rfl) (by kernel_rfl) ?_
  repeat (go_big_quiet_step ((go_at_call 77; exact grow_of (kc.out _ (HB2.out.trans ((Grown.below _).mono HB2.out.size))))))
  refine wpQuiet_nil ?_
  rintro _ ⟨G, rfl⟩
  have HG := hid'' G.below
  clear q0 q1 q2 q3 q4 hne
  obtain ⟨w3, hw3⟩ : ∃ w3, G.w = w3 := ⟨_, rfl⟩
  rw [hw3] at HG
  rw [hw3]
  clear hw3
  have S3 : Hid (Rd x q w3 s) := S2.out.below HG.out
  have B3 := B2.below HG.out (by omega)
  have C3 := C2.below HG.out lt2
  have M3 : Hid (MkC x q w w3) := MkC.of (Mk.below (HB2.out.trans (HG.out.mono HB2.out.size)))
  have lt3 := C3.lt
  have m1 : w3.cell? ⟨q, 1, none⟩ = some (.int .i64 T) := by rw [← HS.out.2.1]; exact S3.out.blk.cell 1
  have hq3 := S3.out.lt
  clear S2 B2 C2
  have eC := S3.out.base.canon
  have kf : Hid (∀ W, Rd x q W s → Calls Tryd.prog 73 #[.pointer (some ⟨q, 0, none⟩), .int .i64 T, .iface 173 (.pointer (some (x.A (perm 9))))] W fun e w' => e = .returned (.tuple #[]) ∧ Rx x q w' (9, T) ∧ Mk q W w') := fun W hW => fail_ok x q s T 9 (by omega) W hW
  go_wp2
  go_region_with (first
    | (go_at_call 73; refine (kf.out _ (by first | exact S3.out | exact S3.out.below (Below.refl _ _).drew)).mono ?_; rintro e w4 ⟨rfl, h4, m4'⟩
       have H4 := hid'' h4
       have M4 : Hid (MkC x q w w4) := M3.out.trans ⟨m4'.os, m4'.tape, m4'.output, m4'.size, fun k hk h1 _ => m4'.block k hk (fun e => h1 (by cases e; rfl))⟩
       have B4 : Blk w4 w.heap.size 79 #[.int .u8 0, .int .u8 0, .int .u8 0, .int .u8 0] := by first | exact Blk.mk B3.drew m4' (by omega) | exact Blk.mk B3 m4' (by omega)
       have lt4 := B4.lt
       have x0 := B4.cell 0
       have x1 := B4.cell 1
       have x2 := B4.cell 2
       have x3 := B4.cell 3
       have fx0 := B4.frozen 0
       have fx1 := B4.frozen 1
       have fx2 := B4.frozen 2
       have fx3 := B4.frozen 3
       simp at x0 x1 x2 x3
       clear h4 m4'))
  all_goals go_wp2
  all_goals
    refine bodyPost_ret (v := .agg #[.int .u8 0, .int .u8 0, .int .u8 0, .int .u8 0]) (by simp [results, Tryd.results50, go_sem, B4.got 0 (by simp) (.int .u8 0), (B4.set (j := 0) (.int .u8 0)).got 1 (by simp) (.int .u8 0), ((B4.set (j := 0) (.int .u8 0)).set (j := 1) (.int .u8 0)).got 2 (by simp) (.int .u8 0), (((B4.set (j := 0) (.int .u8 0)).set (j := 1) (.int .u8 0)).set (j := 2) (.int .u8 0)).got 3 (by simp) (.int .u8 0)]) rfl ⟨⟨0, 0, 0, 0⟩, rfl, ?_⟩
    rw [HCOL.out]
    exact ⟨((((M4.out.set (p := ⟨w.heap.size, 0, none⟩) (.inl (Nat.le_refl _)) (.int .u8 0)).set (p := ⟨w.heap.size, 1, none⟩) (.inl (Nat.le_refl _)) (.int .u8 0)).set (p := ⟨w.heap.size, 2, none⟩) (.inl (Nat.le_refl _)) (.int .u8 0)).set (p := ⟨w.heap.size, 3, none⟩) (.inl (Nat.le_refl _)) (.int .u8 0)), ((((H4.out.far (p := ⟨w.heap.size, 0, none⟩) (by show q < w.heap.size; omega) B4 (by decide) (.int .u8 0)).far (p := ⟨w.heap.size, 1, none⟩) (by show q < w.heap.size; omega) (B4.set (j := 0) (.int .u8 0)) (by decide) (.int .u8 0)).far (p := ⟨w.heap.size, 2, none⟩) (by show q < w.heap.size; omega) ((B4.set (j := 0) (.int .u8 0)).set (j := 1) (.int .u8 0)) (by decide) (.int .u8 0)).far (p := ⟨w.heap.size, 3, none⟩) (by show q < w.heap.size; omega) (((B4.set (j := 0) (.int .u8 0)).set (j := 1) (.int .u8 0)).set (j := 2) (.int .u8 0)) (by decide) (.int .u8 0))⟩

end Go.Proofs.YtbfhehdinkbioaaDoor

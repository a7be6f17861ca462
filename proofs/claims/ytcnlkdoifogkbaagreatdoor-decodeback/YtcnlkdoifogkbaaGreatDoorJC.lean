import Derived.Test.YtcnlkdoifogkbaaGreatDoorJR
import Derived.Test.YtcnlkdoifogkbaaGreatDoorDecPnt0
/-
  A reader reads a paint of another kind: walked over the program.
-/
namespace Go.Proofs.YtcnlkdoifogkbaaGreatDoor
open Go.RowKit

set_option maxRecDepth 20000 in
set_option maxHeartbeats 1000000 in
theorem paint1 (x : Src) (q : Nat) (R : Except DP.Bad DP.St) (w : World) (h : Rs x q w R) :
    Calls Tryz.prog 87 #[.pointer (some ⟨q, 0, none⟩), .int .i64 1] w fun e w' => ∃ p : IC.Paint, e = .returned (.agg p.cells.toArray) ∧ (∀ v, run (DP.paint x.bs 1) R = .ok v → v.1 = p) ∧ Rs x q w' (rest (run (DP.paint x.bs 1) R)) ∧ Mk q w w' := by
  have hq := h.lt
  obtain ⟨a, hva⟩ : ∃ a, valOf (run (DP.place x.bs) R) = a := ⟨_, rfl⟩
  obtain ⟨R1, hR1⟩ : ∃ R1, rest (run (DP.place x.bs) R) = R1 := ⟨_, rfl⟩
  obtain ⟨c, hvc⟩ : ∃ c, valOf (run (DP.place x.bs) R1) = c := ⟨_, rfl⟩
  obtain ⟨R2, hR2⟩ : ∃ R2, rest (run (DP.place x.bs) R1) = R2 := ⟨_, rfl⟩
  obtain ⟨R3, hR3⟩ : ∃ R3, rest (run (DP.point x.bs ⟨0, 0⟩) R2) = R3 := ⟨_, rfl⟩
  have k1 : Hid (∀ W, Below w.heap.size w W → Calls Tryz.prog 108 #[.pointer (some ⟨q, 0, none⟩)] W fun e w' => e = .returned (.int .i64 a) ∧ Rs x q w' R1 ∧ Mk q W w') := fun W hW => by
    have := place_any x q R W (h.below hW)
    rw [hva, hR1] at this
    exact this
  have k2 : Hid (∀ W, Rs x q W R1 → Calls Tryz.prog 108 #[.pointer (some ⟨q, 0, none⟩)] W fun e w' => e = .returned (.int .i64 c) ∧ Rs x q w' R2 ∧ Mk q W w') := fun W hW => by
    have := place_any x q R1 W hW
    rw [hvc, hR2] at this
    exact this
  have k3 : Hid (∀ W, Rs x q W R2 → Calls Tryz.prog 109 #[.pointer (some ⟨q, 0, none⟩), .agg #[.int .i64 0, .int .i64 0]] W fun e w' => ∃ p : IC.Pt, e = .returned (.agg #[.int .i64 p.x, .int .i64 p.y]) ∧ PtIn64 p ∧ (∀ v, run (DP.point x.bs ⟨0, 0⟩) R2 = .ok v → v.1 = p) ∧ Rs x q w' R3 ∧ Mk q W w') := fun W hW => by
    have := dpoint_any x q R2 ⟨0, 0⟩ W hW zero_in (fun s e => zero_reach s.far (hW.farIn s e).1)
    rw [hR3] at this
    exact this
  have HP : Hid (∀ (p q' : IC.Pt), (∀ v, run (DP.point x.bs ⟨0, 0⟩) R2 = .ok v → v.1 = p) → (∀ v, run (DP.other x.bs p) R3 = .ok v → v.1 = q') → run (DP.paint x.bs 1) R = run (DP.ret (⟨1, a, c, p, q'⟩ : IC.Paint)) (rest (run (DP.other x.bs p) R3))) := fun p q' hp hq' => by
    unfold DP.paint
    rw [run_then _ _ _ a (fun v hv => by rw [← hva]; exact valOf_ok v hv), hR1]
    show run (DP.andThen (DP.place x.bs) fun c => DP.andThen (DP.point x.bs ⟨0, 0⟩) fun p => DP.andThen (DP.other x.bs p) fun q => DP.ret (⟨1, a, c, p, q⟩ : IC.Paint)) R1 = _
    rw [run_then _ _ _ c (fun v hv => by rw [← hvc]; exact valOf_ok v hv), hR2, run_then _ _ _ p hp, hR3, run_then _ _ _ q' hq']
  have k4 : Hid (∀ (p : IC.Pt) W, Rs x q W R3 → Calls Tryz.prog 110 #[.pointer (some ⟨q, 0, none⟩), .agg #[.int .i64 p.x, .int .i64 p.y]] W fun e w' => ∃ p' : IC.Pt, e = .returned (.agg #[.int .i64 p'.x, .int .i64 p'.y]) ∧ PtIn64 p' ∧ (∀ v, run (DP.other x.bs p) R3 = .ok v → v.1 = p') ∧ Rs x q w' (rest (run (DP.other x.bs p) R3)) ∧ Mk q W w') := fun p W hW => other_any x q R3 p W hW
  generalize run (DP.paint x.bs 1) R = RP at HP ⊢
  clear hva hR1 hvc hR2 h
  go_enter Tryz.func87, Tryz.ntmps87
  go_upto_if 11 with (first
    | (go_at_call 108; refine (k1.out _ ((Below.refl _ _).alloc (Nat.le_refl _) _)).mono ?_; rintro e w1 ⟨rfl, h1⟩
       have H1 := hid'' h1
       clear h1
       have hlt1 : w.heap.size < w1.heap.size := by have := H1.out.2.size; simp at this; omega
       have hq1 : q < w1.heap.size := H1.out.1.lt
       have B1 : Blk w1 w.heap.size 59 #[.int .i64 0, .int .i64 0, .int .i64 0, .int .i64 0, .int .i64 0, .int .i64 0, .int .i64 0] := Blk.mk (blk_new w _ _) H1.out.2 (by omega)))
  obtain ⟨W2, hW2⟩ : ∃ W2, w1.alloc (.cells #[.int .i64 1, .int .i64 a, .int .i64 0, .int .i64 0, .int .i64 0, .int .i64 0, .int .i64 0] 59) = W2 := ⟨_, rfl⟩
  have S2 : Hid (Rs x q W2 R1) := by rw [← hW2]; exact H1.out.1.below ((Below.refl _ _).alloc (Nat.le_refl _) _)
  have B2 : Blk W2 w.heap.size 59 #[.int .i64 0, .int .i64 0, .int .i64 0, .int .i64 0, .int .i64 0, .int .i64 0, .int .i64 0] := by rw [← hW2]; exact B1.alloc _
  have C2 : Blk W2 w1.heap.size 59 #[.int .i64 1, .int .i64 a, .int .i64 0, .int .i64 0, .int .i64 0, .int .i64 0, .int .i64 0] := by rw [← hW2]; exact blk_new w1 _ _
  have M2 : Hid (Mk q w W2) := by rw [← hW2]; exact ((Mk.below ((Below.refl w.heap.size w).alloc (Nat.le_refl _) (Obj.cells #[.int .i64 0, .int .i64 0, .int .i64 0, .int .i64 0, .int .i64 0, .int .i64 0, .int .i64 0] 59))).trans H1.out.2).alloc _
  have lt2 : w1.heap.size < W2.heap.size := C2.lt
  rw [hW2]
  clear hW2 B1 H1
  go_upto_if 21 with (first
    | (go_at_call 109; refine (k3.out _ (H3.out.1.far (p := ⟨w1.heap.size, 2, none⟩) (by show q < w1.heap.size; omega) C3 (by decide) (by decide) _)).mono ?_; rintro e w5 ⟨⟨px, py⟩, rfl, hp0, hp1, h5⟩
       have H5 := hid'' h5
       have P5 := hid'' hp1
       clear h5 hp0 hp1
       have lt5 : w1.heap.size < w5.heap.size := by have := H5.out.2.size; simp at this; omega
       have B5 : Blk w5 w.heap.size 59 #[.int .i64 0, .int .i64 0, .int .i64 0, .int .i64 0, .int .i64 0, .int .i64 0, .int .i64 0] := (B3.far (p := ⟨w1.heap.size, 2, none⟩) (by show w.heap.size ≠ w1.heap.size; omega) _).mk H5.out.2 (by omega)
       have C5 : Blk w5 w1.heap.size 59 #[.int .i64 1, .int .i64 a, .int .i64 c, .int .i64 0, .int .i64 0, .int .i64 0, .int .i64 0] := (C3.set (j := 2) (.int .i64 c)).mk H5.out.2 (by omega)
       have cc3 := C5.cell 3
       have cc4 := C5.cell 4
       have ff3 := C5.frozen 3
       have ff4 := C5.frozen 4
       simp at cc3 cc4)
    | (go_at_call 108; refine (k2.out _ S2.out).mono ?_; rintro e w3 ⟨rfl, h3⟩
       have H3 := hid'' h3
       clear h3
       have lt3 : w1.heap.size < w3.heap.size := by have := H3.out.2.size; omega
       have B3 := B2.mk H3.out.2 (by omega)
       have C3 := C2.mk H3.out.2 (by omega)
       have cc2 := C3.cell 2
       have ff2 := C3.frozen 2
       simp at cc2))
  obtain ⟨W6, hW6⟩ : ∃ W6, (w5.setCell ⟨w1.heap.size, 3, none⟩ (.int .i64 px)).setCell ⟨w1.heap.size, 4, none⟩ (.int .i64 py) = W6 := ⟨_, rfl⟩
  have S6 : Hid (Rs x q W6 R3) := by
    rw [← hW6]
    exact (H5.out.1.far (p := ⟨w1.heap.size, 3, none⟩) (by show q < w1.heap.size; omega) C5 (by decide) (by decide) (.int .i64 px)).far (p := ⟨w1.heap.size, 4, none⟩) (by show q < w1.heap.size; omega) (C5.set (j := 3) (.int .i64 px)) (by decide) (by decide) (.int .i64 py)
  have B6 : Blk W6 w.heap.size 59 #[.int .i64 0, .int .i64 0, .int .i64 0, .int .i64 0, .int .i64 0, .int .i64 0, .int .i64 0] := by rw [← hW6]; exact (B5.far (p := ⟨w1.heap.size, 3, none⟩) (by show w.heap.size ≠ w1.heap.size; omega) _).far (p := ⟨w1.heap.size, 4, none⟩) (by show w.heap.size ≠ w1.heap.size; omega) _
  have C6 : Blk W6 w1.heap.size 59 #[.int .i64 1, .int .i64 a, .int .i64 c, .int .i64 px, .int .i64 py, .int .i64 0, .int .i64 0] := by rw [← hW6]; exact (C5.set (j := 3) (.int .i64 px)).set (j := 4) (.int .i64 py)
  have M6 : Hid (Mk q w W6) := by
    rw [← hW6]
    exact ((((M2.out.trans H3.out.2).set (p := ⟨w1.heap.size, 2, none⟩) (by show w.heap.size ≤ w1.heap.size; omega) _).trans H5.out.2).set (p := ⟨w1.heap.size, 3, none⟩) (by show w.heap.size ≤ w1.heap.size; omega) _).set (p := ⟨w1.heap.size, 4, none⟩) (by show w.heap.size ≤ w1.heap.size; omega) _
  have lt6 : w1.heap.size < W6.heap.size := C6.lt
  rw [hW6]
  clear hW6 B5 C5 H5 H3 B3 C3 B2 C2 cc2 ff2 cc3 cc4 ff3 ff4 S2 M2
  have cc3 := C6.cell 3
  have cc4 := C6.cell 4
  simp at cc3 cc4
  go_upto_region 9 with (first
    | (go_at_call 110; refine (k4.out ⟨px, py⟩ _ S6.out).mono ?_; rintro e w7 ⟨⟨qx, qy⟩, rfl, hp0, hp1, h7⟩
       have H7 := hid'' h7
       have P7 := hid'' hp1
       clear h7 hp0 hp1
       have lt7 : w1.heap.size < w7.heap.size := by have := H7.out.2.size; omega
       have B7 := B6.mk H7.out.2 (by omega)
       have C7 := C6.mk H7.out.2 (by omega)
       have cc5 := C7.cell 5
       have cc6 := C7.cell 6
       have ff5 := C7.frozen 5
       have ff6 := C7.frozen 6
       simp at cc5 cc6))
  obtain ⟨W8, hW8⟩ : ∃ W8, (w7.setCell ⟨w1.heap.size, 5, none⟩ (.int .i64 qx)).setCell ⟨w1.heap.size, 6, none⟩ (.int .i64 qy) = W8 := ⟨_, rfl⟩
  have S8 := H7.out.1.far (p := ⟨w1.heap.size, 5, none⟩) (by show q < w1.heap.size; omega) C7 (by decide) (by decide) (.int .i64 qx)
  replace S8 := S8.far (p := ⟨w1.heap.size, 6, none⟩) (by show q < w1.heap.size; omega) (C7.set (j := 5) (.int .i64 qx)) (by decide) (by decide) (.int .i64 qy)
  have B8 := (B7.far (p := ⟨w1.heap.size, 5, none⟩) (by show w.heap.size ≠ w1.heap.size; omega) (.int .i64 qx)).far (p := ⟨w1.heap.size, 6, none⟩) (by show w.heap.size ≠ w1.heap.size; omega) (.int .i64 qy)
  have C8 : Blk _ w1.heap.size 59 #[.int .i64 1, .int .i64 a, .int .i64 c, .int .i64 px, .int .i64 py, .int .i64 qx, .int .i64 qy] := (C7.set (j := 5) (.int .i64 qx)).set (j := 6) (.int .i64 qy)
  have M8 := ((M6.out.trans H7.out.2).set (p := ⟨w1.heap.size, 5, none⟩) (by show w.heap.size ≤ w1.heap.size; omega) (.int .i64 qx)).set (p := ⟨w1.heap.size, 6, none⟩) (by show w.heap.size ≤ w1.heap.size; omega) (.int .i64 qy)
  have HP2 : rest RP = rest (run (DP.other x.bs ⟨px, py⟩) R3) ∧ ∀ v, RP = .ok v → v.1 = ⟨1, a, c, ⟨px, py⟩, ⟨qx, qy⟩⟩ := by
    have e := HP.out ⟨px, py⟩ ⟨qx, qy⟩ P5.out P7.out
    have := run_ret (⟨1, a, c, ⟨px, py⟩, ⟨qx, qy⟩⟩ : IC.Paint) (rest (run (DP.other x.bs ⟨px, py⟩) R3))
    rw [← e] at this
    exact this
  rw [hW8] at S8 B8 C8 M8 ⊢
  have lt8 : w1.heap.size < W8.heap.size := C8.lt
  clear hW8 B7 C7 H7 B6 C6 S6 M6 cc3 cc4 cc5 ff5 cc6 ff6
  have b0 := B8.cell 0
  have c0 := C8.cell 0
  have fr0 := B8.frozen 0
  have b1 := B8.cell 1
  have c1 := C8.cell 1
  have fr1 := B8.frozen 1
  have b2 := B8.cell 2
  have c2 := C8.cell 2
  have fr2 := B8.frozen 2
  have b3 := B8.cell 3
  have c3 := C8.cell 3
  have fr3 := B8.frozen 3
  have b4 := B8.cell 4
  have c4 := C8.cell 4
  have fr4 := B8.frozen 4
  have b5 := B8.cell 5
  have c5 := C8.cell 5
  have fr5 := B8.frozen 5
  have b6 := B8.cell 6
  have c6 := C8.cell 6
  have fr6 := B8.frozen 6
  simp at b0 c0 b1 c1 b2 c2 b3 c3 b4 c4 b5 c5 b6 c6
  have HPh := hid'' HP2
  clear HP HP2
  go_wp2
  have HP := HPh.out
  refine bodyPost_ret (v := .agg #[.int .i64 1, .int .i64 a, .int .i64 c, .int .i64 px, .int .i64 py, .int .i64 qx, .int .i64 qy]) (by simp [results, Tryz.results87, go_sem, B8.got 0 (by simp) (.int .i64 1), (B8.set (j := 0) (.int .i64 1)).got 1 (by simp) (.int .i64 a), ((B8.set (j := 0) (.int .i64 1)).set (j := 1) (.int .i64 a)).got 2 (by simp) (.int .i64 c), (((B8.set (j := 0) (.int .i64 1)).set (j := 1) (.int .i64 a)).set (j := 2) (.int .i64 c)).got 3 (by simp) (.int .i64 px), ((((B8.set (j := 0) (.int .i64 1)).set (j := 1) (.int .i64 a)).set (j := 2) (.int .i64 c)).set (j := 3) (.int .i64 px)).got 4 (by simp) (.int .i64 py), (((((B8.set (j := 0) (.int .i64 1)).set (j := 1) (.int .i64 a)).set (j := 2) (.int .i64 c)).set (j := 3) (.int .i64 px)).set (j := 4) (.int .i64 py)).got 5 (by simp) (.int .i64 qx), ((((((B8.set (j := 0) (.int .i64 1)).set (j := 1) (.int .i64 a)).set (j := 2) (.int .i64 c)).set (j := 3) (.int .i64 px)).set (j := 4) (.int .i64 py)).set (j := 5) (.int .i64 qx)).got 6 (by simp) (.int .i64 qy)]) rfl ⟨⟨1, a, c, ⟨px, py⟩, ⟨qx, qy⟩⟩, rfl, ?_, ?_, ?_⟩
  · exact HP.2
  · rw [HP.1]
    have r0 := S8.far (p := ⟨w.heap.size, 0, none⟩) (by show q < w.heap.size; omega) B8 (by decide) (by decide) (.int .i64 1)
    have r1 := r0.far (p := ⟨w.heap.size, 1, none⟩) (by show q < w.heap.size; omega) (B8.set (j := 0) (.int .i64 1)) (by decide) (by decide) (.int .i64 a)
    have r2 := r1.far (p := ⟨w.heap.size, 2, none⟩) (by show q < w.heap.size; omega) ((B8.set (j := 0) (.int .i64 1)).set (j := 1) (.int .i64 a)) (by decide) (by decide) (.int .i64 c)
    have r3 := r2.far (p := ⟨w.heap.size, 3, none⟩) (by show q < w.heap.size; omega) (((B8.set (j := 0) (.int .i64 1)).set (j := 1) (.int .i64 a)).set (j := 2) (.int .i64 c)) (by decide) (by decide) (.int .i64 px)
    have r4 := r3.far (p := ⟨w.heap.size, 4, none⟩) (by show q < w.heap.size; omega) ((((B8.set (j := 0) (.int .i64 1)).set (j := 1) (.int .i64 a)).set (j := 2) (.int .i64 c)).set (j := 3) (.int .i64 px)) (by decide) (by decide) (.int .i64 py)
    have r5 := r4.far (p := ⟨w.heap.size, 5, none⟩) (by show q < w.heap.size; omega) (((((B8.set (j := 0) (.int .i64 1)).set (j := 1) (.int .i64 a)).set (j := 2) (.int .i64 c)).set (j := 3) (.int .i64 px)).set (j := 4) (.int .i64 py)) (by decide) (by decide) (.int .i64 qx)
    have r6 := r5.far (p := ⟨w.heap.size, 6, none⟩) (by show q < w.heap.size; omega) ((((((B8.set (j := 0) (.int .i64 1)).set (j := 1) (.int .i64 a)).set (j := 2) (.int .i64 c)).set (j := 3) (.int .i64 px)).set (j := 4) (.int .i64 py)).set (j := 5) (.int .i64 qx)) (by decide) (by decide) (.int .i64 qy)
    exact r6
  · exact (((((((M8).set (p := ⟨w.heap.size, 0, none⟩) (Nat.le_refl _) _).set (p := ⟨w.heap.size, 1, none⟩) (Nat.le_refl _) _).set (p := ⟨w.heap.size, 2, none⟩) (Nat.le_refl _) _).set (p := ⟨w.heap.size, 3, none⟩) (Nat.le_refl _) _).set (p := ⟨w.heap.size, 4, none⟩) (Nat.le_refl _) _).set (p := ⟨w.heap.size, 5, none⟩) (Nat.le_refl _) _).set (p := ⟨w.heap.size, 6, none⟩) (Nat.le_refl _) _

end Go.Proofs.YtcnlkdoifogkbaaGreatDoor

/-
  A reader reads a paint of another kind: walked over the program.
-/
namespace Go.Proofs.YtcnlkdoifogkbaaGreatDoor
open Go.RowKit

set_option maxRecDepth 20000 in
set_option maxHeartbeats 1000000 in
theorem paint2 (x : Src) (q : Nat) (R : Except DP.Bad DP.St) (w : World) (h : Rs x q w R) :
    Calls Tryz.prog 87 #[.pointer (some ⟨q, 0, none⟩), .int .i64 2] w fun e w' => ∃ p : IC.Paint, e = .returned (.agg p.cells.toArray) ∧ (∀ v, run (DP.paint x.bs 2) R = .ok v → v.1 = p) ∧ Rs x q w' (rest (run (DP.paint x.bs 2) R)) ∧ Mk q w w' := by
  have hq := h.lt
  obtain ⟨a, hva⟩ : ∃ a, valOf (run (DP.place x.bs) R) = a := ⟨_, rfl⟩
  obtain ⟨R1, hR1⟩ : ∃ R1, rest (run (DP.place x.bs) R) = R1 := ⟨_, rfl⟩
  obtain ⟨c, hvc⟩ : ∃ c, valOf (run (DP.place x.bs) R1) = c := ⟨_, rfl⟩
  obtain ⟨R2, hR2⟩ : ∃ R2, rest (run (DP.place x.bs) R1) = R2 := ⟨_, rfl⟩
  obtain ⟨R3, hR3⟩ : ∃ R3, rest (run (DP.point x.bs ⟨0, 0⟩) R2) = R3 := ⟨_, rfl⟩
  have k1 : Hid (∀ W, Below w.heap.size w W → Calls Tryz.prog 108 #[.pointer (some ⟨q, 0, none⟩)] W fun e w' => e = .returned (.int .i64 a) ∧ Rs x q w' R1 ∧ Mk q W w') := fun W hW => by
    have := place_any x q R W (h.below hW)
    rw [hva, hR1] at this
    exact this
  have k2 : Hid (∀ W, Rs x q W R1 → Calls Tryz.prog 108 #[.pointer (some ⟨q, 0, none⟩)] W fun e w' => e = .returned (.int .i64 c) ∧ Rs x q w' R2 ∧ Mk q W w') := fun W hW => by
    have := place_any x q R1 W hW
    rw [hvc, hR2] at this
    exact this
  have k3 : Hid (∀ W, Rs x q W R2 → Calls Tryz.prog 109 #[.pointer (some ⟨q, 0, none⟩), .agg #[.int .i64 0, .int .i64 0]] W fun e w' => ∃ p : IC.Pt, e = .returned (.agg #[.int .i64 p.x, .int .i64 p.y]) ∧ PtIn64 p ∧ (∀ v, run (DP.point x.bs ⟨0, 0⟩) R2 = .ok v → v.1 = p) ∧ Rs x q w' R3 ∧ Mk q W w') := fun W hW => by
    have := dpoint_any x q R2 ⟨0, 0⟩ W hW zero_in (fun s e => zero_reach s.far (hW.farIn s e).1)
    rw [hR3] at this
    exact this
  obtain ⟨r, hvr⟩ : ∃ r, valOf (run (DP.length x.bs) R3) = r := ⟨_, rfl⟩
  obtain ⟨R4, hR4⟩ : ∃ R4, rest (run (DP.length x.bs) R3) = R4 := ⟨_, rfl⟩
  have HP : Hid (∀ (p : IC.Pt), (∀ v, run (DP.point x.bs ⟨0, 0⟩) R2 = .ok v → v.1 = p) → run (DP.paint x.bs 2) R = run (DP.ret (⟨2, a, c, p, ⟨r, 0⟩⟩ : IC.Paint)) R4) := fun p hp => by
    unfold DP.paint
    rw [run_then _ _ _ a (fun v hv => by rw [← hva]; exact valOf_ok v hv), hR1]
    show run (DP.andThen (DP.place x.bs) fun c => DP.andThen (DP.point x.bs ⟨0, 0⟩) fun p => DP.andThen (DP.length x.bs) fun r => DP.ret (⟨2, a, c, p, ⟨(r : Nat), 0⟩⟩ : IC.Paint)) R1 = _
    rw [run_then _ _ _ c (fun v hv => by rw [← hvc]; exact valOf_ok v hv), hR2, run_then _ _ _ p hp, hR3, run_then _ _ _ r (fun v hv => by rw [← hvr]; exact valOf_ok v hv), hR4]
  have k4 : Hid (∀ W, Rs x q W R3 → Calls Tryz.prog 56 #[.pointer (some ⟨q, 0, none⟩), .func (.func 86) #[.pointer (some ⟨q, 0, none⟩)] #[]] W fun e w' => e = .returned (.int .u64 r) ∧ Rs x q w' R4 ∧ Mk q W w') := fun W hW => by
    have := length_any x q R3 W hW
    rw [hvr, hR4] at this
    exact this
  have kl : Hid (∀ W, Rs x q W R3 → r ≤ 1048576) := fun W hW => by
    have := length_le x q R3 W hW
    rw [hvr] at this
    exact this
  generalize run (DP.paint x.bs 2) R = RP at HP ⊢
  clear hva hR1 hvc hR2 h hvr hR4
  go_enter Tryz.func87, Tryz.ntmps87
  go_upto_if 11 with (first
    | (go_at_call 108; refine (k1.out _ ((Below.refl _ _).alloc (Nat.le_refl _) _)).mono ?_; rintro e w1 ⟨rfl, h1⟩
       have H1 := hid'' h1
       clear h1
       have hlt1 : w.heap.size < w1.heap.size := by have := H1.out.2.size; simp at this; omega
       have hq1 : q < w1.heap.size := H1.out.1.lt
       have B1 : Blk w1 w.heap.size 59 #[.int .i64 0, .int .i64 0, .int .i64 0, .int .i64 0, .int .i64 0, .int .i64 0, .int .i64 0] := Blk.mk (blk_new w _ _) H1.out.2 (by omega)))
  obtain ⟨W2, hW2⟩ : ∃ W2, w1.alloc (.cells #[.int .i64 2, .int .i64 a, .int .i64 0, .int .i64 0, .int .i64 0, .int .i64 0, .int .i64 0] 59) = W2 := ⟨_, rfl⟩
  have S2 : Hid (Rs x q W2 R1) := by rw [← hW2]; exact H1.out.1.below ((Below.refl _ _).alloc (Nat.le_refl _) _)
  have B2 : Blk W2 w.heap.size 59 #[.int .i64 0, .int .i64 0, .int .i64 0, .int .i64 0, .int .i64 0, .int .i64 0, .int .i64 0] := by rw [← hW2]; exact B1.alloc _
  have C2 : Blk W2 w1.heap.size 59 #[.int .i64 2, .int .i64 a, .int .i64 0, .int .i64 0, .int .i64 0, .int .i64 0, .int .i64 0] := by rw [← hW2]; exact blk_new w1 _ _
  have M2 : Hid (Mk q w W2) := by rw [← hW2]; exact ((Mk.below ((Below.refl w.heap.size w).alloc (Nat.le_refl _) (Obj.cells #[.int .i64 0, .int .i64 0, .int .i64 0, .int .i64 0, .int .i64 0, .int .i64 0, .int .i64 0] 59))).trans H1.out.2).alloc _
  have lt2 : w1.heap.size < W2.heap.size := C2.lt
  rw [hW2]
  clear hW2 B1 H1
  go_upto_if 21 with (first
    | (go_at_call 109; refine (k3.out _ (H3.out.1.far (p := ⟨w1.heap.size, 2, none⟩) (by show q < w1.heap.size; omega) C3 (by decide) (by decide) _)).mono ?_; rintro e w5 ⟨⟨px, py⟩, rfl, hp0, hp1, h5⟩
       have H5 := hid'' h5
       have P5 := hid'' hp1
       clear h5 hp0 hp1
       have lt5 : w1.heap.size < w5.heap.size := by have := H5.out.2.size; simp at this; omega
       have B5 : Blk w5 w.heap.size 59 #[.int .i64 0, .int .i64 0, .int .i64 0, .int .i64 0, .int .i64 0, .int .i64 0, .int .i64 0] := (B3.far (p := ⟨w1.heap.size, 2, none⟩) (by show w.heap.size ≠ w1.heap.size; omega) _).mk H5.out.2 (by omega)
       have C5 : Blk w5 w1.heap.size 59 #[.int .i64 2, .int .i64 a, .int .i64 c, .int .i64 0, .int .i64 0, .int .i64 0, .int .i64 0] := (C3.set (j := 2) (.int .i64 c)).mk H5.out.2 (by omega)
       have cc3 := C5.cell 3
       have cc4 := C5.cell 4
       have ff3 := C5.frozen 3
       have ff4 := C5.frozen 4
       simp at cc3 cc4)
    | (go_at_call 108; refine (k2.out _ S2.out).mono ?_; rintro e w3 ⟨rfl, h3⟩
       have H3 := hid'' h3
       clear h3
       have lt3 : w1.heap.size < w3.heap.size := by have := H3.out.2.size; omega
       have B3 := B2.mk H3.out.2 (by omega)
       have C3 := C2.mk H3.out.2 (by omega)
       have cc2 := C3.cell 2
       have ff2 := C3.frozen 2
       simp at cc2))
  obtain ⟨W6, hW6⟩ : ∃ W6, (w5.setCell ⟨w1.heap.size, 3, none⟩ (.int .i64 px)).setCell ⟨w1.heap.size, 4, none⟩ (.int .i64 py) = W6 := ⟨_, rfl⟩
  have S6 : Hid (Rs x q W6 R3) := by
    rw [← hW6]
    exact (H5.out.1.far (p := ⟨w1.heap.size, 3, none⟩) (by show q < w1.heap.size; omega) C5 (by decide) (by decide) (.int .i64 px)).far (p := ⟨w1.heap.size, 4, none⟩) (by show q < w1.heap.size; omega) (C5.set (j := 3) (.int .i64 px)) (by decide) (by decide) (.int .i64 py)
  have B6 : Blk W6 w.heap.size 59 #[.int .i64 0, .int .i64 0, .int .i64 0, .int .i64 0, .int .i64 0, .int .i64 0, .int .i64 0] := by rw [← hW6]; exact (B5.far (p := ⟨w1.heap.size, 3, none⟩) (by show w.heap.size ≠ w1.heap.size; omega) _).far (p := ⟨w1.heap.size, 4, none⟩) (by show w.heap.size ≠ w1.heap.size; omega) _
  have C6 : Blk W6 w1.heap.size 59 #[.int .i64 2, .int .i64 a, .int .i64 c, .int .i64 px, .int .i64 py, .int .i64 0, .int .i64 0] := by rw [← hW6]; exact (C5.set (j := 3) (.int .i64 px)).set (j := 4) (.int .i64 py)
  have M6 : Hid (Mk q w W6) := by
    rw [← hW6]
    exact ((((M2.out.trans H3.out.2).set (p := ⟨w1.heap.size, 2, none⟩) (by show w.heap.size ≤ w1.heap.size; omega) _).trans H5.out.2).set (p := ⟨w1.heap.size, 3, none⟩) (by show w.heap.size ≤ w1.heap.size; omega) _).set (p := ⟨w1.heap.size, 4, none⟩) (by show w.heap.size ≤ w1.heap.size; omega) _
  have lt6 : w1.heap.size < W6.heap.size := C6.lt
  rw [hW6]
  clear hW6 B5 C5 H5 H3 B3 C3 B2 C2 cc2 ff2 cc3 cc4 ff3 ff4 S2 M2
  have cc3 := C6.cell 3
  have cc4 := C6.cell 4
  simp at cc3 cc4
  have hr := kl.out _ S6.out
  go_upto_region 9 with (first
    | (go_at_call 56; refine (k4.out _ S6.out).mono ?_; rintro e w7 ⟨rfl, h7⟩
       have H7 := hid'' h7
       clear h7
       have lt7 : w1.heap.size < w7.heap.size := by have := H7.out.2.size; omega
       have B7 := B6.mk H7.out.2 (by omega)
       have C7 := C6.mk H7.out.2 (by omega)
       have cc5 := C7.cell 5
       have ff5 := C7.frozen 5
       simp at cc5))
  obtain ⟨W8, hW8⟩ : ∃ W8, w7.setCell ⟨w1.heap.size, 5, none⟩ (.int .i64 r) = W8 := ⟨_, rfl⟩
  have S8 := H7.out.1.far (p := ⟨w1.heap.size, 5, none⟩) (by show q < w1.heap.size; omega) C7 (by decide) (by decide) (.int .i64 r)
  have B8 := B7.far (p := ⟨w1.heap.size, 5, none⟩) (by show w.heap.size ≠ w1.heap.size; omega) (.int .i64 r)
  have C8 : Blk _ w1.heap.size 59 #[.int .i64 2, .int .i64 a, .int .i64 c, .int .i64 px, .int .i64 py, .int .i64 r, .int .i64 0] := C7.set (j := 5) (.int .i64 r)
  have M8 := (M6.out.trans H7.out.2).set (p := ⟨w1.heap.size, 5, none⟩) (by show w.heap.size ≤ w1.heap.size; omega) (.int .i64 r)
  have HP2 : rest RP = R4 ∧ ∀ v, RP = .ok v → v.1 = ⟨2, a, c, ⟨px, py⟩, ⟨r, 0⟩⟩ := by
    have e := HP.out ⟨px, py⟩ P5.out
    have := run_ret (⟨2, a, c, ⟨px, py⟩, ⟨r, 0⟩⟩ : IC.Paint) R4
    rw [← e] at this
    exact this
  rw [hW8] at S8 B8 C8 M8 ⊢
  have lt8 : w1.heap.size < W8.heap.size := C8.lt
  clear hW8 B7 C7 H7 B6 C6 S6 M6 cc3 cc4 cc5 ff5
  have b0 := B8.cell 0
  have c0 := C8.cell 0
  have fr0 := B8.frozen 0
  have b1 := B8.cell 1
  have c1 := C8.cell 1
  have fr1 := B8.frozen 1
  have b2 := B8.cell 2
  have c2 := C8.cell 2
  have fr2 := B8.frozen 2
  have b3 := B8.cell 3
  have c3 := C8.cell 3
  have fr3 := B8.frozen 3
  have b4 := B8.cell 4
  have c4 := C8.cell 4
  have fr4 := B8.frozen 4
  have b5 := B8.cell 5
  have c5 := C8.cell 5
  have fr5 := B8.frozen 5
  have b6 := B8.cell 6
  have c6 := C8.cell 6
  have fr6 := B8.frozen 6
  simp at b0 c0 b1 c1 b2 c2 b3 c3 b4 c4 b5 c5 b6 c6
  have HPh := hid'' HP2
  clear HP HP2
  go_wp2
  have HP := HPh.out
  refine bodyPost_ret (v := .agg #[.int .i64 2, .int .i64 a, .int .i64 c, .int .i64 px, .int .i64 py, .int .i64 r, .int .i64 0]) (by simp [results, Tryz.results87, go_sem, B8.got 0 (by simp) (.int .i64 2), (B8.set (j := 0) (.int .i64 2)).got 1 (by simp) (.int .i64 a), ((B8.set (j := 0) (.int .i64 2)).set (j := 1) (.int .i64 a)).got 2 (by simp) (.int .i64 c), (((B8.set (j := 0) (.int .i64 2)).set (j := 1) (.int .i64 a)).set (j := 2) (.int .i64 c)).got 3 (by simp) (.int .i64 px), ((((B8.set (j := 0) (.int .i64 2)).set (j := 1) (.int .i64 a)).set (j := 2) (.int .i64 c)).set (j := 3) (.int .i64 px)).got 4 (by simp) (.int .i64 py), (((((B8.set (j := 0) (.int .i64 2)).set (j := 1) (.int .i64 a)).set (j := 2) (.int .i64 c)).set (j := 3) (.int .i64 px)).set (j := 4) (.int .i64 py)).got 5 (by simp) (.int .i64 r), ((((((B8.set (j := 0) (.int .i64 2)).set (j := 1) (.int .i64 a)).set (j := 2) (.int .i64 c)).set (j := 3) (.int .i64 px)).set (j := 4) (.int .i64 py)).set (j := 5) (.int .i64 r)).got 6 (by simp) (.int .i64 0)]) rfl ⟨⟨2, a, c, ⟨px, py⟩, ⟨r, 0⟩⟩, rfl, ?_, ?_, ?_⟩
  · exact HP.2
  · rw [HP.1]
    have r0 := S8.far (p := ⟨w.heap.size, 0, none⟩) (by show q < w.heap.size; omega) B8 (by decide) (by decide) (.int .i64 2)
    have r1 := r0.far (p := ⟨w.heap.size, 1, none⟩) (by show q < w.heap.size; omega) (B8.set (j := 0) (.int .i64 2)) (by decide) (by decide) (.int .i64 a)
    have r2 := r1.far (p := ⟨w.heap.size, 2, none⟩) (by show q < w.heap.size; omega) ((B8.set (j := 0) (.int .i64 2)).set (j := 1) (.int .i64 a)) (by decide) (by decide) (.int .i64 c)
    have r3 := r2.far (p := ⟨w.heap.size, 3, none⟩) (by show q < w.heap.size; omega) (((B8.set (j := 0) (.int .i64 2)).set (j := 1) (.int .i64 a)).set (j := 2) (.int .i64 c)) (by decide) (by decide) (.int .i64 px)
    have r4 := r3.far (p := ⟨w.heap.size, 4, none⟩) (by show q < w.heap.size; omega) ((((B8.set (j := 0) (.int .i64 2)).set (j := 1) (.int .i64 a)).set (j := 2) (.int .i64 c)).set (j := 3) (.int .i64 px)) (by decide) (by decide) (.int .i64 py)
    have r5 := r4.far (p := ⟨w.heap.size, 5, none⟩) (by show q < w.heap.size; omega) (((((B8.set (j := 0) (.int .i64 2)).set (j := 1) (.int .i64 a)).set (j := 2) (.int .i64 c)).set (j := 3) (.int .i64 px)).set (j := 4) (.int .i64 py)) (by decide) (by decide) (.int .i64 r)
    have r6 := r5.far (p := ⟨w.heap.size, 6, none⟩) (by show q < w.heap.size; omega) ((((((B8.set (j := 0) (.int .i64 2)).set (j := 1) (.int .i64 a)).set (j := 2) (.int .i64 c)).set (j := 3) (.int .i64 px)).set (j := 4) (.int .i64 py)).set (j := 5) (.int .i64 r)) (by decide) (by decide) (.int .i64 0)
    exact r6
  · exact (((((((M8).set (p := ⟨w.heap.size, 0, none⟩) (Nat.le_refl _) _).set (p := ⟨w.heap.size, 1, none⟩) (Nat.le_refl _) _).set (p := ⟨w.heap.size, 2, none⟩) (Nat.le_refl _) _).set (p := ⟨w.heap.size, 3, none⟩) (Nat.le_refl _) _).set (p := ⟨w.heap.size, 4, none⟩) (Nat.le_refl _) _).set (p := ⟨w.heap.size, 5, none⟩) (Nat.le_refl _) _).set (p := ⟨w.heap.size, 6, none⟩) (Nat.le_refl _) _

end Go.Proofs.YtcnlkdoifogkbaaGreatDoor

/-
  A reader reads a command: what its parts turn, and its paint of whatever kind.
-/
namespace Go.Proofs.YtcnlkdoifogkbaaGreatDoor
open Go.RowKit

/-- What is read turns neither the bounds, nor the colors, nor the points. -/
def Keeps {α : Type} (p : DP.P α) : Prop := ∀ s v s', p s = .ok (v, s') → s'.far = s.far ∧ s'.cols = s.cols ∧ s'.pts = s.pts

theorem keeps_num (bs : List Nat) (rule : Nat → Option Nat) : Keeps (DP.num bs rule) := by
  intro s v s' h
  unfold DP.num at h
  split at h
  · cases h
  · split at h
    · cases h; exact ⟨rfl, rfl, rfl⟩
    · cases h
theorem keeps_ret {α : Type} (a : α) : Keeps (DP.ret a) := by intro s v s' h; cases h; exact ⟨rfl, rfl, rfl⟩
theorem keeps_then {α β : Type} {p : DP.P α} {f : α → DP.P β} (hp : Keeps p) (hf : ∀ a, Keeps (f a)) : Keeps (DP.andThen p f) := by
  intro s v s' h
  cases hr : p s with
  | error e => rw [DP.andThen_err hr] at h; cases h
  | ok u =>
    rw [DP.andThen_ok hr] at h
    obtain ⟨a1, a2, a3⟩ := hp s u.1 u.2 hr
    obtain ⟨b1, b2, b3⟩ := hf u.1 u.2 v s' h
    exact ⟨b1.trans a1, b2.trans a2, b3.trans a3⟩
theorem keeps_part (bs : List Nat) (a : Int) : Keeps (DP.part bs a) := fun s v s' h => keeps_then (keeps_num bs (DP.partRule s.far a)) (fun _ => keeps_ret _) s v s' h
theorem keeps_point (bs : List Nat) (a : IC.Pt) : Keeps (DP.point bs a) := keeps_then (keeps_part _ _) fun _ => keeps_then (keeps_part _ _) fun _ => keeps_ret _
theorem keeps_length (bs : List Nat) : Keeps (DP.length bs) := fun s v s' h => keeps_num bs (DP.between 1 s.far.toNat) s v s' h
theorem keeps_place (bs : List Nat) : Keeps (DP.place bs) := fun s v s' h => keeps_then (keeps_num bs (DP.placeRule s.cols.length s.used)) (fun _ s1 v1 s2 h => by cases h; exact ⟨rfl, rfl, rfl⟩) s v s' h
theorem keeps_other (bs : List Nat) (p : IC.Pt) : Keeps (DP.other bs p) := keeps_then (keeps_part _ _) fun y s v s' h => keeps_then (keeps_part bs 0) (fun b s1 v1 s2 h => by
  split at h
  · cases h
  · cases h; exact ⟨rfl, rfl, rfl⟩) s v s' h
theorem keeps_paint (bs : List Nat) (k : Nat) : Keeps (DP.paint bs k) := keeps_then (keeps_place _) fun a => by
  split
  · exact keeps_ret _
  · refine keeps_then (keeps_place _) fun c => keeps_then (keeps_point _ _) fun p => ?_
    split
    · exact keeps_then (keeps_other _ _) fun _ => keeps_ret _
    · exact keeps_then (keeps_length _) fun _ => keeps_ret _

theorem Keeps.run {α : Type} {p : DP.P α} (hp : Keeps p) {R : Except DP.Bad DP.St} {s' : DP.St} (h : rest (run p R) = .ok s') : ∃ s, R = .ok s ∧ s'.far = s.far ∧ s'.cols = s.cols ∧ s'.pts = s.pts := by
  cases R with
  | error e => cases h
  | ok s =>
    change rest (p s) = _ at h
    cases hr : p s with
    | error e => rw [hr] at h; cases h
    | ok u =>
      rw [hr] at h
      cases h
      exact ⟨s, rfl, hp s u.1 u.2 hr⟩

theorem dpaint_any (x : Src) (q k : Nat) (R : Except DP.Bad DP.St) (w : World) (h : Rs x q w R) (hk : k ≤ 2) :
    Calls Tryz.prog 87 #[.pointer (some ⟨q, 0, none⟩), .int .i64 k] w fun e w' => ∃ p : IC.Paint, e = .returned (.agg p.cells.toArray) ∧ (∀ v, run (DP.paint x.bs k) R = .ok v → v.1 = p) ∧ Rs x q w' (rest (run (DP.paint x.bs k) R)) ∧ Mk q w w' := by
  have h3 : k = 0 ∨ k = 1 ∨ k = 2 := by omega
  rcases h3 with rfl | rfl | rfl
  · exact paint0 x q R w h
  · exact paint1 x q R w h
  · exact paint2 x q R w h

/-- The command's paths may be Closed, or not. -/
def setCl (b : Bool) : Except DP.Bad DP.St → Except DP.Bad DP.St
  | .ok s => .ok { s with cl := b }
  | .error e => .error e

theorem Rs.setCl {x : Src} {q : Nat} {w : World} {R : Except DP.Bad DP.St} (h : Rs x q w R) (b : Bool) : Rs x q (w.setCell ⟨q, 7, none⟩ (.bool b)) (setCl b R) := by
  cases R with
  | ok s => exact Rd.setCl h b
  | error e => exact Rx.setCl h b
theorem Rs.clCell {x : Src} {q : Nat} {w : World} {R : Except DP.Bad DP.St} (h : Rs x q w R) : w.frozen? ⟨q, 7, none⟩ = false ∧ ∃ b : Bool, w.cell? ⟨q, 7, none⟩ = some (.bool b) := by
  cases R with
  | ok s => exact ⟨(show Rd x q w s from h).blk.frozen 7, s.cl, (show Rd x q w s from h).blk.cell 7⟩
  | error b =>
    obtain ⟨h1, ⟨ao, n, cap, at', far, adc, nc, capc, used, pts, cl, g, h2, h3, h4⟩, h5⟩ := h
    have := h2.cell 7
    simp at this
    exact ⟨h2.frozen 7, cl, this⟩

/-- A command's number. -/
theorem cmd_num {bs : List Nat} {R : Except DP.Bad DP.St} (hb : ∀ c ∈ bs, c < 256) : valOf (run (DP.num bs DP.cmdRule) R) < 12 ∧ valOf (run (DP.num bs DP.cmdRule) R) % 4 ≠ 3 := by
  cases R with
  | error e => exact ⟨by show 0 < _; omega, by show 0 % 4 ≠ 3; omega⟩
  | ok s =>
    show valOf (DP.num bs DP.cmdRule s) < 12 ∧ valOf (DP.num bs DP.cmdRule s) % 4 ≠ 3
    cases hN : DP.num bs DP.cmdRule s with
    | error e => exact ⟨by show 0 < _; omega, by show 0 % 4 ≠ 3; omega⟩
    | ok v =>
      obtain ⟨n, s1⟩ := v
      obtain ⟨-, f2, -⟩ := num_facts hN hb
      unfold DP.cmdRule at f2
      split at f2
      · cases f2
      · exact ⟨by show n < 12; omega, by show n % 4 ≠ 3; omega⟩
theorem paths_num {bs : List Nat} {R : Except DP.Bad DP.St} (hb : ∀ c ∈ bs, c < 256) : valOf (run (DP.num bs DP.pathsRule) R) ≤ 200 := by
  cases R with
  | error e => show 0 ≤ _; omega
  | ok s =>
    show valOf (DP.num bs DP.pathsRule s) ≤ 200
    cases hN : DP.num bs DP.pathsRule s with
    | error e => show 0 ≤ _; omega
    | ok v =>
      obtain ⟨n, s1⟩ := v
      obtain ⟨-, f2, -⟩ := num_facts hN hb
      unfold DP.pathsRule DP.atMost at f2
      split at f2
      · cases f2
      · split at f2
        · cases f2
        · show n ≤ 200; omega

/-- Behind a store into another kind's block. -/
theorem PathOk.far {w : World} {p : IC.Path} {a : Addr} {c : Array Value} (h : PathOk w p) (hb : Blk w a.block 62 c) (u : Value) : PathOk (w.setCell a u) p := Row.farT h hb (by decide) u

end Go.Proofs.YtcnlkdoifogkbaaGreatDoor

/-
  A reader reads a command that fills: walked over the program.
-/
namespace Go.Proofs.YtcnlkdoifogkbaaGreatDoor
open Go.RowKit

set_option maxRecDepth 20000 in
set_option maxHeartbeats 2000000 in
theorem dcmd0 (x : Src) (q z : Nat) (R : Except DP.Bad DP.St) (w : World) (h : Rs x q w R) (h4 : ∀ s, R = .ok s → s.pts ≤ 4000) (hz : valOf (run (DP.num x.bs DP.cmdRule) R) = z) (hz2 : z % 2 = 0) :
    Calls Tryz.prog 61 #[.pointer (some ⟨q, 0, none⟩)] w fun e w' => ∃ P : IC.Cmd, e = .returned (.agg P.cells.toArray) ∧ CmdOk w' P ∧ (∀ v, run (DP.cmd x.bs) R = .ok v → v.1 = DP.bareCmd P) ∧ Rs x q w' (rest (run (DP.cmd x.bs) R)) ∧ Mk q w w' ∧ (∀ s', rest (run (DP.cmd x.bs) R) = .ok s' → ∃ s, R = .ok s ∧ s'.far = s.far ∧ s'.cols = s.cols ∧ s'.pts ≤ 4000) := by
  have hb := h.base.lt256
  have hq := h.lt
  obtain ⟨hz12, hz3⟩ := cmd_num (R := R) hb
  rw [hz] at hz12 hz3
  obtain ⟨R1, hR1⟩ : ∃ R1, rest (run (DP.num x.bs DP.cmdRule) R) = R1 := ⟨_, rfl⟩
  obtain ⟨R2, hR2⟩ : ∃ R2, R1 = R2 := ⟨_, rfl⟩
  obtain ⟨pk0, hpk0⟩ : ∃ k, z / 4 = k := ⟨_, rfl⟩
  obtain ⟨r, hr⟩ : ∃ r, z / 2 % 2 = r := ⟨_, rfl⟩
  obtain ⟨RQ, hRQ⟩ : ∃ RQ, run (DP.paint x.bs pk0) R2 = RQ := ⟨_, rfl⟩
  obtain ⟨R3, hR3⟩ : ∃ R3, rest RQ = R3 := ⟨_, rfl⟩
  obtain ⟨R4, hR4⟩ : ∃ R4, setCl false R3 = R4 := ⟨_, rfl⟩
  obtain ⟨m, hm⟩ : ∃ m, valOf (run (DP.num x.bs DP.pathsRule) R4) = m := ⟨_, rfl⟩
  obtain ⟨R5, hR5⟩ : ∃ R5, rest (run (DP.num x.bs DP.pathsRule) R4) = R5 := ⟨_, rfl⟩
  obtain ⟨RL, hRL⟩ : ∃ RL, run (DP.list (DP.path x.bs) m []) R5 = RL := ⟨_, rfl⟩
  obtain ⟨R6, hR6⟩ : ∃ R6, rest RL = R6 := ⟨_, rfl⟩
  have hm2 : m ≤ 200 := by rw [← hm]; exact paths_num hb
  have hK2 : ∀ s', R2 = .ok s' → ∃ s, R = .ok s ∧ s'.far = s.far ∧ s'.cols = s.cols ∧ s'.pts = s.pts := fun s' e => by
    exact (keeps_num x.bs DP.cmdRule).run ((hR1.trans hR2).trans e)
  have hK5 : ∀ s', R5 = .ok s' → ∃ s, R = .ok s ∧ s'.far = s.far ∧ s'.cols = s.cols ∧ s'.pts = s.pts := fun s' e => by
    obtain ⟨s4, e4, a1, a2, a3⟩ := (keeps_num x.bs DP.pathsRule).run (hR5.trans e)
    cases hq3 : R3 with
    | error e' => rw [← hR4, hq3] at e4; cases e4
    | ok s3 =>
      rw [← hR4, hq3] at e4
      cases e4
      obtain ⟨s2, e2, b1, b2, b3⟩ := (keeps_paint x.bs pk0).run (R := R2) (s' := s3) (by rw [hRQ, hR3]; exact hq3)
      obtain ⟨s0, e0, c1, c2, c3⟩ := hK2 s2 e2
      exact ⟨s0, e0, a1.trans (b1.trans c1), a2.trans (b2.trans c2), a3.trans (b3.trans c3)⟩
  have HK6 : Hid ((∀ s', R6 = .ok s' → ∃ s, R5 = .ok s ∧ s'.far = s.far ∧ s'.cols = s.cols ∧ s'.used = s.used ∧ s'.cl = s.cl ∧ s'.pts ≤ 4000) → ∀ s', R6 = .ok s' → ∃ s, R = .ok s ∧ s'.far = s.far ∧ s'.cols = s.cols ∧ s'.pts ≤ 4000) := fun hk s' e => by
    obtain ⟨s5, e5, a1, a2, -, -, a5⟩ := hk s' e
    obtain ⟨s0, e0, b1, b2, b3⟩ := hK5 s5 e5
    exact ⟨s0, e0, a1.trans b1, a2.trans b2, a5⟩
  have hp5 : ∀ s, R5 = .ok s → s.pts ≤ 4000 := fun s e => by
    obtain ⟨s0, e0, -, -, a3⟩ := hK5 s e
    have := h4 s0 e0
    omega
  have k1 : Hid (∀ W, Below w.heap.size w W → Calls Tryz.prog 56 #[.pointer (some ⟨q, 0, none⟩), .func (.func 85) #[] #[]] W fun e w' => e = .returned (.int .u64 z) ∧ Rs x q w' R1 ∧ Mk q W w') := fun W hW => by
    have := rnum_any x q R DP.cmdRule 85 #[] #[] W (h.below hW) (fun s _ => rule_cmd x q W (h.below hW).base) c13
    rw [hz, hR1] at this
    exact this
  have k3 : Hid (∀ W, Rs x q W R2 → Calls Tryz.prog 87 #[.pointer (some ⟨q, 0, none⟩), .int .i64 pk0] W fun e w' => ∃ p : IC.Paint, e = .returned (.agg p.cells.toArray) ∧ (∀ v, RQ = .ok v → v.1 = p) ∧ Rs x q w' R3 ∧ Mk q W w') := fun W hW => by
    have := dpaint_any x q pk0 R2 W hW (by omega)
    rw [hRQ, hR3] at this
    exact this
  have k5 : Hid (∀ W, Rs x q W R4 → Calls Tryz.prog 56 #[.pointer (some ⟨q, 0, none⟩), .func (.func 89) #[] #[]] W fun e w' => e = .returned (.int .u64 m) ∧ Rs x q w' R5 ∧ Mk q W w') := fun W hW => by
    have := rnum_any x q R4 DP.pathsRule 89 #[] #[] W hW (fun s _ => rule_paths x q W hW.base) p13
    rw [hm, hR5] at this
    exact this
  have k6 : Hid (∀ W, Rs x q W R5 → Calls Tryz.prog 88 #[.pointer (some ⟨q, 0, none⟩), .int .u64 m, .func (.func 90) #[.pointer (some ⟨q, 0, none⟩)] #[]] W fun e w' => ∃ (g : List IC.Path) (ad : Option Addr) (cap : Nat), e = .returned (.slice ad g.length cap) ∧ g.length ≤ m ∧ Own w' W.heap.size 72 4 IC.Path.cells ad cap g ∧ (∀ p ∈ g, PathOk w' p) ∧ (∀ v, RL = .ok v → v.1 = g.map DP.barePath) ∧ Rs x q w' R6 ∧ Mk q W w' ∧ (∀ s', R6 = .ok s' → ∃ s, R5 = .ok s ∧ s'.far = s.far ∧ s'.cols = s.cols ∧ s'.used = s.used ∧ s'.cl = s.cl ∧ s'.pts ≤ 4000)) := fun W hW => by
    have := dpaths_any x q m R5 W hW hm2 hp5
    rw [hRL, hR6] at this
    exact this
  have HEQ : Hid (∀ (p : IC.Paint) (g : List IC.Path), (∀ v, RQ = .ok v → v.1 = p) → (∀ v, RL = .ok v → v.1 = g.map DP.barePath) → run (DP.cmd x.bs) R = run (DP.ret (⟨1, r, 0, p, DP.nov, g.map DP.barePath⟩ : IC.Cmd)) R6) := fun p g hp hg => by
    unfold DP.cmd
    rw [run_then _ _ _ z (fun v e => by rw [← hz]; exact valOf_ok v e), hR1, hz2, hpk0, hr]
    show run (DP.andThen (DP.ret 0) fun wd => DP.andThen (DP.paint x.bs pk0) fun p s => DP.andThen (DP.num x.bs DP.pathsRule) (fun m => DP.andThen (DP.list (DP.path x.bs) m []) fun l => DP.ret (⟨1, r, (wd : Nat), p, DP.nov, l⟩ : IC.Cmd)) { s with cl := false }) R1 = _
    rw [run_then _ _ _ 0 (run_ret 0 R1).2, (run_ret 0 R1).1, hR2, run_then _ _ _ p (fun v e => by rw [hRQ] at e; exact hp v e), hRQ, hR3]
    have e4 : run (fun s => DP.andThen (DP.num x.bs DP.pathsRule) (fun m => DP.andThen (DP.list (DP.path x.bs) m []) fun l => DP.ret (⟨1, r, ((0 : Nat) : Int), p, DP.nov, l⟩ : IC.Cmd)) { s with cl := false }) R3 = run (DP.andThen (DP.num x.bs DP.pathsRule) (fun m => DP.andThen (DP.list (DP.path x.bs) m []) fun l => DP.ret (⟨1, r, ((0 : Nat) : Int), p, DP.nov, l⟩ : IC.Cmd))) R4 := by rw [← hR4]; cases R3 <;> rfl
    rw [e4, run_then _ _ _ m (fun v e => by rw [← hm]; exact valOf_ok v e), hR5, run_then _ _ _ (g.map DP.barePath) (fun v e => by rw [hRL] at e; exact hg v e), hRL, hR6]
    rfl
  obtain ⟨RP, hRP⟩ : ∃ RP, run (DP.cmd x.bs) R = RP := ⟨_, rfl⟩
  rw [hRP] at HEQ
  rw [hRP]
  have h1b : bits .and .u64 (z : Int) 1 = (0 : Int) := by have := low1_u64 z (by omega); rw [hz2] at this; exact this
  obtain ⟨y, hy⟩ : ∃ y, z / 2 = y := ⟨_, rfl⟩
  have hy' : (z : Int) / 2 = (y : Int) := by omega
  have h2b : bits .and .u64 (y : Int) 1 = (r : Int) := by have := low1_u64 y (by omega); rw [show y % 2 = r by omega] at this; exact this
  have h4b : (z : Int) / 4 = (pk0 : Int) := by omega
  have hr1 : r ≤ 1 := by omega
  have hpk2 : pk0 ≤ 2 := by omega
  have HR4 : Hid (setCl false R3 = R4) := hR4
  have HR12 : Hid (R1 = R2) := hR2
  clear hRP hK2 hK5 hp5 hz hR1 hR2 hRQ hR3 hR4 hm hR5 hRL hR6 hpk0 hr hy hb h h4 hz12 hz3 hz2
  go_enter Tryz.func61, Tryz.ntmps61
  go_upto_region 3 with (first
    | (go_at_call 56; refine (k1.out _ ((Below.refl _ _).alloc (Nat.le_refl _) _)).mono ?_; rintro e w1 ⟨rfl, h1⟩
       have H1 := hid'' h1
       clear h1
       have lt1 : w.heap.size < w1.heap.size := by have := H1.out.2.size; simp at this; omega
       have B1 : Blk w1 w.heap.size 62 #[.int .i64 0, .int .i64 0, .int .i64 0, .int .i64 0, .int .i64 0, .int .i64 0, .int .i64 0, .int .i64 0, .int .i64 0, .int .i64 0, .slice none 0 0] := Blk.mk (blk_new w _ _) H1.out.2 (by omega)))
  obtain ⟨W2, hW2⟩ : ∃ W2, w1.alloc (.cells #[.int .i64 1, .int .i64 r, .int .i64 0, .int .i64 0, .int .i64 0, .int .i64 0, .int .i64 0, .int .i64 0, .int .i64 0, .int .i64 0, .slice none 0 0] 62) = W2 := ⟨_, rfl⟩
  have S2 : Hid (Rs x q W2 R1) := by rw [← hW2]; exact H1.out.1.below ((Below.refl _ _).alloc (Nat.le_refl _) _)
  have B2 : Blk W2 w.heap.size 62 #[.int .i64 0, .int .i64 0, .int .i64 0, .int .i64 0, .int .i64 0, .int .i64 0, .int .i64 0, .int .i64 0, .int .i64 0, .int .i64 0, .slice none 0 0] := by rw [← hW2]; exact B1.alloc _
  have C2 : Blk W2 w1.heap.size 62 #[.int .i64 1, .int .i64 r, .int .i64 0, .int .i64 0, .int .i64 0, .int .i64 0, .int .i64 0, .int .i64 0, .int .i64 0, .int .i64 0, .slice none 0 0] := by rw [← hW2]; exact blk_new w1 _ _
  have M2 : Hid (Mk q w W2) := by rw [← hW2]; exact ((Mk.below ((Below.refl w.heap.size w).alloc (Nat.le_refl _) (Obj.cells #[.int .i64 0, .int .i64 0, .int .i64 0, .int .i64 0, .int .i64 0, .int .i64 0, .int .i64 0, .int .i64 0, .int .i64 0, .int .i64 0, .slice none 0 0] 62))).trans H1.out.2).alloc _
  have lt2 : w1.heap.size < W2.heap.size := C2.lt
  rw [hW2]
  clear hW2 B1 H1
  have ck0 := C2.cell 0
  simp at ck0
  go_upto_region 5 with fail
  have S4 : Hid (Rs x q W2 R2) := by have := S2.out; rw [show R1 = R2 from HR12.out] at this; exact this
  obtain ⟨W4, hW4⟩ : ∃ W4, W4 = W2 := ⟨_, rfl⟩
  subst hW4
  have B4 := B2
  have C4 := C2
  have M4 := M2
  have lt4 := lt2
  clear B2 C2 S2 M2 ck0
  go_upto_region 6 with (first
    | (go_at_call 87; refine (k3.out _ S4.out).mono ?_; rintro e w5 ⟨⟨pk, pa, pb, ⟨ppx, ppy⟩, ⟨pqx, pqy⟩⟩, rfl, hv5, h5⟩
       have HV5 := hid'' hv5
       have H5 := hid'' h5
       clear hv5 h5
       have lt5 : w1.heap.size < w5.heap.size := by have := H5.out.2.size; omega
       have B5 := B4.mk H5.out.2 (by omega)
       have C5 := C4.mk H5.out.2 (by omega)
       have cc3 := C5.cell 3
       have ff3 := C5.frozen 3
       have cc4 := C5.cell 4
       have ff4 := C5.frozen 4
       have cc5 := C5.cell 5
       have ff5 := C5.frozen 5
       have cc6 := C5.cell 6
       have ff6 := C5.frozen 6
       have cc7 := C5.cell 7
       have ff7 := C5.frozen 7
       have cc8 := C5.cell 8
       have ff8 := C5.frozen 8
       have cc9 := C5.cell 9
       have ff9 := C5.frozen 9
       simp at cc3 cc4 cc5 cc6 cc7 cc8 cc9
       simp only [IC.Paint.cells]))
  obtain ⟨W6, hW6⟩ : ∃ W6, (((((((w5.setCell ⟨w1.heap.size, 3, none⟩ (.int .i64 pk)).setCell ⟨w1.heap.size, 4, none⟩ (.int .i64 pa)).setCell ⟨w1.heap.size, 5, none⟩ (.int .i64 pb)).setCell ⟨w1.heap.size, 6, none⟩ (.int .i64 ppx)).setCell ⟨w1.heap.size, 7, none⟩ (.int .i64 ppy)).setCell ⟨w1.heap.size, 8, none⟩ (.int .i64 pqx)).setCell ⟨w1.heap.size, 9, none⟩ (.int .i64 pqy)) = W6 := ⟨_, rfl⟩
  have S6 : Hid (Rs x q W6 R3) := by rw [← hW6]; exact (((((((H5.out.1.far (p := ⟨w1.heap.size, 3, none⟩) (by show q < w1.heap.size; omega) C5 (by decide) (by decide) (.int .i64 pk)).far (p := ⟨w1.heap.size, 4, none⟩) (by show q < w1.heap.size; omega) (C5.set (j := 3) (.int .i64 pk)) (by decide) (by decide) (.int .i64 pa)).far (p := ⟨w1.heap.size, 5, none⟩) (by show q < w1.heap.size; omega) ((C5.set (j := 3) (.int .i64 pk)).set (j := 4) (.int .i64 pa)) (by decide) (by decide) (.int .i64 pb)).far (p := ⟨w1.heap.size, 6, none⟩) (by show q < w1.heap.size; omega) (((C5.set (j := 3) (.int .i64 pk)).set (j := 4) (.int .i64 pa)).set (j := 5) (.int .i64 pb)) (by decide) (by decide) (.int .i64 ppx)).far (p := ⟨w1.heap.size, 7, none⟩) (by show q < w1.heap.size; omega) ((((C5.set (j := 3) (.int .i64 pk)).set (j := 4) (.int .i64 pa)).set (j := 5) (.int .i64 pb)).set (j := 6) (.int .i64 ppx)) (by decide) (by decide) (.int .i64 ppy)).far (p := ⟨w1.heap.size, 8, none⟩) (by show q < w1.heap.size; omega) (((((C5.set (j := 3) (.int .i64 pk)).set (j := 4) (.int .i64 pa)).set (j := 5) (.int .i64 pb)).set (j := 6) (.int .i64 ppx)).set (j := 7) (.int .i64 ppy)) (by decide) (by decide) (.int .i64 pqx)).far (p := ⟨w1.heap.size, 9, none⟩) (by show q < w1.heap.size; omega) ((((((C5.set (j := 3) (.int .i64 pk)).set (j := 4) (.int .i64 pa)).set (j := 5) (.int .i64 pb)).set (j := 6) (.int .i64 ppx)).set (j := 7) (.int .i64 ppy)).set (j := 8) (.int .i64 pqx)) (by decide) (by decide) (.int .i64 pqy))
  have B6 : Blk W6 w.heap.size 62 #[.int .i64 0, .int .i64 0, .int .i64 0, .int .i64 0, .int .i64 0, .int .i64 0, .int .i64 0, .int .i64 0, .int .i64 0, .int .i64 0, .slice none 0 0] := by rw [← hW6]; exact (((((((B5.far (p := ⟨w1.heap.size, 3, none⟩) (by show w.heap.size ≠ w1.heap.size; omega) (.int .i64 pk)).far (p := ⟨w1.heap.size, 4, none⟩) (by show w.heap.size ≠ w1.heap.size; omega) (.int .i64 pa)).far (p := ⟨w1.heap.size, 5, none⟩) (by show w.heap.size ≠ w1.heap.size; omega) (.int .i64 pb)).far (p := ⟨w1.heap.size, 6, none⟩) (by show w.heap.size ≠ w1.heap.size; omega) (.int .i64 ppx)).far (p := ⟨w1.heap.size, 7, none⟩) (by show w.heap.size ≠ w1.heap.size; omega) (.int .i64 ppy)).far (p := ⟨w1.heap.size, 8, none⟩) (by show w.heap.size ≠ w1.heap.size; omega) (.int .i64 pqx)).far (p := ⟨w1.heap.size, 9, none⟩) (by show w.heap.size ≠ w1.heap.size; omega) (.int .i64 pqy))
  have C6 : Blk W6 w1.heap.size 62 #[.int .i64 1, .int .i64 r, .int .i64 0, .int .i64 pk, .int .i64 pa, .int .i64 pb, .int .i64 ppx, .int .i64 ppy, .int .i64 pqx, .int .i64 pqy, .slice none 0 0] := by rw [← hW6]; exact ((((((C5.set (j := 3) (.int .i64 pk)).set (j := 4) (.int .i64 pa)).set (j := 5) (.int .i64 pb)).set (j := 6) (.int .i64 ppx)).set (j := 7) (.int .i64 ppy)).set (j := 8) (.int .i64 pqx)).set (j := 9) (.int .i64 pqy)
  have M6 : Hid (Mk q w W6) := by rw [← hW6]; exact ((((((((M4.out.trans H5.out.2).set (p := ⟨w1.heap.size, 3, none⟩) (by show w.heap.size ≤ w1.heap.size; omega) (.int .i64 pk)).set (p := ⟨w1.heap.size, 4, none⟩) (by show w.heap.size ≤ w1.heap.size; omega) (.int .i64 pa)).set (p := ⟨w1.heap.size, 5, none⟩) (by show w.heap.size ≤ w1.heap.size; omega) (.int .i64 pb)).set (p := ⟨w1.heap.size, 6, none⟩) (by show w.heap.size ≤ w1.heap.size; omega) (.int .i64 ppx)).set (p := ⟨w1.heap.size, 7, none⟩) (by show w.heap.size ≤ w1.heap.size; omega) (.int .i64 ppy)).set (p := ⟨w1.heap.size, 8, none⟩) (by show w.heap.size ≤ w1.heap.size; omega) (.int .i64 pqx)).set (p := ⟨w1.heap.size, 9, none⟩) (by show w.heap.size ≤ w1.heap.size; omega) (.int .i64 pqy))
  have lt6 : w1.heap.size < W6.heap.size := C6.lt
  rw [hW6]
  clear hW6 B5 C5 H5 B4 C4 S4 M4 cc3 ff3 cc4 ff4 cc5 ff5 cc6 ff6 cc7 ff7 cc8 ff8 cc9 ff9
  have ck0 := C6.cell 0
  simp at ck0
  obtain ⟨f7, b7, c7⟩ := S6.out.clCell
  have hq6 := S6.out.lt
  go_upto_region 7 with fail
  obtain ⟨W7, hW7⟩ : ∃ W7, W6.setCell ⟨q, 7, none⟩ (.bool false) = W7 := ⟨_, rfl⟩
  have S7 : Hid (Rs x q W7 R4) := by rw [← hW7, ← HR4.out]; exact S6.out.setCl false
  have B7 : Blk W7 w.heap.size 62 #[.int .i64 0, .int .i64 0, .int .i64 0, .int .i64 0, .int .i64 0, .int .i64 0, .int .i64 0, .int .i64 0, .int .i64 0, .int .i64 0, .slice none 0 0] := by rw [← hW7]; exact B6.far (p := ⟨q, 7, none⟩) (by show w.heap.size ≠ q; omega) _
  have C7 : Blk W7 w1.heap.size 62 #[.int .i64 1, .int .i64 r, .int .i64 0, .int .i64 pk, .int .i64 pa, .int .i64 pb, .int .i64 ppx, .int .i64 ppy, .int .i64 pqx, .int .i64 pqy, .slice none 0 0] := by rw [← hW7]; exact C6.far (p := ⟨q, 7, none⟩) (by show w1.heap.size ≠ q; omega) _
  have M7 : Hid (Mk q w W7) := by rw [← hW7]; exact M6.out.trans (Mk.self 7 _)
  have lt7 : w1.heap.size < W7.heap.size := C7.lt
  rw [hW7]
  clear hW7 B6 C6 S6 M6 ck0 f7 c7
  go_upto_region 8 with (first
    | (go_at_call 88; refine (k6.out _ H8.out.1).mono ?_; rintro e w9 ⟨g, adp, capp, rfl, hgm, hown, hoks, hv9, hr9, hm9, hkp9⟩
       obtain ⟨np, hnp⟩ : ∃ n, g.length = n := ⟨_, rfl⟩
       have HNP := hid'' hnp
       have HOW := hid'' hown
       have HOK := hid'' hoks
       have HV9 := hid'' hv9
       have H9 := hid'' (And.intro hr9 hm9)
       have HKP := hid'' hkp9
       have lt9 : w1.heap.size < w9.heap.size := by have := hm9.size; omega
       rw [hnp]
       clear hgm hown hoks hv9 hr9 hm9 hkp9 hnp
       have B9 := B8.mk H9.out.2 (by omega)
       have C9 := C8.mk H9.out.2 (by omega)
       have cc10 := C9.cell 10
       have ff10 := C9.frozen 10
       simp at cc10)
    | (go_at_call 56; refine (k5.out _ S7.out).mono ?_; rintro e w8 ⟨rfl, h8⟩
       have H8 := hid'' h8
       clear h8
       have lt8 : w1.heap.size < w8.heap.size := by have := H8.out.2.size; omega
       have B8 := B7.mk H8.out.2 (by omega)
       have C8 := C7.mk H8.out.2 (by omega)))
  obtain ⟨WA, hWA⟩ : ∃ WA, w9.setCell ⟨w1.heap.size, 10, none⟩ (.slice adp np capp) = WA := ⟨_, rfl⟩
  have SA : Rs x q WA R6 := by rw [← hWA]; exact H9.out.1.far (p := ⟨w1.heap.size, 10, none⟩) (by show q < w1.heap.size; omega) C9 (by decide) (by decide) _
  have BA : Blk WA w.heap.size 62 #[.int .i64 0, .int .i64 0, .int .i64 0, .int .i64 0, .int .i64 0, .int .i64 0, .int .i64 0, .int .i64 0, .int .i64 0, .int .i64 0, .slice none 0 0] := by rw [← hWA]; exact B9.far (p := ⟨w1.heap.size, 10, none⟩) (by show w.heap.size ≠ w1.heap.size; omega) _
  have CA : Blk WA w1.heap.size 62 #[.int .i64 1, .int .i64 r, .int .i64 0, .int .i64 pk, .int .i64 pa, .int .i64 pb, .int .i64 ppx, .int .i64 ppy, .int .i64 pqx, .int .i64 pqy, .slice adp np capp] := by rw [← hWA]; exact C9.set (j := 10) _
  have MA : Mk q w WA := by rw [← hWA]; exact ((M7.out.trans H8.out.2).trans H9.out.2).set (p := ⟨w1.heap.size, 10, none⟩) (by show w.heap.size ≤ w1.heap.size; omega) _
  have GA : Many WA 72 4 IC.Path.cells (.slice adp np capp) g ∧ ∀ p ∈ g, PathOk WA p := by
    rw [← hWA]
    refine ⟨?_, fun p hp => (HOK.out p hp).far (a := ⟨w1.heap.size, 10, none⟩) C9 _⟩
    have := Own.many HOW.out
    rw [HNP.out] at this
    exact Row.farT (p := ⟨w1.heap.size, 10, none⟩) (t' := 62) this C9 (by decide) _
  have ltA : w1.heap.size < WA.heap.size := CA.lt
  rw [hWA]
  have SA' := hid'' SA
  have MA' := hid'' MA
  have GA' := hid'' GA
  clear hWA SA MA GA B8 C8 H8 B9 C9 H9 B7 C7 S7 M7 cc10 ff10 HOW HOK
  have x0 := BA.cell 0
  have y0 := CA.cell 0
  have fx0 := BA.frozen 0
  have x1 := BA.cell 1
  have y1 := CA.cell 1
  have fx1 := BA.frozen 1
  have x2 := BA.cell 2
  have y2 := CA.cell 2
  have fx2 := BA.frozen 2
  have x3 := BA.cell 3
  have y3 := CA.cell 3
  have fx3 := BA.frozen 3
  have x4 := BA.cell 4
  have y4 := CA.cell 4
  have fx4 := BA.frozen 4
  have x5 := BA.cell 5
  have y5 := CA.cell 5
  have fx5 := BA.frozen 5
  have x6 := BA.cell 6
  have y6 := CA.cell 6
  have fx6 := BA.frozen 6
  have x7 := BA.cell 7
  have y7 := CA.cell 7
  have fx7 := BA.frozen 7
  have x8 := BA.cell 8
  have y8 := CA.cell 8
  have fx8 := BA.frozen 8
  have x9 := BA.cell 9
  have y9 := CA.cell 9
  have fx9 := BA.frozen 9
  have x10 := BA.cell 10
  have y10 := CA.cell 10
  have fx10 := BA.frozen 10
  simp at x0 y0 x1 y1 x2 y2 x3 y3 x4 y4 x5 y5 x6 y6 x7 y7 x8 y8 x9 y9 x10 y10
  go_wp2
  have hE := HEQ.out ⟨pk, pa, pb, ⟨ppx, ppy⟩, ⟨pqx, pqy⟩⟩ g HV5.out HV9.out
  refine bodyPost_ret (v := .agg #[.int .i64 1, .int .i64 r, .int .i64 0, .int .i64 pk, .int .i64 pa, .int .i64 pb, .int .i64 ppx, .int .i64 ppy, .int .i64 pqx, .int .i64 pqy, .slice adp np capp]) (by simp [results, Tryz.results61, go_sem, BA.got 0 (by simp) (.int .i64 1), (BA.set (j := 0) (.int .i64 1)).got 1 (by simp) (.int .i64 r), ((BA.set (j := 0) (.int .i64 1)).set (j := 1) (.int .i64 r)).got 2 (by simp) (.int .i64 0), (((BA.set (j := 0) (.int .i64 1)).set (j := 1) (.int .i64 r)).set (j := 2) (.int .i64 0)).got 3 (by simp) (.int .i64 pk), ((((BA.set (j := 0) (.int .i64 1)).set (j := 1) (.int .i64 r)).set (j := 2) (.int .i64 0)).set (j := 3) (.int .i64 pk)).got 4 (by simp) (.int .i64 pa), (((((BA.set (j := 0) (.int .i64 1)).set (j := 1) (.int .i64 r)).set (j := 2) (.int .i64 0)).set (j := 3) (.int .i64 pk)).set (j := 4) (.int .i64 pa)).got 5 (by simp) (.int .i64 pb), ((((((BA.set (j := 0) (.int .i64 1)).set (j := 1) (.int .i64 r)).set (j := 2) (.int .i64 0)).set (j := 3) (.int .i64 pk)).set (j := 4) (.int .i64 pa)).set (j := 5) (.int .i64 pb)).got 6 (by simp) (.int .i64 ppx), (((((((BA.set (j := 0) (.int .i64 1)).set (j := 1) (.int .i64 r)).set (j := 2) (.int .i64 0)).set (j := 3) (.int .i64 pk)).set (j := 4) (.int .i64 pa)).set (j := 5) (.int .i64 pb)).set (j := 6) (.int .i64 ppx)).got 7 (by simp) (.int .i64 ppy), ((((((((BA.set (j := 0) (.int .i64 1)).set (j := 1) (.int .i64 r)).set (j := 2) (.int .i64 0)).set (j := 3) (.int .i64 pk)).set (j := 4) (.int .i64 pa)).set (j := 5) (.int .i64 pb)).set (j := 6) (.int .i64 ppx)).set (j := 7) (.int .i64 ppy)).got 8 (by simp) (.int .i64 pqx), (((((((((BA.set (j := 0) (.int .i64 1)).set (j := 1) (.int .i64 r)).set (j := 2) (.int .i64 0)).set (j := 3) (.int .i64 pk)).set (j := 4) (.int .i64 pa)).set (j := 5) (.int .i64 pb)).set (j := 6) (.int .i64 ppx)).set (j := 7) (.int .i64 ppy)).set (j := 8) (.int .i64 pqx)).got 9 (by simp) (.int .i64 pqy), ((((((((((BA.set (j := 0) (.int .i64 1)).set (j := 1) (.int .i64 r)).set (j := 2) (.int .i64 0)).set (j := 3) (.int .i64 pk)).set (j := 4) (.int .i64 pa)).set (j := 5) (.int .i64 pb)).set (j := 6) (.int .i64 ppx)).set (j := 7) (.int .i64 ppy)).set (j := 8) (.int .i64 pqx)).set (j := 9) (.int .i64 pqy)).got 10 (by simp) (.slice adp np capp)]) rfl ⟨⟨1, r, 0, ⟨pk, pa, pb, ⟨ppx, ppy⟩, ⟨pqx, pqy⟩⟩, .slice adp np capp, g⟩, rfl, ?_, ?_, ?_, ?_, ?_⟩
  · exact ⟨Row.farT (p := ⟨w.heap.size, 10, none⟩) (t' := 62) (Row.farT (p := ⟨w.heap.size, 9, none⟩) (t' := 62) (Row.farT (p := ⟨w.heap.size, 8, none⟩) (t' := 62) (Row.farT (p := ⟨w.heap.size, 7, none⟩) (t' := 62) (Row.farT (p := ⟨w.heap.size, 6, none⟩) (t' := 62) (Row.farT (p := ⟨w.heap.size, 5, none⟩) (t' := 62) (Row.farT (p := ⟨w.heap.size, 4, none⟩) (t' := 62) (Row.farT (p := ⟨w.heap.size, 3, none⟩) (t' := 62) (Row.farT (p := ⟨w.heap.size, 2, none⟩) (t' := 62) (Row.farT (p := ⟨w.heap.size, 1, none⟩) (t' := 62) (Row.farT (p := ⟨w.heap.size, 0, none⟩) (t' := 62) (GA'.out.1) BA (by decide) (.int .i64 1)) (BA.set (j := 0) (.int .i64 1)) (by decide) (.int .i64 r)) ((BA.set (j := 0) (.int .i64 1)).set (j := 1) (.int .i64 r)) (by decide) (.int .i64 0)) (((BA.set (j := 0) (.int .i64 1)).set (j := 1) (.int .i64 r)).set (j := 2) (.int .i64 0)) (by decide) (.int .i64 pk)) ((((BA.set (j := 0) (.int .i64 1)).set (j := 1) (.int .i64 r)).set (j := 2) (.int .i64 0)).set (j := 3) (.int .i64 pk)) (by decide) (.int .i64 pa)) (((((BA.set (j := 0) (.int .i64 1)).set (j := 1) (.int .i64 r)).set (j := 2) (.int .i64 0)).set (j := 3) (.int .i64 pk)).set (j := 4) (.int .i64 pa)) (by decide) (.int .i64 pb)) ((((((BA.set (j := 0) (.int .i64 1)).set (j := 1) (.int .i64 r)).set (j := 2) (.int .i64 0)).set (j := 3) (.int .i64 pk)).set (j := 4) (.int .i64 pa)).set (j := 5) (.int .i64 pb)) (by decide) (.int .i64 ppx)) (((((((BA.set (j := 0) (.int .i64 1)).set (j := 1) (.int .i64 r)).set (j := 2) (.int .i64 0)).set (j := 3) (.int .i64 pk)).set (j := 4) (.int .i64 pa)).set (j := 5) (.int .i64 pb)).set (j := 6) (.int .i64 ppx)) (by decide) (.int .i64 ppy)) ((((((((BA.set (j := 0) (.int .i64 1)).set (j := 1) (.int .i64 r)).set (j := 2) (.int .i64 0)).set (j := 3) (.int .i64 pk)).set (j := 4) (.int .i64 pa)).set (j := 5) (.int .i64 pb)).set (j := 6) (.int .i64 ppx)).set (j := 7) (.int .i64 ppy)) (by decide) (.int .i64 pqx)) (((((((((BA.set (j := 0) (.int .i64 1)).set (j := 1) (.int .i64 r)).set (j := 2) (.int .i64 0)).set (j := 3) (.int .i64 pk)).set (j := 4) (.int .i64 pa)).set (j := 5) (.int .i64 pb)).set (j := 6) (.int .i64 ppx)).set (j := 7) (.int .i64 ppy)).set (j := 8) (.int .i64 pqx)) (by decide) (.int .i64 pqy)) ((((((((((BA.set (j := 0) (.int .i64 1)).set (j := 1) (.int .i64 r)).set (j := 2) (.int .i64 0)).set (j := 3) (.int .i64 pk)).set (j := 4) (.int .i64 pa)).set (j := 5) (.int .i64 pb)).set (j := 6) (.int .i64 ppx)).set (j := 7) (.int .i64 ppy)).set (j := 8) (.int .i64 pqx)).set (j := 9) (.int .i64 pqy)) (by decide) (.slice adp np capp), fun p hp => PathOk.far (a := ⟨w.heap.size, 10, none⟩) (PathOk.far (a := ⟨w.heap.size, 9, none⟩) (PathOk.far (a := ⟨w.heap.size, 8, none⟩) (PathOk.far (a := ⟨w.heap.size, 7, none⟩) (PathOk.far (a := ⟨w.heap.size, 6, none⟩) (PathOk.far (a := ⟨w.heap.size, 5, none⟩) (PathOk.far (a := ⟨w.heap.size, 4, none⟩) (PathOk.far (a := ⟨w.heap.size, 3, none⟩) (PathOk.far (a := ⟨w.heap.size, 2, none⟩) (PathOk.far (a := ⟨w.heap.size, 1, none⟩) (PathOk.far (a := ⟨w.heap.size, 0, none⟩) ((GA'.out.2 p hp)) BA (.int .i64 1)) (BA.set (j := 0) (.int .i64 1)) (.int .i64 r)) ((BA.set (j := 0) (.int .i64 1)).set (j := 1) (.int .i64 r)) (.int .i64 0)) (((BA.set (j := 0) (.int .i64 1)).set (j := 1) (.int .i64 r)).set (j := 2) (.int .i64 0)) (.int .i64 pk)) ((((BA.set (j := 0) (.int .i64 1)).set (j := 1) (.int .i64 r)).set (j := 2) (.int .i64 0)).set (j := 3) (.int .i64 pk)) (.int .i64 pa)) (((((BA.set (j := 0) (.int .i64 1)).set (j := 1) (.int .i64 r)).set (j := 2) (.int .i64 0)).set (j := 3) (.int .i64 pk)).set (j := 4) (.int .i64 pa)) (.int .i64 pb)) ((((((BA.set (j := 0) (.int .i64 1)).set (j := 1) (.int .i64 r)).set (j := 2) (.int .i64 0)).set (j := 3) (.int .i64 pk)).set (j := 4) (.int .i64 pa)).set (j := 5) (.int .i64 pb)) (.int .i64 ppx)) (((((((BA.set (j := 0) (.int .i64 1)).set (j := 1) (.int .i64 r)).set (j := 2) (.int .i64 0)).set (j := 3) (.int .i64 pk)).set (j := 4) (.int .i64 pa)).set (j := 5) (.int .i64 pb)).set (j := 6) (.int .i64 ppx)) (.int .i64 ppy)) ((((((((BA.set (j := 0) (.int .i64 1)).set (j := 1) (.int .i64 r)).set (j := 2) (.int .i64 0)).set (j := 3) (.int .i64 pk)).set (j := 4) (.int .i64 pa)).set (j := 5) (.int .i64 pb)).set (j := 6) (.int .i64 ppx)).set (j := 7) (.int .i64 ppy)) (.int .i64 pqx)) (((((((((BA.set (j := 0) (.int .i64 1)).set (j := 1) (.int .i64 r)).set (j := 2) (.int .i64 0)).set (j := 3) (.int .i64 pk)).set (j := 4) (.int .i64 pa)).set (j := 5) (.int .i64 pb)).set (j := 6) (.int .i64 ppx)).set (j := 7) (.int .i64 ppy)).set (j := 8) (.int .i64 pqx)) (.int .i64 pqy)) ((((((((((BA.set (j := 0) (.int .i64 1)).set (j := 1) (.int .i64 r)).set (j := 2) (.int .i64 0)).set (j := 3) (.int .i64 pk)).set (j := 4) (.int .i64 pa)).set (j := 5) (.int .i64 pb)).set (j := 6) (.int .i64 ppx)).set (j := 7) (.int .i64 ppy)).set (j := 8) (.int .i64 pqx)).set (j := 9) (.int .i64 pqy)) (.slice adp np capp)⟩
  · intro v hv
    rw [hE] at hv
    exact (run_ret _ _).2 v hv
  · rw [hE, (run_ret _ R6).1]
    have r0 := SA'.out.far (p := ⟨w.heap.size, 0, none⟩) (by show q < w.heap.size; omega) BA (by decide) (by decide) (.int .i64 1)
    have r1 := r0.far (p := ⟨w.heap.size, 1, none⟩) (by show q < w.heap.size; omega) (BA.set (j := 0) (.int .i64 1)) (by decide) (by decide) (.int .i64 r)
    have r2 := r1.far (p := ⟨w.heap.size, 2, none⟩) (by show q < w.heap.size; omega) ((BA.set (j := 0) (.int .i64 1)).set (j := 1) (.int .i64 r)) (by decide) (by decide) (.int .i64 0)
    have r3 := r2.far (p := ⟨w.heap.size, 3, none⟩) (by show q < w.heap.size; omega) (((BA.set (j := 0) (.int .i64 1)).set (j := 1) (.int .i64 r)).set (j := 2) (.int .i64 0)) (by decide) (by decide) (.int .i64 pk)
    have r4 := r3.far (p := ⟨w.heap.size, 4, none⟩) (by show q < w.heap.size; omega) ((((BA.set (j := 0) (.int .i64 1)).set (j := 1) (.int .i64 r)).set (j := 2) (.int .i64 0)).set (j := 3) (.int .i64 pk)) (by decide) (by decide) (.int .i64 pa)
    have r5 := r4.far (p := ⟨w.heap.size, 5, none⟩) (by show q < w.heap.size; omega) (((((BA.set (j := 0) (.int .i64 1)).set (j := 1) (.int .i64 r)).set (j := 2) (.int .i64 0)).set (j := 3) (.int .i64 pk)).set (j := 4) (.int .i64 pa)) (by decide) (by decide) (.int .i64 pb)
    have r6 := r5.far (p := ⟨w.heap.size, 6, none⟩) (by show q < w.heap.size; omega) ((((((BA.set (j := 0) (.int .i64 1)).set (j := 1) (.int .i64 r)).set (j := 2) (.int .i64 0)).set (j := 3) (.int .i64 pk)).set (j := 4) (.int .i64 pa)).set (j := 5) (.int .i64 pb)) (by decide) (by decide) (.int .i64 ppx)
    have r7 := r6.far (p := ⟨w.heap.size, 7, none⟩) (by show q < w.heap.size; omega) (((((((BA.set (j := 0) (.int .i64 1)).set (j := 1) (.int .i64 r)).set (j := 2) (.int .i64 0)).set (j := 3) (.int .i64 pk)).set (j := 4) (.int .i64 pa)).set (j := 5) (.int .i64 pb)).set (j := 6) (.int .i64 ppx)) (by decide) (by decide) (.int .i64 ppy)
    have r8 := r7.far (p := ⟨w.heap.size, 8, none⟩) (by show q < w.heap.size; omega) ((((((((BA.set (j := 0) (.int .i64 1)).set (j := 1) (.int .i64 r)).set (j := 2) (.int .i64 0)).set (j := 3) (.int .i64 pk)).set (j := 4) (.int .i64 pa)).set (j := 5) (.int .i64 pb)).set (j := 6) (.int .i64 ppx)).set (j := 7) (.int .i64 ppy)) (by decide) (by decide) (.int .i64 pqx)
    have r9 := r8.far (p := ⟨w.heap.size, 9, none⟩) (by show q < w.heap.size; omega) (((((((((BA.set (j := 0) (.int .i64 1)).set (j := 1) (.int .i64 r)).set (j := 2) (.int .i64 0)).set (j := 3) (.int .i64 pk)).set (j := 4) (.int .i64 pa)).set (j := 5) (.int .i64 pb)).set (j := 6) (.int .i64 ppx)).set (j := 7) (.int .i64 ppy)).set (j := 8) (.int .i64 pqx)) (by decide) (by decide) (.int .i64 pqy)
    have r10 := r9.far (p := ⟨w.heap.size, 10, none⟩) (by show q < w.heap.size; omega) ((((((((((BA.set (j := 0) (.int .i64 1)).set (j := 1) (.int .i64 r)).set (j := 2) (.int .i64 0)).set (j := 3) (.int .i64 pk)).set (j := 4) (.int .i64 pa)).set (j := 5) (.int .i64 pb)).set (j := 6) (.int .i64 ppx)).set (j := 7) (.int .i64 ppy)).set (j := 8) (.int .i64 pqx)).set (j := 9) (.int .i64 pqy)) (by decide) (by decide) (.slice adp np capp)
    exact r10
  · exact (((((((((((MA'.out).set (p := ⟨w.heap.size, 0, none⟩) (Nat.le_refl _) _).set (p := ⟨w.heap.size, 1, none⟩) (Nat.le_refl _) _).set (p := ⟨w.heap.size, 2, none⟩) (Nat.le_refl _) _).set (p := ⟨w.heap.size, 3, none⟩) (Nat.le_refl _) _).set (p := ⟨w.heap.size, 4, none⟩) (Nat.le_refl _) _).set (p := ⟨w.heap.size, 5, none⟩) (Nat.le_refl _) _).set (p := ⟨w.heap.size, 6, none⟩) (Nat.le_refl _) _).set (p := ⟨w.heap.size, 7, none⟩) (Nat.le_refl _) _).set (p := ⟨w.heap.size, 8, none⟩) (Nat.le_refl _) _).set (p := ⟨w.heap.size, 9, none⟩) (Nat.le_refl _) _).set (p := ⟨w.heap.size, 10, none⟩) (Nat.le_refl _) _
  · rw [hE, (run_ret _ R6).1]
    exact HK6.out HKP.out

end Go.Proofs.YtcnlkdoifogkbaaGreatDoor

/-
  A reader reads a command that outlines: walked over the program.
-/
namespace Go.Proofs.YtcnlkdoifogkbaaGreatDoor
open Go.RowKit

set_option maxRecDepth 20000 in
set_option maxHeartbeats 2000000 in
theorem dcmd1 (x : Src) (q z : Nat) (R : Except DP.Bad DP.St) (w : World) (h : Rs x q w R) (h4 : ∀ s, R = .ok s → s.pts ≤ 4000) (hz : valOf (run (DP.num x.bs DP.cmdRule) R) = z) (hz2 : z % 2 = 1) :
    Calls Tryz.prog 61 #[.pointer (some ⟨q, 0, none⟩)] w fun e w' => ∃ P : IC.Cmd, e = .returned (.agg P.cells.toArray) ∧ CmdOk w' P ∧ (∀ v, run (DP.cmd x.bs) R = .ok v → v.1 = DP.bareCmd P) ∧ Rs x q w' (rest (run (DP.cmd x.bs) R)) ∧ Mk q w w' ∧ (∀ s', rest (run (DP.cmd x.bs) R) = .ok s' → ∃ s, R = .ok s ∧ s'.far = s.far ∧ s'.cols = s.cols ∧ s'.pts ≤ 4000) := by
  have hb := h.base.lt256
  have hq := h.lt
  obtain ⟨hz12, hz3⟩ := cmd_num (R := R) hb
  rw [hz] at hz12 hz3
  obtain ⟨R1, hR1⟩ : ∃ R1, rest (run (DP.num x.bs DP.cmdRule) R) = R1 := ⟨_, rfl⟩
  obtain ⟨wd, hwd⟩ : ∃ wd, valOf (run (DP.length x.bs) R1) = wd := ⟨_, rfl⟩
  obtain ⟨R2, hR2⟩ : ∃ R2, rest (run (DP.length x.bs) R1) = R2 := ⟨_, rfl⟩
  obtain ⟨pk0, hpk0⟩ : ∃ k, z / 4 = k := ⟨_, rfl⟩
  obtain ⟨r, hr⟩ : ∃ r, z / 2 % 2 = r := ⟨_, rfl⟩
  obtain ⟨RQ, hRQ⟩ : ∃ RQ, run (DP.paint x.bs pk0) R2 = RQ := ⟨_, rfl⟩
  obtain ⟨R3, hR3⟩ : ∃ R3, rest RQ = R3 := ⟨_, rfl⟩
  obtain ⟨R4, hR4⟩ : ∃ R4, setCl true R3 = R4 := ⟨_, rfl⟩
  obtain ⟨m, hm⟩ : ∃ m, valOf (run (DP.num x.bs DP.pathsRule) R4) = m := ⟨_, rfl⟩
  obtain ⟨R5, hR5⟩ : ∃ R5, rest (run (DP.num x.bs DP.pathsRule) R4) = R5 := ⟨_, rfl⟩
  obtain ⟨RL, hRL⟩ : ∃ RL, run (DP.list (DP.path x.bs) m []) R5 = RL := ⟨_, rfl⟩
  obtain ⟨R6, hR6⟩ : ∃ R6, rest RL = R6 := ⟨_, rfl⟩
  have hm2 : m ≤ 200 := by rw [← hm]; exact paths_num hb
  have hK2 : ∀ s', R2 = .ok s' → ∃ s, R = .ok s ∧ s'.far = s.far ∧ s'.cols = s.cols ∧ s'.pts = s.pts := fun s' e => by
    obtain ⟨s1, e1, a1, a2, a3⟩ := (keeps_length x.bs).run (hR2.trans e)
    obtain ⟨s0, e0, b1, b2, b3⟩ := (keeps_num x.bs DP.cmdRule).run (hR1.trans e1)
    exact ⟨s0, e0, a1.trans b1, a2.trans b2, a3.trans b3⟩
  have hK5 : ∀ s', R5 = .ok s' → ∃ s, R = .ok s ∧ s'.far = s.far ∧ s'.cols = s.cols ∧ s'.pts = s.pts := fun s' e => by
    obtain ⟨s4, e4, a1, a2, a3⟩ := (keeps_num x.bs DP.pathsRule).run (hR5.trans e)
    cases hq3 : R3 with
    | error e' => rw [← hR4, hq3] at e4; cases e4
    | ok s3 =>
      rw [← hR4, hq3] at e4
      cases e4
      obtain ⟨s2, e2, b1, b2, b3⟩ := (keeps_paint x.bs pk0).run (R := R2) (s' := s3) (by rw [hRQ, hR3]; exact hq3)
      obtain ⟨s0, e0, c1, c2, c3⟩ := hK2 s2 e2
      exact ⟨s0, e0, a1.trans (b1.trans c1), a2.trans (b2.trans c2), a3.trans (b3.trans c3)⟩
  have HK6 : Hid ((∀ s', R6 = .ok s' → ∃ s, R5 = .ok s ∧ s'.far = s.far ∧ s'.cols = s.cols ∧ s'.used = s.used ∧ s'.cl = s.cl ∧ s'.pts ≤ 4000) → ∀ s', R6 = .ok s' → ∃ s, R = .ok s ∧ s'.far = s.far ∧ s'.cols = s.cols ∧ s'.pts ≤ 4000) := fun hk s' e => by
    obtain ⟨s5, e5, a1, a2, -, -, a5⟩ := hk s' e
    obtain ⟨s0, e0, b1, b2, b3⟩ := hK5 s5 e5
    exact ⟨s0, e0, a1.trans b1, a2.trans b2, a5⟩
  have hp5 : ∀ s, R5 = .ok s → s.pts ≤ 4000 := fun s e => by
    obtain ⟨s0, e0, -, -, a3⟩ := hK5 s e
    have := h4 s0 e0
    omega
  have k1 : Hid (∀ W, Below w.heap.size w W → Calls Tryz.prog 56 #[.pointer (some ⟨q, 0, none⟩), .func (.func 85) #[] #[]] W fun e w' => e = .returned (.int .u64 z) ∧ Rs x q w' R1 ∧ Mk q W w') := fun W hW => by
    have := rnum_any x q R DP.cmdRule 85 #[] #[] W (h.below hW) (fun s _ => rule_cmd x q W (h.below hW).base) c13
    rw [hz, hR1] at this
    exact this
  have k2 : Hid (∀ W, Rs x q W R1 → Calls Tryz.prog 56 #[.pointer (some ⟨q, 0, none⟩), .func (.func 86) #[.pointer (some ⟨q, 0, none⟩)] #[]] W fun e w' => e = .returned (.int .u64 wd) ∧ Rs x q w' R2 ∧ Mk q W w') := fun W hW => by
    have := length_any x q R1 W hW
    rw [hwd, hR2] at this
    exact this
  have kl : Hid (∀ W, Rs x q W R1 → wd ≤ 1048576) := fun W hW => by
    have := length_le x q R1 W hW
    rw [hwd] at this
    exact this
  have k3 : Hid (∀ W, Rs x q W R2 → Calls Tryz.prog 87 #[.pointer (some ⟨q, 0, none⟩), .int .i64 pk0] W fun e w' => ∃ p : IC.Paint, e = .returned (.agg p.cells.toArray) ∧ (∀ v, RQ = .ok v → v.1 = p) ∧ Rs x q w' R3 ∧ Mk q W w') := fun W hW => by
    have := dpaint_any x q pk0 R2 W hW (by omega)
    rw [hRQ, hR3] at this
    exact this
  have k5 : Hid (∀ W, Rs x q W R4 → Calls Tryz.prog 56 #[.pointer (some ⟨q, 0, none⟩), .func (.func 89) #[] #[]] W fun e w' => e = .returned (.int .u64 m) ∧ Rs x q w' R5 ∧ Mk q W w') := fun W hW => by
    have := rnum_any x q R4 DP.pathsRule 89 #[] #[] W hW (fun s _ => rule_paths x q W hW.base) p13
    rw [hm, hR5] at this
    exact this
  have k6 : Hid (∀ W, Rs x q W R5 → Calls Tryz.prog 88 #[.pointer (some ⟨q, 0, none⟩), .int .u64 m, .func (.func 90) #[.pointer (some ⟨q, 0, none⟩)] #[]] W fun e w' => ∃ (g : List IC.Path) (ad : Option Addr) (cap : Nat), e = .returned (.slice ad g.length cap) ∧ g.length ≤ m ∧ Own w' W.heap.size 72 4 IC.Path.cells ad cap g ∧ (∀ p ∈ g, PathOk w' p) ∧ (∀ v, RL = .ok v → v.1 = g.map DP.barePath) ∧ Rs x q w' R6 ∧ Mk q W w' ∧ (∀ s', R6 = .ok s' → ∃ s, R5 = .ok s ∧ s'.far = s.far ∧ s'.cols = s.cols ∧ s'.used = s.used ∧ s'.cl = s.cl ∧ s'.pts ≤ 4000)) := fun W hW => by
    have := dpaths_any x q m R5 W hW hm2 hp5
    rw [hRL, hR6] at this
    exact this
  have HEQ : Hid (∀ (p : IC.Paint) (g : List IC.Path), (∀ v, RQ = .ok v → v.1 = p) → (∀ v, RL = .ok v → v.1 = g.map DP.barePath) → run (DP.cmd x.bs) R = run (DP.ret (⟨2, r, (wd : Nat), p, DP.nov, g.map DP.barePath⟩ : IC.Cmd)) R6) := fun p g hp hg => by
    unfold DP.cmd
    rw [run_then _ _ _ z (fun v e => by rw [← hz]; exact valOf_ok v e), hR1, hz2, hpk0, hr]
    show run (DP.andThen (DP.length x.bs) fun wd => DP.andThen (DP.paint x.bs pk0) fun p s => DP.andThen (DP.num x.bs DP.pathsRule) (fun m => DP.andThen (DP.list (DP.path x.bs) m []) fun l => DP.ret (⟨2, r, (wd : Nat), p, DP.nov, l⟩ : IC.Cmd)) { s with cl := true }) R1 = _
    rw [run_then _ _ _ wd (fun v e => by rw [← hwd]; exact valOf_ok v e), hR2, run_then _ _ _ p (fun v e => by rw [hRQ] at e; exact hp v e), hRQ, hR3]
    have e4 : run (fun s => DP.andThen (DP.num x.bs DP.pathsRule) (fun m => DP.andThen (DP.list (DP.path x.bs) m []) fun l => DP.ret (⟨2, r, (wd : Nat), p, DP.nov, l⟩ : IC.Cmd)) { s with cl := true }) R3 = run (DP.andThen (DP.num x.bs DP.pathsRule) (fun m => DP.andThen (DP.list (DP.path x.bs) m []) fun l => DP.ret (⟨2, r, (wd : Nat), p, DP.nov, l⟩ : IC.Cmd))) R4 := by rw [← hR4]; cases R3 <;> rfl
    rw [e4, run_then _ _ _ m (fun v e => by rw [← hm]; exact valOf_ok v e), hR5, run_then _ _ _ (g.map DP.barePath) (fun v e => by rw [hRL] at e; exact hg v e), hRL, hR6]
  obtain ⟨RP, hRP⟩ : ∃ RP, run (DP.cmd x.bs) R = RP := ⟨_, rfl⟩
  rw [hRP] at HEQ
  rw [hRP]
  have h1b : bits .and .u64 (z : Int) 1 = (1 : Int) := by have := low1_u64 z (by omega); rw [hz2] at this; exact this
  obtain ⟨y, hy⟩ : ∃ y, z / 2 = y := ⟨_, rfl⟩
  have hy' : (z : Int) / 2 = (y : Int) := by omega
  have h2b : bits .and .u64 (y : Int) 1 = (r : Int) := by have := low1_u64 y (by omega); rw [show y % 2 = r by omega] at this; exact this
  have h4b : (z : Int) / 4 = (pk0 : Int) := by omega
  have hr1 : r ≤ 1 := by omega
  have hpk2 : pk0 ≤ 2 := by omega
  have HR4 : Hid (setCl true R3 = R4) := hR4
  clear hRP hK2 hK5 hp5 hz hR1 hR2 hRQ hR3 hR4 hm hR5 hRL hR6 hpk0 hr hy hb h h4 hz12 hz3 hz2 hwd
  go_enter Tryz.func61, Tryz.ntmps61
  go_upto_region 3 with (first
    | (go_at_call 56; refine (k1.out _ ((Below.refl _ _).alloc (Nat.le_refl _) _)).mono ?_; rintro e w1 ⟨rfl, h1⟩
       have H1 := hid'' h1
       clear h1
       have lt1 : w.heap.size < w1.heap.size := by have := H1.out.2.size; simp at this; omega
       have B1 : Blk w1 w.heap.size 62 #[.int .i64 0, .int .i64 0, .int .i64 0, .int .i64 0, .int .i64 0, .int .i64 0, .int .i64 0, .int .i64 0, .int .i64 0, .int .i64 0, .slice none 0 0] := Blk.mk (blk_new w _ _) H1.out.2 (by omega)))
  obtain ⟨W2, hW2⟩ : ∃ W2, w1.alloc (.cells #[.int .i64 2, .int .i64 r, .int .i64 0, .int .i64 0, .int .i64 0, .int .i64 0, .int .i64 0, .int .i64 0, .int .i64 0, .int .i64 0, .slice none 0 0] 62) = W2 := ⟨_, rfl⟩
  have S2 : Hid (Rs x q W2 R1) := by rw [← hW2]; exact H1.out.1.below ((Below.refl _ _).alloc (Nat.le_refl _) _)
  have B2 : Blk W2 w.heap.size 62 #[.int .i64 0, .int .i64 0, .int .i64 0, .int .i64 0, .int .i64 0, .int .i64 0, .int .i64 0, .int .i64 0, .int .i64 0, .int .i64 0, .slice none 0 0] := by rw [← hW2]; exact B1.alloc _
  have C2 : Blk W2 w1.heap.size 62 #[.int .i64 2, .int .i64 r, .int .i64 0, .int .i64 0, .int .i64 0, .int .i64 0, .int .i64 0, .int .i64 0, .int .i64 0, .int .i64 0, .slice none 0 0] := by rw [← hW2]; exact blk_new w1 _ _
  have M2 : Hid (Mk q w W2) := by rw [← hW2]; exact ((Mk.below ((Below.refl w.heap.size w).alloc (Nat.le_refl _) (Obj.cells #[.int .i64 0, .int .i64 0, .int .i64 0, .int .i64 0, .int .i64 0, .int .i64 0, .int .i64 0, .int .i64 0, .int .i64 0, .int .i64 0, .slice none 0 0] 62))).trans H1.out.2).alloc _
  have lt2 : w1.heap.size < W2.heap.size := C2.lt
  rw [hW2]
  clear hW2 B1 H1
  have ck0 := C2.cell 0
  simp at ck0
  have hwl := kl.out _ S2.out
  go_upto_region 5 with (first
    | (go_at_call 56; refine (k2.out _ S2.out).mono ?_; rintro e w3 ⟨rfl, h3⟩
       have H3 := hid'' h3
       clear h3
       have lt3 : w1.heap.size < w3.heap.size := by have := H3.out.2.size; omega
       have B3 := B2.mk H3.out.2 (by omega)
       have C3 := C2.mk H3.out.2 (by omega)
       have cc2 := C3.cell 2
       have ff2 := C3.frozen 2
       simp at cc2))
  obtain ⟨W4, hW4⟩ : ∃ W4, w3.setCell ⟨w1.heap.size, 2, none⟩ (.int .i64 wd) = W4 := ⟨_, rfl⟩
  have S4 : Hid (Rs x q W4 R2) := by rw [← hW4]; exact H3.out.1.far (p := ⟨w1.heap.size, 2, none⟩) (by show q < w1.heap.size; omega) C3 (by decide) (by decide) _
  have B4 : Blk W4 w.heap.size 62 #[.int .i64 0, .int .i64 0, .int .i64 0, .int .i64 0, .int .i64 0, .int .i64 0, .int .i64 0, .int .i64 0, .int .i64 0, .int .i64 0, .slice none 0 0] := by rw [← hW4]; exact B3.far (p := ⟨w1.heap.size, 2, none⟩) (by show w.heap.size ≠ w1.heap.size; omega) _
  have C4 : Blk W4 w1.heap.size 62 #[.int .i64 2, .int .i64 r, .int .i64 wd, .int .i64 0, .int .i64 0, .int .i64 0, .int .i64 0, .int .i64 0, .int .i64 0, .int .i64 0, .slice none 0 0] := by rw [← hW4]; exact C3.set (j := 2) _
  have M4 : Hid (Mk q w W4) := by rw [← hW4]; exact (M2.out.trans H3.out.2).set (p := ⟨w1.heap.size, 2, none⟩) (by show w.heap.size ≤ w1.heap.size; omega) _
  have lt4 : w1.heap.size < W4.heap.size := C4.lt
  rw [hW4]
  clear hW4 B3 C3 H3 B2 C2 S2 M2 cc2 ff2 ck0
  go_upto_region 6 with (first
    | (go_at_call 87; refine (k3.out _ S4.out).mono ?_; rintro e w5 ⟨⟨pk, pa, pb, ⟨ppx, ppy⟩, ⟨pqx, pqy⟩⟩, rfl, hv5, h5⟩
       have HV5 := hid'' hv5
       have H5 := hid'' h5
       clear hv5 h5
       have lt5 : w1.heap.size < w5.heap.size := by have := H5.out.2.size; omega
       have B5 := B4.mk H5.out.2 (by omega)
       have C5 := C4.mk H5.out.2 (by omega)
       have cc3 := C5.cell 3
       have ff3 := C5.frozen 3
       have cc4 := C5.cell 4
       have ff4 := C5.frozen 4
       have cc5 := C5.cell 5
       have ff5 := C5.frozen 5
       have cc6 := C5.cell 6
       have ff6 := C5.frozen 6
       have cc7 := C5.cell 7
       have ff7 := C5.frozen 7
       have cc8 := C5.cell 8
       have ff8 := C5.frozen 8
       have cc9 := C5.cell 9
       have ff9 := C5.frozen 9
       simp at cc3 cc4 cc5 cc6 cc7 cc8 cc9
       simp only [IC.Paint.cells]))
  obtain ⟨W6, hW6⟩ : ∃ W6, (((((((w5.setCell ⟨w1.heap.size, 3, none⟩ (.int .i64 pk)).setCell ⟨w1.heap.size, 4, none⟩ (.int .i64 pa)).setCell ⟨w1.heap.size, 5, none⟩ (.int .i64 pb)).setCell ⟨w1.heap.size, 6, none⟩ (.int .i64 ppx)).setCell ⟨w1.heap.size, 7, none⟩ (.int .i64 ppy)).setCell ⟨w1.heap.size, 8, none⟩ (.int .i64 pqx)).setCell ⟨w1.heap.size, 9, none⟩ (.int .i64 pqy)) = W6 := ⟨_, rfl⟩
  have S6 : Hid (Rs x q W6 R3) := by rw [← hW6]; exact (((((((H5.out.1.far (p := ⟨w1.heap.size, 3, none⟩) (by show q < w1.heap.size; omega) C5 (by decide) (by decide) (.int .i64 pk)).far (p := ⟨w1.heap.size, 4, none⟩) (by show q < w1.heap.size; omega) (C5.set (j := 3) (.int .i64 pk)) (by decide) (by decide) (.int .i64 pa)).far (p := ⟨w1.heap.size, 5, none⟩) (by show q < w1.heap.size; omega) ((C5.set (j := 3) (.int .i64 pk)).set (j := 4) (.int .i64 pa)) (by decide) (by decide) (.int .i64 pb)).far (p := ⟨w1.heap.size, 6, none⟩) (by show q < w1.heap.size; omega) (((C5.set (j := 3) (.int .i64 pk)).set (j := 4) (.int .i64 pa)).set (j := 5) (.int .i64 pb)) (by decide) (by decide) (.int .i64 ppx)).far (p := ⟨w1.heap.size, 7, none⟩) (by show q < w1.heap.size; omega) ((((C5.set (j := 3) (.int .i64 pk)).set (j := 4) (.int .i64 pa)).set (j := 5) (.int .i64 pb)).set (j := 6) (.int .i64 ppx)) (by decide) (by decide) (.int .i64 ppy)).far (p := ⟨w1.heap.size, 8, none⟩) (by show q < w1.heap.size; omega) (((((C5.set (j := 3) (.int .i64 pk)).set (j := 4) (.int .i64 pa)).set (j := 5) (.int .i64 pb)).set (j := 6) (.int .i64 ppx)).set (j := 7) (.int .i64 ppy)) (by decide) (by decide) (.int .i64 pqx)).far (p := ⟨w1.heap.size, 9, none⟩) (by show q < w1.heap.size; omega) ((((((C5.set (j := 3) (.int .i64 pk)).set (j := 4) (.int .i64 pa)).set (j := 5) (.int .i64 pb)).set (j := 6) (.int .i64 ppx)).set (j := 7) (.int .i64 ppy)).set (j := 8) (.int .i64 pqx)) (by decide) (by decide) (.int .i64 pqy))
  have B6 : Blk W6 w.heap.size 62 #[.int .i64 0, .int .i64 0, .int .i64 0, .int .i64 0, .int .i64 0, .int .i64 0, .int .i64 0, .int .i64 0, .int .i64 0, .int .i64 0, .slice none 0 0] := by rw [← hW6]; exact (((((((B5.far (p := ⟨w1.heap.size, 3, none⟩) (by show w.heap.size ≠ w1.heap.size; omega) (.int .i64 pk)).far (p := ⟨w1.heap.size, 4, none⟩) (by show w.heap.size ≠ w1.heap.size; omega) (.int .i64 pa)).far (p := ⟨w1.heap.size, 5, none⟩) (by show w.heap.size ≠ w1.heap.size; omega) (.int .i64 pb)).far (p := ⟨w1.heap.size, 6, none⟩) (by show w.heap.size ≠ w1.heap.size; omega) (.int .i64 ppx)).far (p := ⟨w1.heap.size, 7, none⟩) (by show w.heap.size ≠ w1.heap.size; omega) (.int .i64 ppy)).far (p := ⟨w1.heap.size, 8, none⟩) (by show w.heap.size ≠ w1.heap.size; omega) (.int .i64 pqx)).far (p := ⟨w1.heap.size, 9, none⟩) (by show w.heap.size ≠ w1.heap.size; omega) (.int .i64 pqy))
  have C6 : Blk W6 w1.heap.size 62 #[.int .i64 2, .int .i64 r, .int .i64 wd, .int .i64 pk, .int .i64 pa, .int .i64 pb, .int .i64 ppx, .int .i64 ppy, .int .i64 pqx, .int .i64 pqy, .slice none 0 0] := by rw [← hW6]; exact ((((((C5.set (j := 3) (.int .i64 pk)).set (j := 4) (.int .i64 pa)).set (j := 5) (.int .i64 pb)).set (j := 6) (.int .i64 ppx)).set (j := 7) (.int .i64 ppy)).set (j := 8) (.int .i64 pqx)).set (j := 9) (.int .i64 pqy)
  have M6 : Hid (Mk q w W6) := by rw [← hW6]; exact ((((((((M4.out.trans H5.out.2).set (p := ⟨w1.heap.size, 3, none⟩) (by show w.heap.size ≤ w1.heap.size; omega) (.int .i64 pk)).set (p := ⟨w1.heap.size, 4, none⟩) (by show w.heap.size ≤ w1.heap.size; omega) (.int .i64 pa)).set (p := ⟨w1.heap.size, 5, none⟩) (by show w.heap.size ≤ w1.heap.size; omega) (.int .i64 pb)).set (p := ⟨w1.heap.size, 6, none⟩) (by show w.heap.size ≤ w1.heap.size; omega) (.int .i64 ppx)).set (p := ⟨w1.heap.size, 7, none⟩) (by show w.heap.size ≤ w1.heap.size; omega) (.int .i64 ppy)).set (p := ⟨w1.heap.size, 8, none⟩) (by show w.heap.size ≤ w1.heap.size; omega) (.int .i64 pqx)).set (p := ⟨w1.heap.size, 9, none⟩) (by show w.heap.size ≤ w1.heap.size; omega) (.int .i64 pqy))
  have lt6 : w1.heap.size < W6.heap.size := C6.lt
  rw [hW6]
  clear hW6 B5 C5 H5 B4 C4 S4 M4 cc3 ff3 cc4 ff4 cc5 ff5 cc6 ff6 cc7 ff7 cc8 ff8 cc9 ff9
  have ck0 := C6.cell 0
  simp at ck0
  obtain ⟨f7, b7, c7⟩ := S6.out.clCell
  have hq6 := S6.out.lt
  go_upto_region 7 with fail
  obtain ⟨W7, hW7⟩ : ∃ W7, W6.setCell ⟨q, 7, none⟩ (.bool true) = W7 := ⟨_, rfl⟩
  have S7 : Hid (Rs x q W7 R4) := by rw [← hW7, ← HR4.out]; exact S6.out.setCl true
  have B7 : Blk W7 w.heap.size 62 #[.int .i64 0, .int .i64 0, .int .i64 0, .int .i64 0, .int .i64 0, .int .i64 0, .int .i64 0, .int .i64 0, .int .i64 0, .int .i64 0, .slice none 0 0] := by rw [← hW7]; exact B6.far (p := ⟨q, 7, none⟩) (by show w.heap.size ≠ q; omega) _
  have C7 : Blk W7 w1.heap.size 62 #[.int .i64 2, .int .i64 r, .int .i64 wd, .int .i64 pk, .int .i64 pa, .int .i64 pb, .int .i64 ppx, .int .i64 ppy, .int .i64 pqx, .int .i64 pqy, .slice none 0 0] := by rw [← hW7]; exact C6.far (p := ⟨q, 7, none⟩) (by show w1.heap.size ≠ q; omega) _
  have M7 : Hid (Mk q w W7) := by rw [← hW7]; exact M6.out.trans (Mk.self 7 _)
  have lt7 : w1.heap.size < W7.heap.size := C7.lt
  rw [hW7]
  clear hW7 B6 C6 S6 M6 ck0 f7 c7
  go_upto_region 8 with (first
    | (go_at_call 88; refine (k6.out _ H8.out.1).mono ?_; rintro e w9 ⟨g, adp, capp, rfl, hgm, hown, hoks, hv9, hr9, hm9, hkp9⟩
       obtain ⟨np, hnp⟩ : ∃ n, g.length = n := ⟨_, rfl⟩
       have HNP := hid'' hnp
       have HOW := hid'' hown
       have HOK := hid'' hoks
       have HV9 := hid'' hv9
       have H9 := hid'' (And.intro hr9 hm9)
       have HKP := hid'' hkp9
       have lt9 : w1.heap.size < w9.heap.size := by have := hm9.size; omega
       rw [hnp]
       clear hgm hown hoks hv9 hr9 hm9 hkp9 hnp
       have B9 := B8.mk H9.out.2 (by omega)
       have C9 := C8.mk H9.out.2 (by omega)
       have cc10 := C9.cell 10
       have ff10 := C9.frozen 10
       simp at cc10)
    | (go_at_call 56; refine (k5.out _ S7.out).mono ?_; rintro e w8 ⟨rfl, h8⟩
       have H8 := hid'' h8
       clear h8
       have lt8 : w1.heap.size < w8.heap.size := by have := H8.out.2.size; omega
       have B8 := B7.mk H8.out.2 (by omega)
       have C8 := C7.mk H8.out.2 (by omega)))
  obtain ⟨WA, hWA⟩ : ∃ WA, w9.setCell ⟨w1.heap.size, 10, none⟩ (.slice adp np capp) = WA := ⟨_, rfl⟩
  have SA : Rs x q WA R6 := by rw [← hWA]; exact H9.out.1.far (p := ⟨w1.heap.size, 10, none⟩) (by show q < w1.heap.size; omega) C9 (by decide) (by decide) _
  have BA : Blk WA w.heap.size 62 #[.int .i64 0, .int .i64 0, .int .i64 0, .int .i64 0, .int .i64 0, .int .i64 0, .int .i64 0, .int .i64 0, .int .i64 0, .int .i64 0, .slice none 0 0] := by rw [← hWA]; exact B9.far (p := ⟨w1.heap.size, 10, none⟩) (by show w.heap.size ≠ w1.heap.size; omega) _
  have CA : Blk WA w1.heap.size 62 #[.int .i64 2, .int .i64 r, .int .i64 wd, .int .i64 pk, .int .i64 pa, .int .i64 pb, .int .i64 ppx, .int .i64 ppy, .int .i64 pqx, .int .i64 pqy, .slice adp np capp] := by rw [← hWA]; exact C9.set (j := 10) _
  have MA : Mk q w WA := by rw [← hWA]; exact ((M7.out.trans H8.out.2).trans H9.out.2).set (p := ⟨w1.heap.size, 10, none⟩) (by show w.heap.size ≤ w1.heap.size; omega) _
  have GA : Many WA 72 4 IC.Path.cells (.slice adp np capp) g ∧ ∀ p ∈ g, PathOk WA p := by
    rw [← hWA]
    refine ⟨?_, fun p hp => (HOK.out p hp).far (a := ⟨w1.heap.size, 10, none⟩) C9 _⟩
    have := Own.many HOW.out
    rw [HNP.out] at this
    exact Row.farT (p := ⟨w1.heap.size, 10, none⟩) (t' := 62) this C9 (by decide) _
  have ltA : w1.heap.size < WA.heap.size := CA.lt
  rw [hWA]
  have SA' := hid'' SA
  have MA' := hid'' MA
  have GA' := hid'' GA
  clear hWA SA MA GA B8 C8 H8 B9 C9 H9 B7 C7 S7 M7 cc10 ff10 HOW HOK
  have x0 := BA.cell 0
  have y0 := CA.cell 0
  have fx0 := BA.frozen 0
  have x1 := BA.cell 1
  have y1 := CA.cell 1
  have fx1 := BA.frozen 1
  have x2 := BA.cell 2
  have y2 := CA.cell 2
  have fx2 := BA.frozen 2
  have x3 := BA.cell 3
  have y3 := CA.cell 3
  have fx3 := BA.frozen 3
  have x4 := BA.cell 4
  have y4 := CA.cell 4
  have fx4 := BA.frozen 4
  have x5 := BA.cell 5
  have y5 := CA.cell 5
  have fx5 := BA.frozen 5
  have x6 := BA.cell 6
  have y6 := CA.cell 6
  have fx6 := BA.frozen 6
  have x7 := BA.cell 7
  have y7 := CA.cell 7
  have fx7 := BA.frozen 7
  have x8 := BA.cell 8
  have y8 := CA.cell 8
  have fx8 := BA.frozen 8
  have x9 := BA.cell 9
  have y9 := CA.cell 9
  have fx9 := BA.frozen 9
  have x10 := BA.cell 10
  have y10 := CA.cell 10
  have fx10 := BA.frozen 10
  simp at x0 y0 x1 y1 x2 y2 x3 y3 x4 y4 x5 y5 x6 y6 x7 y7 x8 y8 x9 y9 x10 y10
  go_wp2
  have hE := HEQ.out ⟨pk, pa, pb, ⟨ppx, ppy⟩, ⟨pqx, pqy⟩⟩ g HV5.out HV9.out
  refine bodyPost_ret (v := .agg #[.int .i64 2, .int .i64 r, .int .i64 wd, .int .i64 pk, .int .i64 pa, .int .i64 pb, .int .i64 ppx, .int .i64 ppy, .int .i64 pqx, .int .i64 pqy, .slice adp np capp]) (by simp [results, Tryz.results61, go_sem, BA.got 0 (by simp) (.int .i64 2), (BA.set (j := 0) (.int .i64 2)).got 1 (by simp) (.int .i64 r), ((BA.set (j := 0) (.int .i64 2)).set (j := 1) (.int .i64 r)).got 2 (by simp) (.int .i64 wd), (((BA.set (j := 0) (.int .i64 2)).set (j := 1) (.int .i64 r)).set (j := 2) (.int .i64 wd)).got 3 (by simp) (.int .i64 pk), ((((BA.set (j := 0) (.int .i64 2)).set (j := 1) (.int .i64 r)).set (j := 2) (.int .i64 wd)).set (j := 3) (.int .i64 pk)).got 4 (by simp) (.int .i64 pa), (((((BA.set (j := 0) (.int .i64 2)).set (j := 1) (.int .i64 r)).set (j := 2) (.int .i64 wd)).set (j := 3) (.int .i64 pk)).set (j := 4) (.int .i64 pa)).got 5 (by simp) (.int .i64 pb), ((((((BA.set (j := 0) (.int .i64 2)).set (j := 1) (.int .i64 r)).set (j := 2) (.int .i64 wd)).set (j := 3) (.int .i64 pk)).set (j := 4) (.int .i64 pa)).set (j := 5) (.int .i64 pb)).got 6 (by simp) (.int .i64 ppx), (((((((BA.set (j := 0) (.int .i64 2)).set (j := 1) (.int .i64 r)).set (j := 2) (.int .i64 wd)).set (j := 3) (.int .i64 pk)).set (j := 4) (.int .i64 pa)).set (j := 5) (.int .i64 pb)).set (j := 6) (.int .i64 ppx)).got 7 (by simp) (.int .i64 ppy), ((((((((BA.set (j := 0) (.int .i64 2)).set (j := 1) (.int .i64 r)).set (j := 2) (.int .i64 wd)).set (j := 3) (.int .i64 pk)).set (j := 4) (.int .i64 pa)).set (j := 5) (.int .i64 pb)).set (j := 6) (.int .i64 ppx)).set (j := 7) (.int .i64 ppy)).got 8 (by simp) (.int .i64 pqx), (((((((((BA.set (j := 0) (.int .i64 2)).set (j := 1) (.int .i64 r)).set (j := 2) (.int .i64 wd)).set (j := 3) (.int .i64 pk)).set (j := 4) (.int .i64 pa)).set (j := 5) (.int .i64 pb)).set (j := 6) (.int .i64 ppx)).set (j := 7) (.int .i64 ppy)).set (j := 8) (.int .i64 pqx)).got 9 (by simp) (.int .i64 pqy), ((((((((((BA.set (j := 0) (.int .i64 2)).set (j := 1) (.int .i64 r)).set (j := 2) (.int .i64 wd)).set (j := 3) (.int .i64 pk)).set (j := 4) (.int .i64 pa)).set (j := 5) (.int .i64 pb)).set (j := 6) (.int .i64 ppx)).set (j := 7) (.int .i64 ppy)).set (j := 8) (.int .i64 pqx)).set (j := 9) (.int .i64 pqy)).got 10 (by simp) (.slice adp np capp)]) rfl ⟨⟨2, r, wd, ⟨pk, pa, pb, ⟨ppx, ppy⟩, ⟨pqx, pqy⟩⟩, .slice adp np capp, g⟩, rfl, ?_, ?_, ?_, ?_, ?_⟩
  · exact ⟨Row.farT (p := ⟨w.heap.size, 10, none⟩) (t' := 62) (Row.farT (p := ⟨w.heap.size, 9, none⟩) (t' := 62) (Row.farT (p := ⟨w.heap.size, 8, none⟩) (t' := 62) (Row.farT (p := ⟨w.heap.size, 7, none⟩) (t' := 62) (Row.farT (p := ⟨w.heap.size, 6, none⟩) (t' := 62) (Row.farT (p := ⟨w.heap.size, 5, none⟩) (t' := 62) (Row.farT (p := ⟨w.heap.size, 4, none⟩) (t' := 62) (Row.farT (p := ⟨w.heap.size, 3, none⟩) (t' := 62) (Row.farT (p := ⟨w.heap.size, 2, none⟩) (t' := 62) (Row.farT (p := ⟨w.heap.size, 1, none⟩) (t' := 62) (Row.farT (p := ⟨w.heap.size, 0, none⟩) (t' := 62) (GA'.out.1) BA (by decide) (.int .i64 2)) (BA.set (j := 0) (.int .i64 2)) (by decide) (.int .i64 r)) ((BA.set (j := 0) (.int .i64 2)).set (j := 1) (.int .i64 r)) (by decide) (.int .i64 wd)) (((BA.set (j := 0) (.int .i64 2)).set (j := 1) (.int .i64 r)).set (j := 2) (.int .i64 wd)) (by decide) (.int .i64 pk)) ((((BA.set (j := 0) (.int .i64 2)).set (j := 1) (.int .i64 r)).set (j := 2) (.int .i64 wd)).set (j := 3) (.int .i64 pk)) (by decide) (.int .i64 pa)) (((((BA.set (j := 0) (.int .i64 2)).set (j := 1) (.int .i64 r)).set (j := 2) (.int .i64 wd)).set (j := 3) (.int .i64 pk)).set (j := 4) (.int .i64 pa)) (by decide) (.int .i64 pb)) ((((((BA.set (j := 0) (.int .i64 2)).set (j := 1) (.int .i64 r)).set (j := 2) (.int .i64 wd)).set (j := 3) (.int .i64 pk)).set (j := 4) (.int .i64 pa)).set (j := 5) (.int .i64 pb)) (by decide) (.int .i64 ppx)) (((((((BA.set (j := 0) (.int .i64 2)).set (j := 1) (.int .i64 r)).set (j := 2) (.int .i64 wd)).set (j := 3) (.int .i64 pk)).set (j := 4) (.int .i64 pa)).set (j := 5) (.int .i64 pb)).set (j := 6) (.int .i64 ppx)) (by decide) (.int .i64 ppy)) ((((((((BA.set (j := 0) (.int .i64 2)).set (j := 1) (.int .i64 r)).set (j := 2) (.int .i64 wd)).set (j := 3) (.int .i64 pk)).set (j := 4) (.int .i64 pa)).set (j := 5) (.int .i64 pb)).set (j := 6) (.int .i64 ppx)).set (j := 7) (.int .i64 ppy)) (by decide) (.int .i64 pqx)) (((((((((BA.set (j := 0) (.int .i64 2)).set (j := 1) (.int .i64 r)).set (j := 2) (.int .i64 wd)).set (j := 3) (.int .i64 pk)).set (j := 4) (.int .i64 pa)).set (j := 5) (.int .i64 pb)).set (j := 6) (.int .i64 ppx)).set (j := 7) (.int .i64 ppy)).set (j := 8) (.int .i64 pqx)) (by decide) (.int .i64 pqy)) ((((((((((BA.set (j := 0) (.int .i64 2)).set (j := 1) (.int .i64 r)).set (j := 2) (.int .i64 wd)).set (j := 3) (.int .i64 pk)).set (j := 4) (.int .i64 pa)).set (j := 5) (.int .i64 pb)).set (j := 6) (.int .i64 ppx)).set (j := 7) (.int .i64 ppy)).set (j := 8) (.int .i64 pqx)).set (j := 9) (.int .i64 pqy)) (by decide) (.slice adp np capp), fun p hp => PathOk.far (a := ⟨w.heap.size, 10, none⟩) (PathOk.far (a := ⟨w.heap.size, 9, none⟩) (PathOk.far (a := ⟨w.heap.size, 8, none⟩) (PathOk.far (a := ⟨w.heap.size, 7, none⟩) (PathOk.far (a := ⟨w.heap.size, 6, none⟩) (PathOk.far (a := ⟨w.heap.size, 5, none⟩) (PathOk.far (a := ⟨w.heap.size, 4, none⟩) (PathOk.far (a := ⟨w.heap.size, 3, none⟩) (PathOk.far (a := ⟨w.heap.size, 2, none⟩) (PathOk.far (a := ⟨w.heap.size, 1, none⟩) (PathOk.far (a := ⟨w.heap.size, 0, none⟩) ((GA'.out.2 p hp)) BA (.int .i64 2)) (BA.set (j := 0) (.int .i64 2)) (.int .i64 r)) ((BA.set (j := 0) (.int .i64 2)).set (j := 1) (.int .i64 r)) (.int .i64 wd)) (((BA.set (j := 0) (.int .i64 2)).set (j := 1) (.int .i64 r)).set (j := 2) (.int .i64 wd)) (.int .i64 pk)) ((((BA.set (j := 0) (.int .i64 2)).set (j := 1) (.int .i64 r)).set (j := 2) (.int .i64 wd)).set (j := 3) (.int .i64 pk)) (.int .i64 pa)) (((((BA.set (j := 0) (.int .i64 2)).set (j := 1) (.int .i64 r)).set (j := 2) (.int .i64 wd)).set (j := 3) (.int .i64 pk)).set (j := 4) (.int .i64 pa)) (.int .i64 pb)) ((((((BA.set (j := 0) (.int .i64 2)).set (j := 1) (.int .i64 r)).set (j := 2) (.int .i64 wd)).set (j := 3) (.int .i64 pk)).set (j := 4) (.int .i64 pa)).set (j := 5) (.int .i64 pb)) (.int .i64 ppx)) (((((((BA.set (j := 0) (.int .i64 2)).set (j := 1) (.int .i64 r)).set (j := 2) (.int .i64 wd)).set (j := 3) (.int .i64 pk)).set (j := 4) (.int .i64 pa)).set (j := 5) (.int .i64 pb)).set (j := 6) (.int .i64 ppx)) (.int .i64 ppy)) ((((((((BA.set (j := 0) (.int .i64 2)).set (j := 1) (.int .i64 r)).set (j := 2) (.int .i64 wd)).set (j := 3) (.int .i64 pk)).set (j := 4) (.int .i64 pa)).set (j := 5) (.int .i64 pb)).set (j := 6) (.int .i64 ppx)).set (j := 7) (.int .i64 ppy)) (.int .i64 pqx)) (((((((((BA.set (j := 0) (.int .i64 2)).set (j := 1) (.int .i64 r)).set (j := 2) (.int .i64 wd)).set (j := 3) (.int .i64 pk)).set (j := 4) (.int .i64 pa)).set (j := 5) (.int .i64 pb)).set (j := 6) (.int .i64 ppx)).set (j := 7) (.int .i64 ppy)).set (j := 8) (.int .i64 pqx)) (.int .i64 pqy)) ((((((((((BA.set (j := 0) (.int .i64 2)).set (j := 1) (.int .i64 r)).set (j := 2) (.int .i64 wd)).set (j := 3) (.int .i64 pk)).set (j := 4) (.int .i64 pa)).set (j := 5) (.int .i64 pb)).set (j := 6) (.int .i64 ppx)).set (j := 7) (.int .i64 ppy)).set (j := 8) (.int .i64 pqx)).set (j := 9) (.int .i64 pqy)) (.slice adp np capp)⟩
  · intro v hv
    rw [hE] at hv
    exact (run_ret _ _).2 v hv
  · rw [hE, (run_ret _ R6).1]
    have r0 := SA'.out.far (p := ⟨w.heap.size, 0, none⟩) (by show q < w.heap.size; omega) BA (by decide) (by decide) (.int .i64 2)
    have r1 := r0.far (p := ⟨w.heap.size, 1, none⟩) (by show q < w.heap.size; omega) (BA.set (j := 0) (.int .i64 2)) (by decide) (by decide) (.int .i64 r)
    have r2 := r1.far (p := ⟨w.heap.size, 2, none⟩) (by show q < w.heap.size; omega) ((BA.set (j := 0) (.int .i64 2)).set (j := 1) (.int .i64 r)) (by decide) (by decide) (.int .i64 wd)
    have r3 := r2.far (p := ⟨w.heap.size, 3, none⟩) (by show q < w.heap.size; omega) (((BA.set (j := 0) (.int .i64 2)).set (j := 1) (.int .i64 r)).set (j := 2) (.int .i64 wd)) (by decide) (by decide) (.int .i64 pk)
    have r4 := r3.far (p := ⟨w.heap.size, 4, none⟩) (by show q < w.heap.size; omega) ((((BA.set (j := 0) (.int .i64 2)).set (j := 1) (.int .i64 r)).set (j := 2) (.int .i64 wd)).set (j := 3) (.int .i64 pk)) (by decide) (by decide) (.int .i64 pa)
    have r5 := r4.far (p := ⟨w.heap.size, 5, none⟩) (by show q < w.heap.size; omega) (((((BA.set (j := 0) (.int .i64 2)).set (j := 1) (.int .i64 r)).set (j := 2) (.int .i64 wd)).set (j := 3) (.int .i64 pk)).set (j := 4) (.int .i64 pa)) (by decide) (by decide) (.int .i64 pb)
    have r6 := r5.far (p := ⟨w.heap.size, 6, none⟩) (by show q < w.heap.size; omega) ((((((BA.set (j := 0) (.int .i64 2)).set (j := 1) (.int .i64 r)).set (j := 2) (.int .i64 wd)).set (j := 3) (.int .i64 pk)).set (j := 4) (.int .i64 pa)).set (j := 5) (.int .i64 pb)) (by decide) (by decide) (.int .i64 ppx)
    have r7 := r6.far (p := ⟨w.heap.size, 7, none⟩) (by show q < w.heap.size; omega) (((((((BA.set (j := 0) (.int .i64 2)).set (j := 1) (.int .i64 r)).set (j := 2) (.int .i64 wd)).set (j := 3) (.int .i64 pk)).set (j := 4) (.int .i64 pa)).set (j := 5) (.int .i64 pb)).set (j := 6) (.int .i64 ppx)) (by decide) (by decide) (.int .i64 ppy)
    have r8 := r7.far (p := ⟨w.heap.size, 8, none⟩) (by show q < w.heap.size; omega) ((((((((BA.set (j := 0) (.int .i64 2)).set (j := 1) (.int .i64 r)).set (j := 2) (.int .i64 wd)).set (j := 3) (.int .i64 pk)).set (j := 4) (.int .i64 pa)).set (j := 5) (.int .i64 pb)).set (j := 6) (.int .i64 ppx)).set (j := 7) (.int .i64 ppy)) (by decide) (by decide) (.int .i64 pqx)
    have r9 := r8.far (p := ⟨w.heap.size, 9, none⟩) (by show q < w.heap.size; omega) (((((((((BA.set (j := 0) (.int .i64 2)).set (j := 1) (.int .i64 r)).set (j := 2) (.int .i64 wd)).set (j := 3) (.int .i64 pk)).set (j := 4) (.int .i64 pa)).set (j := 5) (.int .i64 pb)).set (j := 6) (.int .i64 ppx)).set (j := 7) (.int .i64 ppy)).set (j := 8) (.int .i64 pqx)) (by decide) (by decide) (.int .i64 pqy)
    have r10 := r9.far (p := ⟨w.heap.size, 10, none⟩) (by show q < w.heap.size; omega) ((((((((((BA.set (j := 0) (.int .i64 2)).set (j := 1) (.int .i64 r)).set (j := 2) (.int .i64 wd)).set (j := 3) (.int .i64 pk)).set (j := 4) (.int .i64 pa)).set (j := 5) (.int .i64 pb)).set (j := 6) (.int .i64 ppx)).set (j := 7) (.int .i64 ppy)).set (j := 8) (.int .i64 pqx)).set (j := 9) (.int .i64 pqy)) (by decide) (by decide) (.slice adp np capp)
    exact r10
  · exact (((((((((((MA'.out).set (p := ⟨w.heap.size, 0, none⟩) (Nat.le_refl _) _).set (p := ⟨w.heap.size, 1, none⟩) (Nat.le_refl _) _).set (p := ⟨w.heap.size, 2, none⟩) (Nat.le_refl _) _).set (p := ⟨w.heap.size, 3, none⟩) (Nat.le_refl _) _).set (p := ⟨w.heap.size, 4, none⟩) (Nat.le_refl _) _).set (p := ⟨w.heap.size, 5, none⟩) (Nat.le_refl _) _).set (p := ⟨w.heap.size, 6, none⟩) (Nat.le_refl _) _).set (p := ⟨w.heap.size, 7, none⟩) (Nat.le_refl _) _).set (p := ⟨w.heap.size, 8, none⟩) (Nat.le_refl _) _).set (p := ⟨w.heap.size, 9, none⟩) (Nat.le_refl _) _).set (p := ⟨w.heap.size, 10, none⟩) (Nat.le_refl _) _
  · rw [hE, (run_ret _ R6).1]
    exact HK6.out HKP.out

end Go.Proofs.YtcnlkdoifogkbaaGreatDoor

/-
  A reader reads a command: walked over the program.
-/
namespace Go.Proofs.YtcnlkdoifogkbaaGreatDoor
open Go.RowKit

theorem dcmd_any (x : Src) (q : Nat) (R : Except DP.Bad DP.St) (w : World) (h : Rs x q w R) (h4 : ∀ s, R = .ok s → s.pts ≤ 4000) :
    Calls Tryz.prog 61 #[.pointer (some ⟨q, 0, none⟩)] w fun e w' => ∃ P : IC.Cmd, e = .returned (.agg P.cells.toArray) ∧ CmdOk w' P ∧ (∀ v, run (DP.cmd x.bs) R = .ok v → v.1 = DP.bareCmd P) ∧ Rs x q w' (rest (run (DP.cmd x.bs) R)) ∧ Mk q w w' ∧ (∀ s', rest (run (DP.cmd x.bs) R) = .ok s' → ∃ s, R = .ok s ∧ s'.far = s.far ∧ s'.cols = s.cols ∧ s'.pts ≤ 4000) := by
  have h2 : valOf (run (DP.num x.bs DP.cmdRule) R) % 2 = 0 ∨ valOf (run (DP.num x.bs DP.cmdRule) R) % 2 = 1 := by omega
  rcases h2 with h2 | h2
  · exact dcmd0 x q _ R w h h4 rfl h2
  · exact dcmd1 x q _ R w h h4 rfl h2

end Go.Proofs.YtcnlkdoifogkbaaGreatDoor

/-
  A reader reads a list of cmds: walked over the program.
-/
namespace Go.Proofs.YtcnlkdoifogkbaaGreatDoor
open Go.RowKit


/-- What stands while a list of cmds is read. -/
structure CmdsSt (x : Src) (q n : Nat) (w : World) (R : Except DP.Bad DP.St) (j : Nat) (acc : List IC.Cmd) (R' : Except DP.Bad DP.St) (ad : Option Addr) (cap : Nat) (wr : World) : Prop where
  len : acc.length = j
  eq : run (DP.list (DP.cmd x.bs) n []) R = run (DP.list (DP.cmd x.bs) (n - j) (acc.map DP.bareCmd)) R'
  rs : Rs x q wr R'
  keep : ∀ s', R' = .ok s' → ∃ s, R = .ok s ∧ s'.far = s.far ∧ s'.cols = s.cols ∧ s'.pts ≤ 4000
  own : Own wr w.heap.size 62 11 IC.Cmd.cells ad cap acc
  oks : ∀ p ∈ acc, CmdOk wr p
  kept : Mk q w wr

theorem CmdsSt.next {x : Src} {q n : Nat} {w : World} {R : Except DP.Bad DP.St} {j : Nat} {acc : List IC.Cmd} {R' : Except DP.Bad DP.St} {ad : Option Addr} {cap : Nat} {wr : World} (h : CmdsSt x q n w R j acc R' ad cap wr) (hj : j < n) {g : IC.Cmd} (hv : ∀ v, run (DP.cmd x.bs) R' = .ok v → v.1 = DP.bareCmd g) {w1 w3 : World} {o1 o2 : Obj} {ad' : Option Addr} {cap' : Nat}
    (hr : Rs x q w1 (rest (run (DP.cmd x.bs) R'))) (hok : CmdOk w1 g) (hm : Mk q wr w1) (hqw : q < w.heap.size) (hkp : ∀ s', rest (run (DP.cmd x.bs) R') = .ok s' → ∃ s, R' = .ok s ∧ s'.far = s.far ∧ s'.cols = s.cols ∧ s'.pts ≤ 4000) (hown : Own w3 w.heap.size 62 11 IC.Cmd.cells ad' cap' (acc ++ [g])) (hg : ((w1.alloc o1).alloc o2).grownBy w3 (ad.map (·.block))) :
    CmdsSt x q n w R (j + 1) (acc ++ [g]) (rest (run (DP.cmd x.bs) R')) ad' cap' w3 := by
  have b2 : Below w1.heap.size w1 ((w1.alloc o1).alloc o2) := ((Below.refl _ _).alloc (Nat.le_refl _) _).alloc (by simp) _
  have own1 : Own ((w1.alloc o1).alloc o2) w.heap.size 62 11 IC.Cmd.cells ad cap acc := ((h.own.mk hm hqw).alloc _).alloc _
  have hoks := h.oks
  have grow : ∀ p, CmdOk ((w1.alloc o1).alloc o2) p → CmdOk w3 p := fun p h => ⟨Row.grownOwn h.1 own1 hg (by decide), fun p hp => Row.grownOwn (h.2 p hp) own1 hg (by decide)⟩
  refine ⟨by simp [h.len], ?_, (hr.below b2).grown own1 hg hqw (by decide) (by decide), ?_, hown, ?_, ?_⟩
  · rw [h.eq, show n - j = (n - (j + 1)) + 1 by omega, List.map_append]
    exact run_then _ _ _ _ hv
  · intro s' e
    obtain ⟨s1, e1, k1⟩ := hkp s' e
    obtain ⟨s0, e0, k0⟩ := h.keep s1 e1
    exact ⟨s0, e0, k1.1.trans k0.1, k1.2.1.trans k0.2.1, k1.2.2⟩
  · intro p hp
    rcases List.mem_append.1 hp with hp | hp
    · exact grow p (((hoks p hp).mkq h.rs hm).below b2)
    · rw [List.mem_singleton.1 hp]
      exact grow g (hok.below b2)
  · have m := ((h.kept.trans hm).alloc o1).alloc o2
    exact ⟨hg.os.trans m.os, hg.tape.trans m.tape, hg.output.trans m.output, Nat.le_trans m.size hg.size, fun k hk hn => (hg.block k (Nat.lt_of_lt_of_le hk m.size) (fun e => by
      cases ad with
      | none => simp at e
      | some a => have := (own1.lt a rfl).1; simp at e; omega)).trans (m.block k hk hn)⟩

theorem cmds_err {bs : List Nat} {m : Nat} {acc : List IC.Cmd} {R : Except DP.Bad DP.St} {e : DP.Bad} (h : rest (run (DP.cmd bs) R) = .error e) : run (DP.list (DP.cmd bs) (m + 1) acc) R = .error e := by
  cases R with
  | error e' => cases h; rfl
  | ok s =>
    change rest (DP.cmd bs s) = _ at h
    cases hr : DP.cmd bs s with
    | error e' => rw [hr] at h; cases h; exact DP.andThen_err hr
    | ok v => rw [hr] at h; cases h

set_option maxRecDepth 20000 in
set_option maxHeartbeats 2000000 in
theorem dcmds_any (x : Src) (q n : Nat) (R : Except DP.Bad DP.St) (w : World) (h : Rs x q w R) (hn : n ≤ 200) (h4 : ∀ s, R = .ok s → s.pts ≤ 4000) :
    Calls Tryz.prog 60 #[.pointer (some ⟨q, 0, none⟩), .int .u64 n, .func (.func 61) #[.pointer (some ⟨q, 0, none⟩)] #[]] w fun e w' => ∃ (g : List IC.Cmd) (ad : Option Addr) (cap : Nat), e = .returned (.slice ad g.length cap) ∧ g.length ≤ n ∧ Own w' w.heap.size 62 11 IC.Cmd.cells ad cap g ∧ (∀ p ∈ g, CmdOk w' p) ∧ (∀ v, run (DP.list (DP.cmd x.bs) n []) R = .ok v → v.1 = g.map DP.bareCmd) ∧ Rs x q w' (rest (run (DP.list (DP.cmd x.bs) n []) R)) ∧ Mk q w w' ∧ (∀ s', rest (run (DP.list (DP.cmd x.bs) n []) R) = .ok s' → ∃ s, R = .ok s ∧ s'.far = s.far ∧ s'.cols = s.cols ∧ s'.pts ≤ 4000) := by
  have hqw := h.lt
  have S0 : Hid (CmdsSt x q n w R 0 [] R none 0 w) := ⟨rfl, rfl, h, fun s' e => ⟨s', e, rfl, rfl, h4 s' e⟩, own_nil _ _ _ _ _, fun _ h => absurd h (by simp), Mk.refl _ _⟩
  have ks : Hid (∀ (R' : Except DP.Bad DP.St) (W : World), Rs x q W R' → (∀ s, R' = .ok s → s.pts ≤ 4000) → Calls Tryz.prog 61 #[.pointer (some ⟨q, 0, none⟩)] W fun e w' => ∃ P : IC.Cmd, e = .returned (.agg P.cells.toArray) ∧ CmdOk w' P ∧ (∀ v, run (DP.cmd x.bs) R' = .ok v → v.1 = DP.bareCmd P) ∧ Rs x q w' (rest (run (DP.cmd x.bs) R')) ∧ Mk q W w' ∧ (∀ s', rest (run (DP.cmd x.bs) R') = .ok s' → ∃ s, R' = .ok s ∧ s'.far = s.far ∧ s'.cols = s.cols ∧ s'.pts ≤ 4000)) := fun R' W a1 a2 => dcmd_any x q R' W a1 a2
  clear h h4
  obtain ⟨RP, hRP⟩ : ∃ RP, run (DP.list (DP.cmd x.bs) n []) R = RP := ⟨_, rfl⟩
  have HRP := hid'' hRP
  rw [hRP]
  clear hRP
  go_enter Tryz.func60, Tryz.ntmps60
  go_wp2
  go_loopw [7, 10] (fun o i wr => ∃ (j : Nat) (acc : List IC.Cmd) (R' : Except DP.Bad DP.St) (ad : Option Addr) (cap : Nat), j ≤ n ∧ i = .int .u64 j ∧ o = .slice ad j cap ∧ Hid (CmdsSt x q n w R j acc R' ad cap wr)) (fun _ i _ => n - (intOf i).toNat)
  case atStart => exact ⟨0, [], R, none, 0, by omega, rfl, rfl, S0⟩
  case round =>
    obtain ⟨j, acc, R', ad, cap, hj, rfl, rfl, HS⟩ := hrel
    by_cases hjn : j < n
    · go_upto_region 5 with (first
        | (go_at_call 61; refine (ks.out R' _ HS.out.rs (fun s e => by
             obtain ⟨s0, e1, k0⟩ := HS.out.keep s e
             exact k0.2.2)).mono ?_; rintro e w1 ⟨P1, rfl, hok1, hv1, hr1, hm1, hkp1⟩
           have HO1 : Hid (∀ u ∈ P1.cells, u.oneCell' = true) := cmd_one P1 (by obtain ⟨_, _, e, _⟩ := Many.len hok1.1; rw [e]; rfl)
           have HOK1 := hid'' hok1
           have HV1 := hid'' hv1
           have HR1 := hid'' hr1
           have HM1 := hid'' hm1
           have HKP1 := hid'' hkp1
           have hq1 := hr1.lt
           have hw1 := hm1.size
           obtain ⟨ads, caps, hvs, -, -⟩ := Many.len hok1.1
           obtain ⟨ck, cr, cw, ⟨pk, pa, pb, ⟨ppx, ppy⟩, ⟨pqx, pqy⟩⟩, vs, sg⟩ := P1
           obtain ⟨ls, hls⟩ : ∃ n, sg.length = n := ⟨_, rfl⟩
           replace hvs : vs = .slice ads sg.length caps := hvs
           rw [hls] at hvs
           subst hvs
           clear hls
           clear hok1 hv1 hr1 hm1 hkp1
           simp only [IC.Cmd.cells]))
      obtain ⟨R1, hR1⟩ : ∃ R1, rest (run (DP.cmd x.bs) R') = R1 := ⟨_, rfl⟩
      cases R1 with
      | error e =>
        obtain ⟨g, c2⟩ := Rs.errCell' (e := e) (by have := HR1.out; rw [hR1] at this; exact this)
        have HE : Hid (RP = .error e) := by
          rw [← HRP.out, HS.out.eq, show n - j = (n - j - 1) + 1 by omega]
          exact cmds_err hR1
        have HR2 : Hid (Rs x q w1 (.error e)) := by have := HR1.out; rw [hR1] at this; exact this
        clear hR1
        go_wp2
        go_ret
        refine ⟨[], none, 0, rfl, by simp, own_nil _ _ _ _ _, fun _ h => absurd h (by simp), fun v hv => ?_, ?_, ?_, fun s' e => ?_⟩
        · rw [HE.out] at hv; cases hv
        · rw [HE.out]
          exact HR2.out.below ((Below.refl _ _).alloc (Nat.le_refl _) _)
        · exact (HS.out.kept.trans HM1.out).alloc _
        · rw [HE.out] at e; cases e
      | ok s1 =>
        have c2 : w1.cell? ⟨q, 2, none⟩ = some .nilIface := Rs.errCell (s := s1) (by have := HR1.out; rw [hR1] at this; exact this)
        have hlen := HS.out.len
        have hws := HS.out.kept.size
        clear hR1
        go_wp2_with (first
          | (at_builtin; refine wpList_push _ rfl (.tmp 19) (.tmp 21) 25 rfl w.heap.size 62 _ 11 104 Tryz.underlying25 infoCmd rfl (by decide) IC.Cmd.cells dcmd_len acc ⟨ck, cr, cw, ⟨pk, pa, pb, ⟨ppx, ppy⟩, ⟨pqx, pqy⟩⟩, .slice ads ls caps, sg⟩ j hlen rfl (((HS.out.own.mk HM1.out hqw).alloc _).alloc _) (w1.heap.size + 1) rfl (new_cells2 _ _ _ _ (by simp)) HO1.out (by omega) (by omega) (by simp; omega) ?_
             intro ad' cap' w3 hown' hg'
             have HT := hid'' (HS.out.next hjn HV1.out HR1.out HOK1.out HM1.out hqw HKP1.out hown' hg')
             clear hown' hg'))
        go_roundw
        case rel => exact ⟨j + 1, _, _, _, _, by omega, by go_num, by go_num, HT⟩
        case measure => simp [intOf]; omega
    · obtain rfl : j = n := by omega
      have hlen := HS.out.len
      go_wp2
      go_ret
      have e := HS.out.eq
      rw [Nat.sub_self, HRP.out] at e
      have er : RP = run (DP.ret (acc.map DP.bareCmd)) R' := e
      rw [er, (run_ret (acc.map DP.bareCmd) R').1]
      exact ⟨acc, ad, cap, ret_w (by rw [hlen]; rfl), by omega, HS.out.own, HS.out.oks, (run_ret _ R').2, HS.out.rs, HS.out.kept, HS.out.keep⟩

end Go.Proofs.YtcnlkdoifogkbaaGreatDoor

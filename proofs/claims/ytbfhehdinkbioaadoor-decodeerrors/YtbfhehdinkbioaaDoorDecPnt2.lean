/-
  A reader reads a paint of another kind: walked over the program.
-/
import Derived.Test.YtbfhehdinkbioaaDoorDecPnt0
namespace Go.Proofs.YtbfhehdinkbioaaDoor
open Go.RowKit

set_option maxRecDepth 20000 in
set_option maxHeartbeats 1000000 in
theorem paint2 (x : Src) (q : Nat) (R : Except DP.Bad DP.St) (w : World) (h : Rs x q w R) :
    Calls Tryd.prog 80 #[.pointer (some ⟨q, 0, none⟩), .int .i64 2] w fun e w' => ∃ p : IC.Paint, e = .returned (.agg p.cells.toArray) ∧ (∀ v, run (DP.paint x.bs 2) R = .ok v → v.1 = p) ∧ Rs x q w' (rest (run (DP.paint x.bs 2) R)) ∧ Mk q w w' := by
  have hq := h.lt
  obtain ⟨a, hva⟩ : ∃ a, valOf (run (DP.place x.bs) R) = a := ⟨_, rfl⟩
  obtain ⟨R1, hR1⟩ : ∃ R1, rest (run (DP.place x.bs) R) = R1 := ⟨_, rfl⟩
  obtain ⟨c, hvc⟩ : ∃ c, valOf (run (DP.place x.bs) R1) = c := ⟨_, rfl⟩
  obtain ⟨R2, hR2⟩ : ∃ R2, rest (run (DP.place x.bs) R1) = R2 := ⟨_, rfl⟩
  obtain ⟨R3, hR3⟩ : ∃ R3, rest (run (DP.point x.bs ⟨0, 0⟩) R2) = R3 := ⟨_, rfl⟩
  have k1 : Hid (∀ W, Below w.heap.size w W → Calls Tryd.prog 99 #[.pointer (some ⟨q, 0, none⟩)] W fun e w' => e = .returned (.int .i64 a) ∧ Rs x q w' R1 ∧ Mk q W w') := fun W hW => by
    have := place_any x q R W (h.below hW)
    rw [hva, hR1] at this
    exact this
  have k2 : Hid (∀ W, Rs x q W R1 → Calls Tryd.prog 99 #[.pointer (some ⟨q, 0, none⟩)] W fun e w' => e = .returned (.int .i64 c) ∧ Rs x q w' R2 ∧ Mk q W w') := fun W hW => by
    have := place_any x q R1 W hW
    rw [hvc, hR2] at this
    exact this
  have k3 : Hid (∀ W, Rs x q W R2 → Calls Tryd.prog 100 #[.pointer (some ⟨q, 0, none⟩), .agg #[.int .i64 0, .int .i64 0]] W fun e w' => ∃ p : IC.Pt, e = .returned (.agg #[.int .i64 p.x, .int .i64 p.y]) ∧ PtIn64 p ∧ (∀ v, run (DP.point x.bs ⟨0, 0⟩) R2 = .ok v → v.1 = p) ∧ Rs x q w' R3 ∧ Mk q W w') := fun W hW => by
    have := dpoint_any x q R2 ⟨0, 0⟩ W hW zero_in (fun s e => zero_reach s.far (hW.farIn s e).1)
    rw [hR3] at this
    exact this
  obtain ⟨r, hvr⟩ : ∃ r, valOf (run (DP.length x.bs) R3) = r := ⟨_, rfl⟩
  obtain ⟨R4, hR4⟩ : ∃ R4, rest (run (DP.length x.bs) R3) = R4 := ⟨_, rfl⟩
  have HP : Hid (∀ (p : IC.Pt), (∀ v, run (DP.point x.bs ⟨0, 0⟩) R2 = .ok v → v.1 = p) → run (DP.paint x.bs 2) R = run (DP.ret (⟨2, a, c, p, ⟨r, 0⟩⟩ : IC.Paint)) R4) := fun p hp => by
    unfold DP.paint
    rw [run_then _ _ _ a (fun v hv => by rw [← hva]; exact valOf_ok v hv), hR1]
    show run (DP.andThen (DP.place x.bs) fun c => DP.andThen (DP.point x.bs ⟨0, 0⟩) fun p => DP.andThen (DP.length x.bs) fun r => DP.ret (⟨2, a, c, p, ⟨(r : Nat), 0⟩⟩ : IC.Paint)) R1 = _
    rw [run_then _ _ _ c (fun v hv => by rw [← hvc]; exact valOf_ok v hv), hR2, run_then _ _ _ p hp, hR3, run_then _ _ _ r (fun v hv => by rw [← hvr]; exact valOf_ok v hv), hR4]
  have k4 : Hid (∀ W, Rs x q W R3 → Calls Tryd.prog 46 #[.pointer (some ⟨q, 0, none⟩), .func (.func 79) #[.pointer (some ⟨q, 0, none⟩)] #[]] W fun e w' => e = .returned (.int .u64 r) ∧ Rs x q w' R4 ∧ Mk q W w') := fun W hW => by
    have := length_any x q R3 W hW
    rw [hvr, hR4] at this
    exact this
  have kl : Hid (∀ W, Rs x q W R3 → r ≤ 1048576) := fun W hW => by
    have := length_le x q R3 W hW
    rw [hvr] at this
    exact this
  generalize run (DP.paint x.bs 2) R = RP at HP ⊢
  clear hva hR1 hvc hR2 h hvr hR4
  go_enter Tryd.func80, Tryd.ntmps80
  go_upto_if 11 with (first
    | (go_at_call 99; refine (k1.out _ ((Below.refl _ _).alloc (Nat.le_refl _) _)).mono ?_; rintro e w1 ⟨rfl, h1⟩
       have H1 := hid'' h1
       clear h1
       have hlt1 : w.heap.size < w1.heap.size := by have := H1.out.2.size; simp at this; omega
       have hq1 : q < w1.heap.size := H1.out.1.lt
       have B1 : Blk w1 w.heap.size 50 #[.int .i64 0, .int .i64 0, .int .i64 0, .int .i64 0, .int .i64 0, .int .i64 0, .int .i64 0] := Blk.mk (blk_new w _ _) H1.out.2 (by omega)))
  obtain ⟨W2, hW2⟩ : ∃ W2, w1.alloc (.cells #[.int .i64 2, .int .i64 a, .int .i64 0, .int .i64 0, .int .i64 0, .int .i64 0, .int .i64 0] 50) = W2 := ⟨_, rfl⟩
  have S2 : Hid (Rs x q W2 R1) := by rw [← hW2]; exact H1.out.1.below ((Below.refl _ _).alloc (Nat.le_refl _) _)
  have B2 : Blk W2 w.heap.size 50 #[.int .i64 0, .int .i64 0, .int .i64 0, .int .i64 0, .int .i64 0, .int .i64 0, .int .i64 0] := by rw [← hW2]; exact B1.alloc _
  have C2 : Blk W2 w1.heap.size 50 #[.int .i64 2, .int .i64 a, .int .i64 0, .int .i64 0, .int .i64 0, .int .i64 0, .int .i64 0] := by rw [← hW2]; exact blk_new w1 _ _
  have M2 : Hid (Mk q w W2) := by rw [← hW2]; exact ((Mk.below ((Below.refl w.heap.size w).alloc (Nat.le_refl _) (Obj.cells #[.int .i64 0, .int .i64 0, .int .i64 0, .int .i64 0, .int .i64 0, .int .i64 0, .int .i64 0] 50))).trans H1.out.2).alloc _
  have lt2 : w1.heap.size < W2.heap.size := C2.lt
  rw [hW2]
  clear hW2 B1 H1
  go_upto_if 21 with (first
    | (go_at_call 100; refine (k3.out _ (H3.out.1.far (p := ⟨w1.heap.size, 2, none⟩) (by show q < w1.heap.size; omega) C3 (by decide) (by decide) _)).mono ?_; rintro e w5 ⟨⟨px, py⟩, rfl, hp0, hp1, h5⟩
       have H5 := hid'' h5
       have P5 := hid'' hp1
       clear h5 hp0 hp1
       have lt5 : w1.heap.size < w5.heap.size := by have := H5.out.2.size; simp at this; omega
       have B5 : Blk w5 w.heap.size 50 #[.int .i64 0, .int .i64 0, .int .i64 0, .int .i64 0, .int .i64 0, .int .i64 0, .int .i64 0] := (B3.far (p := ⟨w1.heap.size, 2, none⟩) (by show w.heap.size ≠ w1.heap.size; omega) _).mk H5.out.2 (by omega)
       have C5 : Blk w5 w1.heap.size 50 #[.int .i64 2, .int .i64 a, .int .i64 c, .int .i64 0, .int .i64 0, .int .i64 0, .int .i64 0] := (C3.set (j := 2) (.int .i64 c)).mk H5.out.2 (by omega)
       have cc3 := C5.cell 3
       have cc4 := C5.cell 4
       have ff3 := C5.frozen 3
       have ff4 := C5.frozen 4
       simp at cc3 cc4)
    | (go_at_call 99; refine (k2.out _ S2.out).mono ?_; rintro e w3 ⟨rfl, h3⟩
       have H3 := hid'' h3
       clear h3
       have lt3 : w1.heap.size < w3.heap.size := by have := H3.out.2.size; omega
       have B3 := B2.mk H3.out.2 (by omega)
       have C3 := C2.mk H3.out.2 (by omega)
       have cc2 := C3.cell 2
       have ff2 := C3.frozen 2
       simp at cc2))
  obtain ⟨W6, hW6⟩ : ∃ W6, (w5.setCell ⟨w1.heap.size, 3, none⟩ (.int .i64 px)).setCell ⟨w1.heap.size, 4, none⟩ (.int .i64 py) = W6 := ⟨_, rfl⟩
  have S6 : Hid (Rs x q W6 R3) := by
    rw [← hW6]
    exact (H5.out.1.far (p := ⟨w1.heap.size, 3, none⟩) (by show q < w1.heap.size; omega) C5 (by decide) (by decide) (.int .i64 px)).far (p := ⟨w1.heap.size, 4, none⟩) (by show q < w1.heap.size; omega) (C5.set (j := 3) (.int .i64 px)) (by decide) (by decide) (.int .i64 py)
  have B6 : Blk W6 w.heap.size 50 #[.int .i64 0, .int .i64 0, .int .i64 0, .int .i64 0, .int .i64 0, .int .i64 0, .int .i64 0] := by rw [← hW6]; exact (B5.far (p := ⟨w1.heap.size, 3, none⟩) (by show w.heap.size ≠ w1.heap.size; omega) _).far (p := ⟨w1.heap.size, 4, none⟩) (by show w.heap.size ≠ w1.heap.size; omega) _
  have C6 : Blk W6 w1.heap.size 50 #[.int .i64 2, .int .i64 a, .int .i64 c, .int .i64 px, .int .i64 py, .int .i64 0, .int .i64 0] := by rw [← hW6]; exact (C5.set (j := 3) (.int .i64 px)).set (j := 4) (.int .i64 py)
  have M6 : Hid (Mk q w W6) := by
    rw [← hW6]
    exact ((((M2.out.trans H3.out.2).set (p := ⟨w1.heap.size, 2, none⟩) (by show w.heap.size ≤ w1.heap.size; omega) _).trans H5.out.2).set (p := ⟨w1.heap.size, 3, none⟩) (by show w.heap.size ≤ w1.heap.size; omega) _).set (p := ⟨w1.heap.size, 4, none⟩) (by show w.heap.size ≤ w1.heap.size; omega) _
  have lt6 : w1.heap.size < W6.heap.size := C6.lt
  rw [hW6]
  clear hW6 B5 C5 H5 H3 B3 C3 B2 C2 cc2 ff2 cc3 cc4 ff3 ff4 S2 M2
  have cc3 := C6.cell 3
  have cc4 := C6.cell 4
  simp at cc3 cc4
  have hr := kl.out _ S6.out
  go_upto_region 9 with (first
    | (go_at_call 46; refine (k4.out _ S6.out).mono ?_; rintro e w7 ⟨rfl, h7⟩
       have H7 := hid'' h7
       clear h7
       have lt7 : w1.heap.size < w7.heap.size := by have := H7.out.2.size; omega
       have B7 := B6.mk H7.out.2 (by omega)
       have C7 := C6.mk H7.out.2 (by omega)
       have cc5 := C7.cell 5
       have ff5 := C7.frozen 5
       simp at cc5))
  obtain ⟨W8, hW8⟩ : ∃ W8, w7.setCell ⟨w1.heap.size, 5, none⟩ (.int .i64 r) = W8 := ⟨_, rfl⟩
  have S8 := H7.out.1.far (p := ⟨w1.heap.size, 5, none⟩) (by show q < w1.heap.size; omega) C7 (by decide) (by decide) (.int .i64 r)
  have B8 := B7.far (p := ⟨w1.heap.size, 5, none⟩) (by show w.heap.size ≠ w1.heap.size; omega) (.int .i64 r)
  have C8 : Blk _ w1.heap.size 50 #[.int .i64 2, .int .i64 a, .int .i64 c, .int .i64 px, .int .i64 py, .int .i64 r, .int .i64 0] := C7.set (j := 5) (.int .i64 r)
  have M8 := (M6.out.trans H7.out.2).set (p := ⟨w1.heap.size, 5, none⟩) (by show w.heap.size ≤ w1.heap.size; omega) (.int .i64 r)
  have HP2 : rest RP = R4 ∧ ∀ v, RP = .ok v → v.1 = ⟨2, a, c, ⟨px, py⟩, ⟨r, 0⟩⟩ := by
    have e := HP.out ⟨px, py⟩ P5.out
    have := run_ret (⟨2, a, c, ⟨px, py⟩, ⟨r, 0⟩⟩ : IC.Paint) R4
    rw [← e] at this
    exact this
  rw [hW8] at S8 B8 C8 M8 ⊢
  have lt8 : w1.heap.size < W8.heap.size := C8.lt
  clear hW8 B7 C7 H7 B6 C6 S6 M6 cc3 cc4 cc5 ff5
  have b0 := B8.cell 0
  have c0 := C8.cell 0
  have fr0 := B8.frozen 0
  have b1 := B8.cell 1
  have c1 := C8.cell 1
  have fr1 := B8.frozen 1
  have b2 := B8.cell 2
  have c2 := C8.cell 2
  have fr2 := B8.frozen 2
  have b3 := B8.cell 3
  have c3 := C8.cell 3
  have fr3 := B8.frozen 3
  have b4 := B8.cell 4
  have c4 := C8.cell 4
  have fr4 := B8.frozen 4
  have b5 := B8.cell 5
  have c5 := C8.cell 5
  have fr5 := B8.frozen 5
  have b6 := B8.cell 6
  have c6 := C8.cell 6
  have fr6 := B8.frozen 6
  simp at b0 c0 b1 c1 b2 c2 b3 c3 b4 c4 b5 c5 b6 c6
  have HPh := hid'' HP2
  clear HP HP2
  go_wp2
  have HP := HPh.out
  refine bodyPost_ret (v := .agg #[.int .i64 2, .int .i64 a, .int .i64 c, .int .i64 px, .int .i64 py, .int .i64 r, .int .i64 0]) (by simp [results, Tryd.results80, go_sem, B8.got 0 (by simp) (.int .i64 2), (B8.set (j := 0) (.int .i64 2)).got 1 (by simp) (.int .i64 a), ((B8.set (j := 0) (.int .i64 2)).set (j := 1) (.int .i64 a)).got 2 (by simp) (.int .i64 c), (((B8.set (j := 0) (.int .i64 2)).set (j := 1) (.int .i64 a)).set (j := 2) (.int .i64 c)).got 3 (by simp) (.int .i64 px), ((((B8.set (j := 0) (.int .i64 2)).set (j := 1) (.int .i64 a)).set (j := 2) (.int .i64 c)).set (j := 3) (.int .i64 px)).got 4 (by simp) (.int .i64 py), (((((B8.set (j := 0) (.int .i64 2)).set (j := 1) (.int .i64 a)).set (j := 2) (.int .i64 c)).set (j := 3) (.int .i64 px)).set (j := 4) (.int .i64 py)).got 5 (by simp) (.int .i64 r), ((((((B8.set (j := 0) (.int .i64 2)).set (j := 1) (.int .i64 a)).set (j := 2) (.int .i64 c)).set (j := 3) (.int .i64 px)).set (j := 4) (.int .i64 py)).set (j := 5) (.int .i64 r)).got 6 (by simp) (.int .i64 0)]) rfl ⟨⟨2, a, c, ⟨px, py⟩, ⟨r, 0⟩⟩, rfl, ?_, ?_, ?_⟩
  · exact HP.2
  · rw [HP.1]
    have r0 := S8.far (p := ⟨w.heap.size, 0, none⟩) (by show q < w.heap.size; omega) B8 (by decide) (by decide) (.int .i64 2)
    have r1 := r0.far (p := ⟨w.heap.size, 1, none⟩) (by show q < w.heap.size; omega) (B8.set (j := 0) (.int .i64 2)) (by decide) (by decide) (.int .i64 a)
    have r2 := r1.far (p := ⟨w.heap.size, 2, none⟩) (by show q < w.heap.size; omega) ((B8.set (j := 0) (.int .i64 2)).set (j := 1) (.int .i64 a)) (by decide) (by decide) (.int .i64 c)
    have r3 := r2.far (p := ⟨w.heap.size, 3, none⟩) (by show q < w.heap.size; omega) (((B8.set (j := 0) (.int .i64 2)).set (j := 1) (.int .i64 a)).set (j := 2) (.int .i64 c)) (by decide) (by decide) (.int .i64 px)
    have r4 := r3.far (p := ⟨w.heap.size, 4, none⟩) (by show q < w.heap.size; omega) ((((B8.set (j := 0) (.int .i64 2)).set (j := 1) (.int .i64 a)).set (j := 2) (.int .i64 c)).set (j := 3) (.int .i64 px)) (by decide) (by decide) (.int .i64 py)
    have r5 := r4.far (p := ⟨w.heap.size, 5, none⟩) (by show q < w.heap.size; omega) (((((B8.set (j := 0) (.int .i64 2)).set (j := 1) (.int .i64 a)).set (j := 2) (.int .i64 c)).set (j := 3) (.int .i64 px)).set (j := 4) (.int .i64 py)) (by decide) (by decide) (.int .i64 r)
    have r6 := r5.far (p := ⟨w.heap.size, 6, none⟩) (by show q < w.heap.size; omega) ((((((B8.set (j := 0) (.int .i64 2)).set (j := 1) (.int .i64 a)).set (j := 2) (.int .i64 c)).set (j := 3) (.int .i64 px)).set (j := 4) (.int .i64 py)).set (j := 5) (.int .i64 r)) (by decide) (by decide) (.int .i64 0)
    exact r6
  · exact (((((((M8).set (p := ⟨w.heap.size, 0, none⟩) (Nat.le_refl _) _).set (p := ⟨w.heap.size, 1, none⟩) (Nat.le_refl _) _).set (p := ⟨w.heap.size, 2, none⟩) (Nat.le_refl _) _).set (p := ⟨w.heap.size, 3, none⟩) (Nat.le_refl _) _).set (p := ⟨w.heap.size, 4, none⟩) (Nat.le_refl _) _).set (p := ⟨w.heap.size, 5, none⟩) (Nat.le_refl _) _).set (p := ⟨w.heap.size, 6, none⟩) (Nat.le_refl _) _

end Go.Proofs.YtbfhehdinkbioaaDoor

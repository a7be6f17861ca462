/-
  A reader reads a paint: walked over the program.
-/
import Derived.Test.YtcnlkdoifogkbaaGreatDoorDecOther
namespace Go.Proofs.YtcnlkdoifogkbaaGreatDoor
open Go.RowKit

/-- One behind the other. -/
theorem run_then {α β : Type} (p : DP.P α) (f : α → DP.P β) (R : Except DP.Bad DP.St) (a : α) (ha : ∀ v, run p R = .ok v → v.1 = a) : run (DP.andThen p f) R = run (f a) (rest (run p R)) := by
  cases R with
  | error e => rfl
  | ok s =>
    show DP.andThen p f s = run (f a) (rest (p s))
    cases h : p s with
    | error e => rw [DP.andThen_err h]; rfl
    | ok v => rw [DP.andThen_ok h, show v.1 = a from ha v h]; rfl

theorem run_ret {α : Type} (a : α) (R : Except DP.Bad DP.St) : rest (run (DP.ret a) R) = R ∧ ∀ v, run (DP.ret a) R = .ok v → v.1 = a := by
  cases R with
  | error e => exact ⟨rfl, fun v h => by cases h⟩
  | ok s => exact ⟨rfl, fun v h => by cases h; rfl⟩

theorem valOf_ok {R : Except DP.Bad (Nat × DP.St)} : ∀ v, R = .ok v → v.1 = valOf R := fun v h => by rw [h]; rfl

theorem place_le (x : Src) (q : Nat) (R : Except DP.Bad DP.St) (w : World) (h : Rs x q w R) : valOf (run (DP.place x.bs) R) < 256 := by
  cases R with
  | error b => show 0 < _; omega
  | ok s =>
    have hc := (show Rd x q w s from h).fit.cols
    show valOf (DP.place x.bs s) < _
    cases hN : DP.num x.bs (DP.placeRule s.cols.length s.used) s with
    | error b =>
      have : DP.place x.bs s = .error b := DP.andThen_err hN
      rw [this]
      show 0 < _; omega
    | ok v =>
      obtain ⟨n, s'⟩ := v
      have : DP.place x.bs s = .ok (n, { s' with used := if n = s'.used then s'.used + 1 else s'.used }) := DP.andThen_ok hN
      rw [this]
      obtain ⟨-, h2, -⟩ := num_facts hN (show Rd x q w s from h).base.lt256
      unfold DP.placeRule at h2
      split at h2
      · cases h2
      · show n < _; omega

theorem zero_in : PtIn64 ⟨0, 0⟩ := ⟨⟨by decide, by decide⟩, ⟨by decide, by decide⟩⟩
theorem zero_reach (far : Int) (h : 0 ≤ far) : IC.reach far ⟨0, 0⟩ = true := by simp [IC.reach, IC.within]; omega

set_option maxRecDepth 20000 in
set_option maxHeartbeats 1000000 in
theorem paint0 (x : Src) (q : Nat) (R : Except DP.Bad DP.St) (w : World) (h : Rs x q w R) :
    Calls Tryz.prog 87 #[.pointer (some ⟨q, 0, none⟩), .int .i64 0] w fun e w' => ∃ p : IC.Paint, e = .returned (.agg p.cells.toArray) ∧ (∀ v, run (DP.paint x.bs 0) R = .ok v → v.1 = p) ∧ Rs x q w' (rest (run (DP.paint x.bs 0) R)) ∧ Mk q w w' := by
  have hq := h.lt
  obtain ⟨a, hva⟩ : ∃ a, valOf (run (DP.place x.bs) R) = a := ⟨_, rfl⟩
  obtain ⟨R1, hR1⟩ : ∃ R1, rest (run (DP.place x.bs) R) = R1 := ⟨_, rfl⟩
  have k1 : Hid (∀ W, Below w.heap.size w W → Calls Tryz.prog 108 #[.pointer (some ⟨q, 0, none⟩)] W fun e w' => e = .returned (.int .i64 a) ∧ Rs x q w' R1 ∧ Mk q W w') := fun W hW => by
    have := place_any x q R W (h.below hW)
    rw [hva, hR1] at this
    exact this
  have HP : Hid (rest (run (DP.paint x.bs 0) R) = R1 ∧ ∀ v, run (DP.paint x.bs 0) R = .ok v → v.1 = ⟨0, a, 0, ⟨0, 0⟩, ⟨0, 0⟩⟩) := by
    have e : run (DP.paint x.bs 0) R = run (DP.ret (⟨0, a, 0, ⟨0, 0⟩, ⟨0, 0⟩⟩ : IC.Paint)) R1 := by
      unfold DP.paint
      rw [run_then _ _ _ a (fun v hv => by rw [← hva]; exact valOf_ok v hv), hR1]
      rfl
    rw [e]
    exact run_ret _ _
  generalize run (DP.paint x.bs 0) R = RP at HP ⊢
  clear hva hR1 h
  go_enter Tryz.func87, Tryz.ntmps87
  go_upto_if 11 with (first
    | (go_at_call 108; refine (k1.out _ ((Below.refl _ _).alloc (Nat.le_refl _) _)).mono ?_; rintro e w1 ⟨rfl, h1⟩
       have H1 := hid'' h1
       clear h1
       have hlt1 : w.heap.size < w1.heap.size := by have := H1.out.2.size; simp at this; omega
       have hq1 : q < w1.heap.size := H1.out.1.lt
       have B1 : Blk w1 w.heap.size 59 #[.int .i64 0, .int .i64 0, .int .i64 0, .int .i64 0, .int .i64 0, .int .i64 0, .int .i64 0] := Blk.mk (blk_new w _ _) H1.out.2 (by omega)))
  obtain ⟨W2, hW2⟩ : ∃ W2, w1.alloc (.cells #[.int .i64 0, .int .i64 a, .int .i64 0, .int .i64 0, .int .i64 0, .int .i64 0, .int .i64 0] 59) = W2 := ⟨_, rfl⟩
  have R2 : Rs x q W2 R1 := by rw [← hW2]; exact H1.out.1.below ((Below.refl _ _).alloc (Nat.le_refl _) _)
  have B2 : Blk W2 w.heap.size 59 #[.int .i64 0, .int .i64 0, .int .i64 0, .int .i64 0, .int .i64 0, .int .i64 0, .int .i64 0] := by rw [← hW2]; exact B1.alloc _
  have C2 : Blk W2 w1.heap.size 59 #[.int .i64 0, .int .i64 a, .int .i64 0, .int .i64 0, .int .i64 0, .int .i64 0, .int .i64 0] := by rw [← hW2]; exact blk_new w1 _ _
  have M2 : Mk q w W2 := by rw [← hW2]; exact ((Mk.below ((Below.refl w.heap.size w).alloc (Nat.le_refl _) (Obj.cells #[.int .i64 0, .int .i64 0, .int .i64 0, .int .i64 0, .int .i64 0, .int .i64 0, .int .i64 0] 59))).trans H1.out.2).alloc _
  have lt2 : w1.heap.size < W2.heap.size := C2.lt
  rw [hW2]
  clear hW2 B1
  have b0 := B2.cell 0
  have c0 := C2.cell 0
  have fr0 := B2.frozen 0
  have b1 := B2.cell 1
  have c1 := C2.cell 1
  have fr1 := B2.frozen 1
  have b2 := B2.cell 2
  have c2 := C2.cell 2
  have fr2 := B2.frozen 2
  have b3 := B2.cell 3
  have c3 := C2.cell 3
  have fr3 := B2.frozen 3
  have b4 := B2.cell 4
  have c4 := C2.cell 4
  have fr4 := B2.frozen 4
  have b5 := B2.cell 5
  have c5 := C2.cell 5
  have fr5 := B2.frozen 5
  have b6 := B2.cell 6
  have c6 := C2.cell 6
  have fr6 := B2.frozen 6
  simp at b0 c0 b1 c1 b2 c2 b3 c3 b4 c4 b5 c5 b6 c6
  go_wp2
  refine bodyPost_ret (v := .agg #[.int .i64 0, .int .i64 a, .int .i64 0, .int .i64 0, .int .i64 0, .int .i64 0, .int .i64 0]) (by simp [results, Tryz.results87, go_sem, B2.got 0 (by simp) (.int .i64 0), (B2.set (j := 0) (.int .i64 0)).got 1 (by simp) (.int .i64 a), ((B2.set (j := 0) (.int .i64 0)).set (j := 1) (.int .i64 a)).got 2 (by simp) (.int .i64 0), (((B2.set (j := 0) (.int .i64 0)).set (j := 1) (.int .i64 a)).set (j := 2) (.int .i64 0)).got 3 (by simp) (.int .i64 0), ((((B2.set (j := 0) (.int .i64 0)).set (j := 1) (.int .i64 a)).set (j := 2) (.int .i64 0)).set (j := 3) (.int .i64 0)).got 4 (by simp) (.int .i64 0), (((((B2.set (j := 0) (.int .i64 0)).set (j := 1) (.int .i64 a)).set (j := 2) (.int .i64 0)).set (j := 3) (.int .i64 0)).set (j := 4) (.int .i64 0)).got 5 (by simp) (.int .i64 0), ((((((B2.set (j := 0) (.int .i64 0)).set (j := 1) (.int .i64 a)).set (j := 2) (.int .i64 0)).set (j := 3) (.int .i64 0)).set (j := 4) (.int .i64 0)).set (j := 5) (.int .i64 0)).got 6 (by simp) (.int .i64 0)]) rfl ⟨⟨0, a, 0, ⟨0, 0⟩, ⟨0, 0⟩⟩, rfl, ?_, ?_, ?_⟩
  · exact HP.out.2
  · rw [HP.out.1]
    have r0 := R2.far (p := ⟨w.heap.size, 0, none⟩) (by show q < w.heap.size; omega) B2 (by decide) (by decide) (.int .i64 0)
    have r1 := r0.far (p := ⟨w.heap.size, 1, none⟩) (by show q < w.heap.size; omega) (B2.set (j := 0) (.int .i64 0)) (by decide) (by decide) (.int .i64 a)
    have r2 := r1.far (p := ⟨w.heap.size, 2, none⟩) (by show q < w.heap.size; omega) ((B2.set (j := 0) (.int .i64 0)).set (j := 1) (.int .i64 a)) (by decide) (by decide) (.int .i64 0)
    have r3 := r2.far (p := ⟨w.heap.size, 3, none⟩) (by show q < w.heap.size; omega) (((B2.set (j := 0) (.int .i64 0)).set (j := 1) (.int .i64 a)).set (j := 2) (.int .i64 0)) (by decide) (by decide) (.int .i64 0)
    have r4 := r3.far (p := ⟨w.heap.size, 4, none⟩) (by show q < w.heap.size; omega) ((((B2.set (j := 0) (.int .i64 0)).set (j := 1) (.int .i64 a)).set (j := 2) (.int .i64 0)).set (j := 3) (.int .i64 0)) (by decide) (by decide) (.int .i64 0)
    have r5 := r4.far (p := ⟨w.heap.size, 5, none⟩) (by show q < w.heap.size; omega) (((((B2.set (j := 0) (.int .i64 0)).set (j := 1) (.int .i64 a)).set (j := 2) (.int .i64 0)).set (j := 3) (.int .i64 0)).set (j := 4) (.int .i64 0)) (by decide) (by decide) (.int .i64 0)
    have r6 := r5.far (p := ⟨w.heap.size, 6, none⟩) (by show q < w.heap.size; omega) ((((((B2.set (j := 0) (.int .i64 0)).set (j := 1) (.int .i64 a)).set (j := 2) (.int .i64 0)).set (j := 3) (.int .i64 0)).set (j := 4) (.int .i64 0)).set (j := 5) (.int .i64 0)) (by decide) (by decide) (.int .i64 0)
    exact r6
  · exact (((((((M2).set (p := ⟨w.heap.size, 0, none⟩) (Nat.le_refl _) _).set (p := ⟨w.heap.size, 1, none⟩) (Nat.le_refl _) _).set (p := ⟨w.heap.size, 2, none⟩) (Nat.le_refl _) _).set (p := ⟨w.heap.size, 3, none⟩) (Nat.le_refl _) _).set (p := ⟨w.heap.size, 4, none⟩) (Nat.le_refl _) _).set (p := ⟨w.heap.size, 5, none⟩) (Nat.le_refl _) _).set (p := ⟨w.heap.size, 6, none⟩) (Nat.le_refl _) _

end Go.Proofs.YtcnlkdoifogkbaaGreatDoor

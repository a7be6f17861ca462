/-
  A path, walked over the program.
-/
import Derived.Deep.Cut
import Derived.Deep.CutBlock
import Derived.Test.YtenmkopiddmieabGreatDoorParseSteps
namespace Go.Proofs.YtenmkopiddmieabGreatDoor
open Go.RowKit

theorem Kt.row {t : TypeId} {b : Nat} {w : World} {a : Array Value} (h : Blk w b t a) (i : Nat) (vs : List Value) : Kt t w (setRow w b i vs) := by
  refine ⟨by rw [size_row]; exact Nat.le_refl _, fun k cur u h1 _ h3 => (block_row (fun e => h1 ?_) vs i w).trans h3⟩
  subst e
  unfold Blk at h
  rw [h] at h3
  simp at h3
  exact h3.2.symm

theorem blk14 {W : World} {b : Nat} {t : TypeId} {v0 v1 v2 v3 v4 v5 v6 v7 v8 v9 v10 v11 v12 v13 : Value} (h : Blk W b t #[v0, v1, v2, v3, v4, v5, v6, v7, v8, v9, v10, v11, v12, v13]) :
    (W.cell? ⟨b, 0, none⟩ = some v0 ∧ W.cell? ⟨b, 1, none⟩ = some v1 ∧ W.cell? ⟨b, 2, none⟩ = some v2 ∧ W.cell? ⟨b, 3, none⟩ = some v3 ∧ W.cell? ⟨b, 4, none⟩ = some v4 ∧ W.cell? ⟨b, 5, none⟩ = some v5 ∧ W.cell? ⟨b, 6, none⟩ = some v6 ∧ W.cell? ⟨b, 7, none⟩ = some v7 ∧ W.cell? ⟨b, 8, none⟩ = some v8 ∧ W.cell? ⟨b, 9, none⟩ = some v9 ∧ W.cell? ⟨b, 10, none⟩ = some v10 ∧ W.cell? ⟨b, 11, none⟩ = some v11 ∧ W.cell? ⟨b, 12, none⟩ = some v12 ∧ W.cell? ⟨b, 13, none⟩ = some v13) ∧
    ∀ j, W.frozen? ⟨b, j, none⟩ = false :=
  ⟨⟨h.cell 0, h.cell 1, h.cell 2, h.cell 3, h.cell 4, h.cell 5, h.cell 6, h.cell 7, h.cell 8, h.cell 9, h.cell 10, h.cell 11, h.cell 12, h.cell 13⟩, fun j => h.frozen j⟩

def item0 : Array Value := #[.bool false, .int .i64 0, .slice none 0 0, .string ⟨#[]⟩, .string ⟨#[]⟩, .int .i64 0, .int .i64 0, .string ⟨#[]⟩, .int .i64 0, .int .i64 0, .string ⟨#[]⟩, .int .i64 0, .int .i64 0, .int .i64 0]

set_option maxRecDepth 20000 in
set_option maxHeartbeats 2000000 in
theorem path_any {x : Cx} {q : Nat} {w0 W : World} {s : PP.St} (h : Hid (At x q w0 s W)) :
    Calls Tryz.prog 103 #[.pointer (some ⟨q, 0, none⟩)] W fun e w' => ∃ y : PP.Item × Value, e = .returned (.agg (itemL y).toArray) ∧ y.1 = (PP.path s).1 ∧ Hid (At x q w0 (PP.path s).2 w') ∧ ItemOk w' y := by
  have HW := At.alloc (At.new h) (.cells item0 93)
  have HM : Hid (Mk q w0 (W.alloc (.cells item0 93))) := (At.mk' h).alloc _
  have B0 : Hid (Blk (W.alloc (.cells item0 93)) W.heap.size 93 item0) := blk_new _ _ _
  have hq : q < W.heap.size := (At.rd h).lt
  have hs0 := At.size h
  have k1 := hid'' (next_any (At.new HW))
  have h1 : wagg s.nx = .agg #[.int .i64 (s.nx.1 : Nat), .int .i64 (s.nx.2.1 : Nat), .string ⟨s.nx.2.2.toArray⟩] := rfl
  rw [h1] at k1
  obtain ⟨f0, f1, f2⟩ := fld_w (s.nx.1 : Nat) (s.nx.2.1 : Nat) ⟨s.nx.2.2.toArray⟩
  have HA : Hid (PP.path s = (⟨false, s.nx.2.1, (PP.steps (s.skip PP.k_path)).1, [], PP.v0, PP.v0, PP.v0, 0⟩, (PP.steps (s.skip PP.k_path)).2.skip PP.m_semi)) := by show _ = _; rfl
  rw [HA.out]
  obtain ⟨s1, hs1⟩ : ∃ s1, s.skip PP.k_path = s1 := ⟨_, rfl⟩
  have ks : Hid (∀ w0 W, Hid (At x q w0 s W) → Calls Tryz.prog 26 #[.pointer (some ⟨q, 0, none⟩), .string ⟨#[112, 97, 116, 104]⟩] W fun e w' => e = .returned (.tuple #[]) ∧ Hid (At x q w0 s1 w')) := fun w0 W H => by
    have := skip_any PP.k_path H
    rw [hs1] at this
    exact this
  rw [hs1]
  have ke : Hid (∀ (z : PP.St) w0 W, Hid (At x q w0 z W) → Calls Tryz.prog 26 #[.pointer (some ⟨q, 0, none⟩), .string ⟨#[59]⟩] W fun e w' => e = .returned (.tuple #[]) ∧ Hid (At x q w0 (z.skip PP.m_semi) w')) := fun z w0 W H => skip_any PP.m_semi H
  obtain ⟨p, hp⟩ : ∃ p, s.nx.2.1 = p := ⟨_, rfl⟩
  rw [hp] at k1 f0 f1 f2 ⊢
  clear h h1 HA hs1 hp HW
  unfold item0 at k1
  go_enter Tryz.func103, Tryz.ntmps103
  go_upto_region 4 with (first
    | go_at_call 107
      refine (steps_any H3).mono ?_
      rintro e w4 ⟨v, rfl, hst, H4⟩
      obtain ⟨ad, n, cap, rfl⟩ := hst.slice
      have HST := hid'' hst
      have B4 : Hid (Blk w4 w1.heap.size 93 #[.bool false, .int .i64 (p : Nat), .slice none 0 0, .string ⟨#[]⟩, .string ⟨#[]⟩, .int .i64 0, .int .i64 0, .string ⟨#[]⟩, .int .i64 0, .int .i64 0, .string ⟨#[]⟩, .int .i64 0, .int .i64 0, .int .i64 0]) := At.box H4 (blk_new _ _ _) (by have := (At.rd H1).lt; omega)
      have l4 := B4.out.lt
      obtain ⟨⟨-, -, x2, -⟩, y4⟩ := blk14 B4.out
      have y2 := y4 2
      clear hst y4
    | (go_at_call 26; refine (ks.out _ _ H2).mono ?_; rintro e w3 ⟨rfl, H3⟩)
    | go_at_call 49
      refine k1.out.mono ?_
      rintro e w1 ⟨rfl, H1, B1⟩
      have H2 := At.new (At.alloc H1 (.cells #[.bool false, .int .i64 (p : Nat), .slice none 0 0, .string ⟨#[]⟩, .string ⟨#[]⟩, .int .i64 0, .int .i64 0, .string ⟨#[]⟩, .int .i64 0, .int .i64 0, .string ⟨#[]⟩, .int .i64 0, .int .i64 0, .int .i64 0] 93)))
  obtain ⟨W5, hW5⟩ : ∃ W5, w4.setCell ⟨w1.heap.size, 2, none⟩ (.slice ad n cap) = W5 := ⟨_, rfl⟩
  have hq1 := (At.rd H1).lt
  have H5 : Hid (At x q w0 (PP.steps s1).2 W5) := by
    rw [← hW5]
    exact At.row (At.onto HM.out (At.onto ((At.mk' H1).alloc _) H4)) B4.out (by decide) hq1 (by have := At.size H1; simp at this; omega) 2 [.slice ad n cap]
  have B5 : Hid (Blk W5 w1.heap.size 93 #[.bool false, .int .i64 (p : Nat), .slice ad n cap, .string ⟨#[]⟩, .string ⟨#[]⟩, .int .i64 0, .int .i64 0, .string ⟨#[]⟩, .int .i64 0, .int .i64 0, .string ⟨#[]⟩, .int .i64 0, .int .i64 0, .int .i64 0]) := by
    rw [← hW5]
    exact B4.out.set (j := 2) _
  have X5 : Hid (Blk W5 W.heap.size 93 item0) := by
    rw [← hW5]
    exact Blk.far (At.box H4 (Blk.alloc (At.box H1 B0.out (by omega)) _) (by omega)) (p := ⟨w1.heap.size, 2, none⟩) (by show W.heap.size ≠ w1.heap.size; have := At.size H1; simp at this; omega) _
  have ST5 : Hid (StepsAt W5 (.slice ad n cap) (PP.steps s1).1) := by
    rw [← hW5]
    exact HST.out.kt (t := 93) (Kt.row B4.out 2 [.slice ad n cap])
  rw [hW5]
  clear hW5 HST B4 x2 y2 l4
  go_wp2_with (first
    | go_at_call 26
      refine (ke.out _ _ _ (At.new H5)).mono ?_
      rintro e w6 ⟨rfl, H6⟩
      have X6 : Hid (Blk w6 W.heap.size 93 item0) := At.box H6 X5.out (by omega)
      obtain ⟨⟨x0, x1, x2, x3, x4, x5, x6, x7, x8, x9, x10, x11, x12, x13⟩, hxf⟩ := blk14 X6.out
      have hx := X6.out.lt
      have y0 := hxf 0
      have y1 := hxf 1
      have y2 := hxf 2
      have y3 := hxf 3
      have y4 := hxf 4
      have y5 := hxf 5
      have y6 := hxf 6
      have y7 := hxf 7
      have y8 := hxf 8
      have y9 := hxf 9
      have y10 := hxf 10
      have y11 := hxf 11
      have y12 := hxf 12
      have y13 := hxf 13
      clear hxf
      have S6 : Hid (Blk w6 w1.heap.size 93 #[.bool false, .int .i64 (p : Nat), .slice ad n cap, .string ⟨#[]⟩, .string ⟨#[]⟩, .int .i64 0, .int .i64 0, .string ⟨#[]⟩, .int .i64 0, .int .i64 0, .string ⟨#[]⟩, .int .i64 0, .int .i64 0, .int .i64 0]) := At.box H6 B5.out (by omega)
      obtain ⟨⟨z0, z1, z2, z3, z4, z5, z6, z7, z8, z9, z10, z11, z12, z13⟩, -⟩ := blk14 S6.out
      have hz := S6.out.lt)
  have R1 := At.row (At.onto (At.mk' H5) H6) X6.out (by decide) hq hs0 0 [.bool false, .int .i64 (p : Nat), .slice ad n cap, .string ⟨#[]⟩, .string ⟨#[]⟩, .int .i64 0, .int .i64 0, .string ⟨#[]⟩, .int .i64 0, .int .i64 0, .string ⟨#[]⟩, .int .i64 0, .int .i64 0, .int .i64 0]
  refine bodyPost_ret (v := .agg #[.bool false, .int .i64 (p : Nat), .slice ad n cap, .string ⟨#[]⟩, .string ⟨#[]⟩, .int .i64 0, .int .i64 0, .string ⟨#[]⟩, .int .i64 0, .int .i64 0, .string ⟨#[]⟩, .int .i64 0, .int .i64 0, .int .i64 0]) (by simp [results, Tryz.results103, go_sem, x0, x1, x2, x3, x4, x5, x6, x7, x8, x9, x10, x11, x12, x13]) rfl ⟨(⟨false, p, (PP.steps s1).1, [], PP.v0, PP.v0, PP.v0, 0⟩, .slice ad n cap), rfl, rfl, R1, ?_⟩
  exact ((ST5.out.kt (t := 93) (Kt.at H6 (At.rd H5).rblk)).kt (t := 93) (Kt.row X6.out 0 [.bool false, .int .i64 (p : Nat), .slice ad n cap, .string ⟨#[]⟩, .string ⟨#[]⟩, .int .i64 0, .int .i64 0, .string ⟨#[]⟩, .int .i64 0, .int .i64 0, .string ⟨#[]⟩, .int .i64 0, .int .i64 0, .int .i64 0]))

end Go.Proofs.YtenmkopiddmieabGreatDoor

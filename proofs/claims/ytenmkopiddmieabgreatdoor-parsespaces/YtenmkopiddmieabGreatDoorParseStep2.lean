/-
  A step, walked over the program.
-/
import Derived.Test.YtenmkopiddmieabGreatDoorParseGrow
namespace Go.Proofs.YtenmkopiddmieabGreatDoor
open Go.RowKit

theorem letter_four (t : List UInt8) : (PP.letter t).2 = 0 ∨ (PP.letter t).2 = 2 ∨ (PP.letter t).2 = 4 ∨ (PP.letter t).2 = 6 := by
  unfold PP.letter
  repeat' split
  all_goals simp

theorem infoVal : (Tryz.prog.info? 65).map (fun i => (i.zero, i.size, i.bytes)) = some (some (.agg #[.string ⟨#[]⟩, .int .i64 0, .int .i64 0]), 3, 32) := by kernel_rfl
theorem make_vals (n : Nat) (hn : n ≤ 1000) (W : World) : (Instr.makeSlice 117 (.int .i64 (n : Nat)) (.int .i64 (n : Nat))).run Tryz.prog W = .ok (.slice (some ⟨W.heap.size, 0, none⟩) n n) (W.alloc (.cells (madeCells #[.string ⟨#[]⟩, .int .i64 0, .int .i64 0] (n * 3)) 65)) := by
  obtain ⟨i, hi0, hi1⟩ := Option.map_eq_some_iff.1 infoVal
  have hz : i.zero = some (.agg #[.string ⟨#[]⟩, .int .i64 0, .int .i64 0]) := congrArg (·.1) hi1
  have hz1 : i.size = 3 := congrArg (·.2.1) hi1
  have hz2 : i.bytes = 32 := congrArg (·.2.2) hi1
  have hrun := run_make (P := Tryz.prog) W 117 65 i (.agg #[.string ⟨#[]⟩, .int .i64 0, .int .i64 0]) Tryz.underlying117 hi0 hz .i64 .i64 (n : Nat) (n : Nat) (by omega) (by omega) (by rw [hz2]; omega) (by omega)
  rw [hrun]
  simp [Value.cells, hz1]

def stepL (p : PP.Step × Value) : List Value := [.int .i64 (p.1.kind : Nat), .int .i64 (p.1.pos : Nat), p.2]
theorem stepL_len (p : PP.Step × Value) : (stepL p).length = 3 := rfl
/-- A step's vals, where it says. -/
def StepOk (w : World) (p : PP.Step × Value) : Prop := (∃ ad cap, p.2 = .slice ad p.1.vs.length cap) ∧ Many w 65 3 valL p.2 p.1.vs
theorem StepOk.slice {w : World} {p : PP.Step × Value} (h : StepOk w p) : ∃ ad n cap, p.2 = .slice ad n cap := by obtain ⟨⟨a, c, e⟩, -⟩ := h; exact ⟨a, _, c, e⟩
theorem StepOk.kt {t : TypeId} {w w' : World} {p : PP.Step × Value} (h : StepOk w p) (hk : Kt t w w') (h1 : 65 ≠ t := by decide) : StepOk w' p := ⟨h.1, Row.kt h.2 hk h1 (by decide)⟩

set_option maxRecDepth 20000 in
set_option maxHeartbeats 1000000 in
theorem step_any {x : Cx} {q : Nat} {w0 W : World} {s : PP.St} (h : Hid (At x q w0 s W)) :
    Calls Tryz.prog 111 #[.pointer (some ⟨q, 0, none⟩)] W fun e w' => ∃ y : PP.Step × Value, e = .returned (.agg (stepL y).toArray) ∧ y.1 = (PP.step s).1 ∧ Hid (At x q w0 (PP.step s).2 w') ∧ StepOk w' y := by
  have HW := At.alloc (At.new h) (.cells #[.int .i64 0, .int .i64 0, .slice none 0 0] 119)
  have HM : Hid (Mk q w0 (W.alloc (.cells #[.int .i64 0, .int .i64 0, .slice none 0 0] 119))) := (At.mk' h).alloc _
  have B0 : Hid (Blk (W.alloc (.cells #[.int .i64 0, .int .i64 0, .slice none 0 0] 119)) W.heap.size 119 #[.int .i64 0, .int .i64 0, .slice none 0 0]) := blk_new _ _ _
  have hq : q < W.heap.size := (At.rd h).lt
  have hs0 := At.size h
  have k1 := hid'' (take_any (At.new HW))
  have kl := hid'' (fun W => letter_any s.nx.2.2 W)
  have h1 : wagg s.nx = .agg #[.int .i64 (s.nx.1 : Nat), .int .i64 (s.nx.2.1 : Nat), .string ⟨s.nx.2.2.toArray⟩] := rfl
  rw [h1] at k1
  obtain ⟨n, hl⟩ : ∃ n, (PP.letter s.nx.2.2).2 = n := ⟨_, rfl⟩
  have hn : n ≤ 6 := by have := letter_four s.nx.2.2; omega
  have HA : Hid (PP.step s = (⟨(PP.letter s.nx.2.2).1, s.nx.2.1, (PP.vals n s.tl).1⟩, (PP.vals n s.tl).2)) := by show _ = _; rw [← hl]; rfl
  rw [hl] at kl
  obtain ⟨z, hz⟩ : ∃ z, s.nx.1 = z := ⟨_, rfl⟩
  obtain ⟨p, hp⟩ : ∃ p, s.nx.2.1 = p := ⟨_, rfl⟩
  obtain ⟨U, hU⟩ : ∃ U : ByteArray, ⟨s.nx.2.2.toArray⟩ = U := ⟨_, rfl⟩
  obtain ⟨kd, hkd⟩ : ∃ kd, (PP.letter s.nx.2.2).1 = kd := ⟨_, rfl⟩
  rw [hkd, hp] at HA
  rw [hz, hp, hU] at k1
  rw [hU, hkd] at kl
  rw [HA.out]
  have hvl := vals_len n s.tl
  have hmk := fun W => make_vals n (by omega) W
  obtain ⟨f0, f1, f2⟩ := fld_w (z : Nat) (p : Nat) U
  obtain ⟨s1, hs1⟩ : ∃ s1, s.tl = s1 := ⟨_, rfl⟩
  rw [hs1] at k1 hvl ⊢
  clear h h1 hz hp hU hkd hl HA HW hs1
  go_enter Tryz.func111, Tryz.ntmps111
  go_wp2_with (first
    | go_at_call 115
      refine (kl.out _).mono ?_
      rintro e w2 ⟨rfl, rfl⟩
    | go_at_call 50
      refine k1.out.mono ?_
      rintro e w1 ⟨rfl, H1⟩
      have lt1 := (At.rd H1).lt)
  go_region
  · obtain ⟨W5, hW5⟩ : ∃ W5, (((w1.alloc (.cells #[.int .i64 (z : Nat), .int .i64 (p : Nat), .string U] 83)).alloc (.cells (madeCells #[.string ⟨#[]⟩, .int .i64 0, .int .i64 0] (n * 3)) 65)).alloc (.cells #[.int .i64 (kd : Nat), .int .i64 (p : Nat), .slice (some ⟨w1.heap.size + 1, 0, none⟩) n n] 119)).drew = W5 := ⟨_, rfl⟩
    have H5 : Hid (At x q w1 s1 W5) := by rw [← hW5]; exact At.drew (At.alloc (At.alloc (At.alloc (At.new H1) _) _) _)
    have BV : Blk W5 (w1.heap.size + 1) 65 (madeCells #[.string ⟨#[]⟩, .int .i64 0, .int .i64 0] (n * 3)) := by
      rw [← hW5]
      show Blk (((w1.alloc (.cells #[.int .i64 (z : Nat), .int .i64 (p : Nat), .string U] 83)).alloc (.cells (madeCells #[.string ⟨#[]⟩, .int .i64 0, .int .i64 0] (n * 3)) 65)).alloc (.cells #[.int .i64 (kd : Nat), .int .i64 (p : Nat), .slice (some ⟨w1.heap.size + 1, 0, none⟩) n n] 119)) _ _ _
      have := blk_new (w1.alloc (.cells #[.int .i64 (z : Nat), .int .i64 (p : Nat), .string U] 83)) 65 (madeCells #[.string ⟨#[]⟩, .int .i64 0, .int .i64 0] (n * 3))
      rw [size_alloc] at this
      exact this.alloc _
    have BS : Hid (Blk W5 (w1.heap.size + 1 + 1) 119 #[.int .i64 (kd : Nat), .int .i64 (p : Nat), .slice (some ⟨w1.heap.size + 1, 0, none⟩) n n]) := by
      show Blk _ _ _ _
      rw [← hW5]
      show Blk (((w1.alloc (.cells #[.int .i64 (z : Nat), .int .i64 (p : Nat), .string U] 83)).alloc (.cells (madeCells #[.string ⟨#[]⟩, .int .i64 0, .int .i64 0] (n * 3)) 65)).alloc (.cells #[.int .i64 (kd : Nat), .int .i64 (p : Nat), .slice (some ⟨w1.heap.size + 1, 0, none⟩) n n] 119)) _ _ _
      have := blk_new ((w1.alloc (.cells #[.int .i64 (z : Nat), .int .i64 (p : Nat), .string U] 83)).alloc (.cells (madeCells #[.string ⟨#[]⟩, .int .i64 0, .int .i64 0] (n * 3)) 65)) 119 #[.int .i64 (kd : Nat), .int .i64 (p : Nat), .slice (some ⟨w1.heap.size + 1, 0, none⟩) n n]
      rw [size_alloc, size_alloc] at this
      exact this
    obtain ⟨⟨b0, b1, b2⟩, -⟩ := blk3 BS.out
    have bl := BS.out.lt
    have kv := hid'' (vals_any (k := n) (cap := n) (o := 0) H5 BV (by decide) (by omega) (by omega) (by rw [size_madeCells]; omega) (by omega) (Nat.le_refl _))
    rw [hW5]
    clear hW5 BV
    go_wp2_with (first
      | go_at_call 105
        refine kv.out.mono ?_
        rintro e w6 ⟨rfl, H6, V6, F6⟩
        have X6 : Hid (Blk w6 W.heap.size 119 #[.int .i64 0, .int .i64 0, .slice none 0 0]) := At.box H6 (At.box H1 B0.out (by omega)) (by omega)
        obtain ⟨⟨x0, x1, x2⟩, y0, y1, y2⟩ := blk3 X6.out
        have hx := X6.out.lt
        have S6 := F6.out _ _ _ (by omega) (by omega) BS.out
        obtain ⟨⟨z0, z1, z2⟩, -⟩ := blk3 S6
        have hz := S6.lt)
    have R1 := At.row (At.onto HM.out (At.onto (At.mk' H1) H6)) X6.out (by decide) hq hs0 0 [.int .i64 (kd : Nat), .int .i64 (p : Nat), .slice (some ⟨w1.heap.size + 1, 0, none⟩) n n]
    refine bodyPost_ret (v := .agg #[.int .i64 (kd : Nat), .int .i64 (p : Nat), .slice (some ⟨w1.heap.size + 1, 0, none⟩) n n]) (by simp [results, Tryz.results111, go_sem, x0, x1, x2]) rfl ⟨(⟨kd, p, (PP.vals n s1).1⟩, .slice (some ⟨w1.heap.size + 1, 0, none⟩) n n), rfl, rfl, R1, ⟨⟨_, _, by rw [hvl]⟩, ?_⟩⟩
    refine many_blk valL _ valL_len hvl (Nat.le_refl _) (by unfold maxLen; omega) ?_
    have V7 := Blk.rowFar (b := W.heap.size) (by have := At.size H1; simp at this; omega) [.int .i64 (kd : Nat), .int .i64 (p : Nat), .slice (some ⟨w1.heap.size + 1, 0, none⟩) n n] 0 _ _ V6.out
    rw [putRow_all _ _ (by rw [flat_len valL 3 valL_len, hvl, size_madeCells])] at V7
    exact V7
  · obtain ⟨W5, hW5⟩ : ∃ W5, (((w1.alloc (.cells #[.int .i64 (z : Nat), .int .i64 (p : Nat), .string U] 83)).alloc (.cells #[.int .i64 (kd : Nat), .int .i64 (p : Nat), .slice (some ⟨w1.heap.size + 1 + 1, 0, none⟩) n n] 119)).alloc (.cells (madeCells #[.string ⟨#[]⟩, .int .i64 0, .int .i64 0] (n * 3)) 65)).drew = W5 := ⟨_, rfl⟩
    have H5 : Hid (At x q w1 s1 W5) := by rw [← hW5]; exact At.drew (At.alloc (At.alloc (At.alloc (At.new H1) _) _) _)
    have BV : Blk W5 (w1.heap.size + 1 + 1) 65 (madeCells #[.string ⟨#[]⟩, .int .i64 0, .int .i64 0] (n * 3)) := by
      rw [← hW5]
      show Blk (((w1.alloc (.cells #[.int .i64 (z : Nat), .int .i64 (p : Nat), .string U] 83)).alloc (.cells #[.int .i64 (kd : Nat), .int .i64 (p : Nat), .slice (some ⟨w1.heap.size + 1 + 1, 0, none⟩) n n] 119)).alloc (.cells (madeCells #[.string ⟨#[]⟩, .int .i64 0, .int .i64 0] (n * 3)) 65)) _ _ _
      have := blk_new ((w1.alloc (.cells #[.int .i64 (z : Nat), .int .i64 (p : Nat), .string U] 83)).alloc (.cells #[.int .i64 (kd : Nat), .int .i64 (p : Nat), .slice (some ⟨w1.heap.size + 1 + 1, 0, none⟩) n n] 119)) 65 (madeCells #[.string ⟨#[]⟩, .int .i64 0, .int .i64 0] (n * 3))
      rw [size_alloc, size_alloc] at this
      exact this
    have BS : Hid (Blk W5 (w1.heap.size + 1) 119 #[.int .i64 (kd : Nat), .int .i64 (p : Nat), .slice (some ⟨w1.heap.size + 1 + 1, 0, none⟩) n n]) := by
      show Blk _ _ _ _
      rw [← hW5]
      show Blk (((w1.alloc (.cells #[.int .i64 (z : Nat), .int .i64 (p : Nat), .string U] 83)).alloc (.cells #[.int .i64 (kd : Nat), .int .i64 (p : Nat), .slice (some ⟨w1.heap.size + 1 + 1, 0, none⟩) n n] 119)).alloc (.cells (madeCells #[.string ⟨#[]⟩, .int .i64 0, .int .i64 0] (n * 3)) 65)) _ _ _
      have := blk_new (w1.alloc (.cells #[.int .i64 (z : Nat), .int .i64 (p : Nat), .string U] 83)) 119 #[.int .i64 (kd : Nat), .int .i64 (p : Nat), .slice (some ⟨w1.heap.size + 1 + 1, 0, none⟩) n n]
      rw [size_alloc] at this
      exact this.alloc _
    obtain ⟨⟨b0, b1, b2⟩, -⟩ := blk3 BS.out
    have bl := BS.out.lt
    have kv := hid'' (vals_any (k := n) (cap := n) (o := 0) H5 BV (by decide) (by omega) (by omega) (by rw [size_madeCells]; omega) (by omega) (Nat.le_refl _))
    rw [hW5]
    clear hW5 BV
    go_wp2_with (first
      | go_at_call 105
        refine kv.out.mono ?_
        rintro e w6 ⟨rfl, H6, V6, F6⟩
        have X6 : Hid (Blk w6 W.heap.size 119 #[.int .i64 0, .int .i64 0, .slice none 0 0]) := At.box H6 (At.box H1 B0.out (by omega)) (by omega)
        obtain ⟨⟨x0, x1, x2⟩, y0, y1, y2⟩ := blk3 X6.out
        have hx := X6.out.lt
        have S6 := F6.out _ _ _ (by omega) (by omega) BS.out
        obtain ⟨⟨z0, z1, z2⟩, -⟩ := blk3 S6
        have hz := S6.lt)
    have R1 := At.row (At.onto HM.out (At.onto (At.mk' H1) H6)) X6.out (by decide) hq hs0 0 [.int .i64 (kd : Nat), .int .i64 (p : Nat), .slice (some ⟨w1.heap.size + 1 + 1, 0, none⟩) n n]
    refine bodyPost_ret (v := .agg #[.int .i64 (kd : Nat), .int .i64 (p : Nat), .slice (some ⟨w1.heap.size + 1 + 1, 0, none⟩) n n]) (by simp [results, Tryz.results111, go_sem, x0, x1, x2]) rfl ⟨(⟨kd, p, (PP.vals n s1).1⟩, .slice (some ⟨w1.heap.size + 1 + 1, 0, none⟩) n n), rfl, rfl, R1, ⟨⟨_, _, by rw [hvl]⟩, ?_⟩⟩
    refine many_blk valL _ valL_len hvl (Nat.le_refl _) (by unfold maxLen; omega) ?_
    have V7 := Blk.rowFar (b := W.heap.size) (by have := At.size H1; simp at this; omega) [.int .i64 (kd : Nat), .int .i64 (p : Nat), .slice (some ⟨w1.heap.size + 1 + 1, 0, none⟩) n n] 0 _ _ V6.out
    rw [putRow_all _ _ (by rw [flat_len valL 3 valL_len, hvl, size_madeCells])] at V7
    exact V7

end Go.Proofs.YtenmkopiddmieabGreatDoor

/-
  The reader's colors, vals and refs, walked over the program.
-/
import Derived.Test.YtenmkopiddmieabGreatDoorParseVal
namespace Go.Proofs.YtenmkopiddmieabGreatDoor
open Go.RowKit

theorem blk4 {W : World} {b : Nat} {t : TypeId} {v0 v1 v2 v3 : Value} (h : Blk W b t #[v0, v1, v2, v3]) : (W.cell? ⟨b, 0, none⟩ = some v0 ∧ W.cell? ⟨b, 1, none⟩ = some v1 ∧ W.cell? ⟨b, 2, none⟩ = some v2 ∧ W.cell? ⟨b, 3, none⟩ = some v3) ∧ W.frozen? ⟨b, 0, none⟩ = false ∧ W.frozen? ⟨b, 1, none⟩ = false ∧ W.frozen? ⟨b, 2, none⟩ = false ∧ W.frozen? ⟨b, 3, none⟩ = false :=
  ⟨⟨h.cell 0, h.cell 1, h.cell 2, h.cell 3⟩, h.frozen 0, h.frozen 1, h.frozen 2, h.frozen 3⟩

set_option maxRecDepth 20000 in
set_option maxHeartbeats 1000000 in
theorem color_any {x : Cx} {q : Nat} {w0 W : World} {s : PP.St} (h : Hid (At x q w0 s W)) :
    Calls Tryz.prog 78 #[.pointer (some ⟨q, 0, none⟩)] W fun e w' => e = .returned (.agg (Ccells (PP.colr s).1)) ∧ Hid (At x q w0 (PP.colr s).2 w') := by
  have HW := At.alloc (At.new h) (.cells #[.int .u8 0, .int .u8 0, .int .u8 0, .int .u8 0] 56)
  have k1 := hid'' (next_any (At.new HW))
  have HM : Hid (Mk q w0 (W.alloc (.cells #[.int .u8 0, .int .u8 0, .int .u8 0, .int .u8 0] 56))) := (At.mk' h).alloc _
  have B0 : Hid (Blk (W.alloc (.cells #[.int .u8 0, .int .u8 0, .int .u8 0, .int .u8 0] 56)) W.heap.size 56 #[.int .u8 0, .int .u8 0, .int .u8 0, .int .u8 0]) := blk_new _ _ _
  have hq : q < W.heap.size := (At.rd h).lt
  have hs0 := At.size h
  have h1 : wagg s.nx = .agg #[.int .i64 (s.nx.1 : Nat), .int .i64 (s.nx.2.1 : Nat), .string ⟨s.nx.2.2.toArray⟩] := rfl
  rw [h1] at k1
  obtain ⟨f0, f1, f2⟩ := fld_w (s.nx.1 : Nat) (s.nx.2.1 : Nat) ⟨s.nx.2.2.toArray⟩
  have kn : Hid (∀ w0 W, Hid (At x q w0 s W) → Calls Tryz.prog 93 #[.string ⟨s.nx.2.2.toArray⟩] W fun e w' => e = .returned (clv x.ea (PP.colOf s.nx.2.2)) ∧ Hid (At x q w0 s w')) := fun w0 W H => col_any _ H
  have HA : Hid (PP.colr s = match PP.colOf s.nx.2.2 with | some n => (n, s.tl) | none => (PP.c0, (s.fail 0).tl)) := by show _ = _; rfl
  rw [HA.out]
  obtain ⟨R, hR⟩ : ∃ R, PP.colOf s.nx.2.2 = R := ⟨_, rfl⟩
  rw [hR] at kn ⊢
  clear h h1 hR HA HW
  cases R with
  | some c =>
    obtain ⟨r, g, b, a⟩ := c
    simp only [clv, Ccells] at kn ⊢
    go_enter Tryz.func78, Tryz.ntmps78
    go_wp2_with (first
      | go_at_call 50
        refine (take_any (At.new (At.alloc H2 _))).mono ?_
        rintro e w3 ⟨rfl, H3⟩
        have X1 : Hid (Blk w3 W.heap.size 56 #[.int .u8 0, .int .u8 0, .int .u8 0, .int .u8 0]) := At.box H3 (Blk.alloc (At.box H2 B0.out (by omega)) _) (by omega)
        have hx := X1.out.lt
        obtain ⟨⟨x0, x1, x2, x3⟩, y0, y1, y2, y3⟩ := blk4 X1.out
        have Z1 : Hid (Blk w3 w2.heap.size 56 #[.int .u8 (r : Nat), .int .u8 (g : Nat), .int .u8 (b : Nat), .int .u8 (a : Nat)]) := At.box H3 (blk_new _ _ _) (by have := (At.rd H2).lt; omega)
        obtain ⟨⟨z0, z1, z2, z3⟩, -⟩ := blk4 Z1.out
        have hz := Z1.out.lt
      | (go_at_call 93; refine (kn.out _ _ H1).mono ?_; rintro e w2 ⟨rfl, H2⟩)
      | (go_at_call 49; refine k1.out.mono ?_; rintro e w1 ⟨rfl, H1, B1⟩))
    have R1 := At.row (At.onto HM.out (At.onto ((At.mk' H2).alloc _) H3)) X1.out (by decide) hq hs0 0 [.int .u8 (r : Nat), .int .u8 (g : Nat), .int .u8 (b : Nat), .int .u8 (a : Nat)]
    refine bodyPost_ret (v := .agg #[.int .u8 (r : Nat), .int .u8 (g : Nat), .int .u8 (b : Nat), .int .u8 (a : Nat)]) (by simp [results, Tryz.results78, go_sem, x0, x1, x2, x3]) rfl ⟨rfl, ?_⟩
    exact R1
  | none =>
    simp only [clv, Ccells] at kn ⊢
    go_enter Tryz.func78, Tryz.ntmps78
    go_wp2_with (first
      | go_at_call 50
        refine (take_any H3).mono ?_
        rintro e w4 ⟨rfl, H4⟩
        have X1 : Hid (Blk w4 W.heap.size 56 #[.int .u8 0, .int .u8 0, .int .u8 0, .int .u8 0]) := At.box H4 (Blk.alloc (At.box H2 B0.out (by omega)) _) (by omega)
        have hx := X1.out.lt
        obtain ⟨⟨x0, x1, x2, x3⟩, y0, y1, y2, y3⟩ := blk4 X1.out
        have Z1 : Hid (Blk w4 w2.heap.size 56 #[.int .u8 0, .int .u8 0, .int .u8 0, .int .u8 0]) := At.box H4 (blk_new _ _ _) (by have := (At.rd H2).lt; omega)
        obtain ⟨⟨z0, z1, z2, z3⟩, -⟩ := blk4 Z1.out
        have hz := Z1.out.lt
      | (go_at_call 47; refine (fail0_any (At.new (At.alloc H2 _))).mono ?_; rintro e w3 ⟨rfl, H3⟩)
      | (go_at_call 93; refine (kn.out _ _ H1).mono ?_; rintro e w2 ⟨rfl, H2⟩; obtain ⟨c1, c2, c3, c4, c5⟩ := At.errs H2)
      | (go_at_call 49; refine k1.out.mono ?_; rintro e w1 ⟨rfl, H1, B1⟩))
    have R1 := At.row (At.onto HM.out (At.onto ((At.mk' H2).alloc _) H4)) X1.out (by decide) hq hs0 0 [.int .u8 0, .int .u8 0, .int .u8 0, .int .u8 0]
    refine bodyPost_ret (v := .agg #[.int .u8 0, .int .u8 0, .int .u8 0, .int .u8 0]) (by simp [results, Tryz.results78, go_sem, x0, x1, x2, x3]) rfl ⟨rfl, ?_⟩
    exact R1

end Go.Proofs.YtenmkopiddmieabGreatDoor

/-
  The reader's refs, walked over the program.
-/
import Derived.Test.YtenmkopiddmieabGreatDoorParseVal3
namespace Go.Proofs.YtenmkopiddmieabGreatDoor
open Go.RowKit

theorem blk6 {W : World} {b : Nat} {t : TypeId} {v0 v1 v2 v3 v4 v5 : Value} (h : Blk W b t #[v0, v1, v2, v3, v4, v5]) : (W.cell? ⟨b, 0, none⟩ = some v0 ∧ W.cell? ⟨b, 1, none⟩ = some v1 ∧ W.cell? ⟨b, 2, none⟩ = some v2 ∧ W.cell? ⟨b, 3, none⟩ = some v3 ∧ W.cell? ⟨b, 4, none⟩ = some v4 ∧ W.cell? ⟨b, 5, none⟩ = some v5) ∧ W.frozen? ⟨b, 0, none⟩ = false ∧ W.frozen? ⟨b, 1, none⟩ = false ∧ W.frozen? ⟨b, 2, none⟩ = false ∧ W.frozen? ⟨b, 3, none⟩ = false ∧ W.frozen? ⟨b, 4, none⟩ = false ∧ W.frozen? ⟨b, 5, none⟩ = false :=
  ⟨⟨h.cell 0, h.cell 1, h.cell 2, h.cell 3, h.cell 4, h.cell 5⟩, h.frozen 0, h.frozen 1, h.frozen 2, h.frozen 3, h.frozen 4, h.frozen 5⟩

set_option maxRecDepth 20000 in
set_option maxHeartbeats 1000000 in
theorem ref_any {x : Cx} {q : Nat} {w0 W : World} {s : PP.St} (h : Hid (At x q w0 s W)) :
    Calls Tryz.prog 97 #[.pointer (some ⟨q, 0, none⟩)] W fun e w' => e = .returned (.agg (refL (PP.ref s).1).toArray) ∧ Hid (At x q w0 (PP.ref s).2 w') := by
  have HW := At.alloc (At.new h) (.cells #[.string ⟨#[]⟩, .int .u8 0, .int .u8 0, .int .u8 0, .int .u8 0, .int .i64 0] 66)
  have k1 := hid'' (next_any (At.new HW))
  have HM : Hid (Mk q w0 (W.alloc (.cells #[.string ⟨#[]⟩, .int .u8 0, .int .u8 0, .int .u8 0, .int .u8 0, .int .i64 0] 66))) := (At.mk' h).alloc _
  have B0 : Hid (Blk (W.alloc (.cells #[.string ⟨#[]⟩, .int .u8 0, .int .u8 0, .int .u8 0, .int .u8 0, .int .i64 0] 66)) W.heap.size 66 #[.string ⟨#[]⟩, .int .u8 0, .int .u8 0, .int .u8 0, .int .u8 0, .int .i64 0]) := blk_new _ _ _
  have hq : q < W.heap.size := (At.rd h).lt
  have hs0 := At.size h
  have h1 : wagg s.nx = .agg #[.int .i64 (s.nx.1 : Nat), .int .i64 (s.nx.2.1 : Nat), .string ⟨s.nx.2.2.toArray⟩] := rfl
  rw [h1] at k1
  obtain ⟨z, hz⟩ : ∃ z, s.nx.1 = z := ⟨_, rfl⟩
  obtain ⟨p, hp⟩ : ∃ p, s.nx.2.1 = p := ⟨_, rfl⟩
  obtain ⟨U, hU⟩ : ∃ U : ByteArray, ⟨s.nx.2.2.toArray⟩ = U := ⟨_, rfl⟩
  have HV : Hid (wagg s.nx = .agg #[.int .i64 (z : Nat), .int .i64 (p : Nat), .string U]) := by show _ = _; rw [h1, hz, hp, hU]
  have HA : Hid (PP.ref s = if z = 1 then (⟨s.nx.2.2, PP.c0, p⟩, s.tl) else (⟨[], (PP.colr s).1, p⟩, (PP.colr s).2)) := by show _ = _; rw [← hz, ← hp]; rfl
  rw [hz, hp, hU] at k1
  rw [HA.out]
  by_cases hk : z = 1
  · subst hk
    rw [if_pos rfl]
    have e1 : (Value.agg (refL ⟨s.nx.2.2, PP.c0, p⟩).toArray) = .agg #[.string U, .int .u8 0, .int .u8 0, .int .u8 0, .int .u8 0, .int .i64 (p : Nat)] := by rw [← hU]; rfl
    show Calls _ _ _ _ fun e w' => e = .returned (.agg (refL ⟨s.nx.2.2, PP.c0, p⟩).toArray) ∧ Hid (At x q w0 s.tl w')
    rw [e1]
    have kt : Hid (∀ w0 W, Hid (At x q w0 s W) → Calls Tryz.prog 50 #[.pointer (some ⟨q, 0, none⟩)] W fun e w' => e = .returned (.agg #[.int .i64 1, .int .i64 (p : Nat), .string U]) ∧ Hid (At x q w0 s.tl w')) := fun w0 W H => by
      have := take_any H
      rw [HV.out] at this
      exact this
    obtain ⟨f0, f1, f2⟩ := fld_w 1 (p : Nat) U
    clear h h1 hz hp hU HV HA e1 HW
    go_enter Tryz.func97, Tryz.ntmps97
    go_wp2_with (first
      | go_at_call 49
        refine k1.out.mono ?_
        rintro e w1 ⟨rfl, H1, B1⟩
        have H2 := At.new (At.alloc H1 (.cells #[.int .i64 1, .int .i64 (p : Nat), .string U] 83)))
    go_region_with (first
      | go_at_call 50
        refine (kt.out _ _ (by first | exact H2 | exact At.drew H2)).mono ?_
        rintro e w3 ⟨rfl, H3⟩
        have X1 : Hid (Blk w3 W.heap.size 66 #[.string ⟨#[]⟩, .int .u8 0, .int .u8 0, .int .u8 0, .int .u8 0, .int .i64 0]) := At.box H3 (Blk.alloc (At.box H1 B0.out (by omega)) _) (by omega)
        have hx := X1.out.lt
        obtain ⟨⟨x0, x1, x2, x3, x4, x5⟩, y0, y1, y2, y3, y4, y5⟩ := blk6 X1.out
        have Z1 : Hid (Blk w3 w1.heap.size 83 #[.int .i64 1, .int .i64 (p : Nat), .string U]) := At.box H3 (blk_new _ _ _) (by have := (At.rd H1).lt; omega)
        obtain ⟨⟨z0, z1, z2⟩, -⟩ := blk3 Z1.out
        have hz := Z1.out.lt)
    all_goals go_wp2
    all_goals
      have R1 := At.row (At.onto HM.out (At.onto ((At.mk' H1).alloc _) H3)) X1.out (by decide) hq hs0 0 [.string U, .int .u8 0, .int .u8 0, .int .u8 0, .int .u8 0, .int .i64 (p : Nat)]
      refine bodyPost_ret (v := .agg #[.string U, .int .u8 0, .int .u8 0, .int .u8 0, .int .u8 0, .int .i64 (p : Nat)]) (by simp [results, Tryz.results97, go_sem, x0, x1, x2, x3, x4, x5]) rfl ⟨rfl, ?_⟩
      first | exact R1 | exact At.drew R1
  · rw [if_neg hk]
    obtain ⟨m, hm⟩ : ∃ m, (PP.colr s).1 = m := ⟨_, rfl⟩
    obtain ⟨r, g, b, a⟩ := m
    have e1 : (Value.agg (refL ⟨[], ⟨r, g, b, a⟩, p⟩).toArray) = .agg #[.string ⟨#[]⟩, .int .u8 (r : Nat), .int .u8 (g : Nat), .int .u8 (b : Nat), .int .u8 (a : Nat), .int .i64 (p : Nat)] := by rfl
    show Calls _ _ _ _ fun e w' => e = .returned (.agg (refL ⟨[], (PP.colr s).1, p⟩).toArray) ∧ Hid (At x q w0 (PP.colr s).2 w')
    rw [hm, e1]
    have kt : Hid (∀ w0 W, Hid (At x q w0 s W) → Calls Tryz.prog 78 #[.pointer (some ⟨q, 0, none⟩)] W fun e w' => e = .returned (.agg #[.int .u8 (r : Nat), .int .u8 (g : Nat), .int .u8 (b : Nat), .int .u8 (a : Nat)]) ∧ Hid (At x q w0 (PP.colr s).2 w')) := fun w0 W H => by
      have := color_any H
      rw [hm] at this
      exact this
    obtain ⟨f0, f1, f2⟩ := fld_w (z : Nat) (p : Nat) U
    have d1 : ((z : Int) == 1) = false := by simp; omega
    have d2 : ¬ (z : Int) = 1 := by omega
    clear h h1 hz hp hU HV HA e1 HW hm hk
    go_enter Tryz.func97, Tryz.ntmps97
    go_wp2_with (first
      | go_at_call 49
        refine k1.out.mono ?_
        rintro e w1 ⟨rfl, H1, B1⟩
        have H2 := At.new (At.alloc H1 (.cells #[.int .i64 (z : Nat), .int .i64 (p : Nat), .string U] 83)))
    go_region_with (first
      | go_at_call 78
        refine (kt.out _ _ (by first | exact H2 | exact At.drew H2)).mono ?_
        rintro e w3 ⟨rfl, H3⟩
        have X1 : Hid (Blk w3 W.heap.size 66 #[.string ⟨#[]⟩, .int .u8 0, .int .u8 0, .int .u8 0, .int .u8 0, .int .i64 0]) := At.box H3 (Blk.alloc (At.box H1 B0.out (by omega)) _) (by omega)
        have hx := X1.out.lt
        obtain ⟨⟨x0, x1, x2, x3, x4, x5⟩, y0, y1, y2, y3, y4, y5⟩ := blk6 X1.out
        have Z1 : Hid (Blk w3 w1.heap.size 83 #[.int .i64 (z : Nat), .int .i64 (p : Nat), .string U]) := At.box H3 (blk_new _ _ _) (by have := (At.rd H1).lt; omega)
        obtain ⟨⟨z0, z1, z2⟩, -⟩ := blk3 Z1.out
        have hz := Z1.out.lt)
    all_goals go_wp2
    all_goals
      have R1 := At.row (At.onto HM.out (At.onto ((At.mk' H1).alloc _) H3)) X1.out (by decide) hq hs0 0 [.string ⟨#[]⟩, .int .u8 (r : Nat), .int .u8 (g : Nat), .int .u8 (b : Nat), .int .u8 (a : Nat), .int .i64 (p : Nat)]
      refine bodyPost_ret (v := .agg #[.string ⟨#[]⟩, .int .u8 (r : Nat), .int .u8 (g : Nat), .int .u8 (b : Nat), .int .u8 (a : Nat), .int .i64 (p : Nat)]) (by simp [results, Tryz.results97, go_sem, x0, x1, x2, x3, x4, x5]) rfl ⟨rfl, ?_⟩
      first | exact R1 | exact At.drew R1

end Go.Proofs.YtenmkopiddmieabGreatDoor

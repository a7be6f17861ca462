/-
  A writer writes counts and points: walked over the program.
-/
import Derived.Test.YtofmbedjbnbjlaaDoorEncNum
namespace Go.Proofs.YtofmbedjbnbjlaaDoor
open Go.RowKit

/-- A part of a point as it may be. -/
def PtB (p : IC.Pt) : Prop := (-1099511627776 ≤ p.x ∧ p.x ≤ 1099511627776) ∧ (-1099511627776 ≤ p.y ∧ p.y ≤ 1099511627776)

theorem len_l {a b : List Nat} {M : Nat} (h : (a ++ b).length ≤ M) : a.length ≤ M := by rw [List.length_append] at h; omega

theorem seven_cells {w : World} {b : Nat} {t : TypeId} {v0 v1 v2 v3 v4 v5 v6 : Value} (h : Blk w b t #[v0, v1, v2, v3, v4, v5, v6]) : w.cell? ⟨b, 0, none⟩ = some v0 ∧ w.cell? ⟨b, 1, none⟩ = some v1 ∧ w.cell? ⟨b, 2, none⟩ = some v2 ∧ w.cell? ⟨b, 3, none⟩ = some v3 ∧ w.cell? ⟨b, 4, none⟩ = some v4 ∧ w.cell? ⟨b, 5, none⟩ = some v5 ∧ w.cell? ⟨b, 6, none⟩ = some v6 :=
  ⟨h.cell 0, h.cell 1, h.cell 2, h.cell 3, h.cell 4, h.cell 5, h.cell 6⟩

theorem wcount_any (q : Nat) (bs : List Nat) (n : Nat) (w : World) (h : Wr w q bs) (hn : n ≤ 9223372036854775807) (hl : bs.length ≤ 100000000000000) :
    Calls Tryd.prog 54 #[.pointer (some ⟨q, 0, none⟩), .int .i64 n] w fun e w' => e = .returned (.tuple #[]) ∧ Wr w' q (bs ++ EP.num n) ∧ Wk q w w' := by
  have k := wnum_any q bs n w h (by omega) hl
  go_enter Tryd.func54, Tryd.ntmps54
  go_wp2_with (go_at_call 73; refine k.mono ?_; rintro e w1 ⟨rfl, h1, h2⟩)
  go_end0
  exact ⟨rfl, h1, h2⟩

set_option maxRecDepth 20000 in
theorem wpt_any (q : Nat) (bs : List Nat) (p : IC.Pt) (w : World) (h : Wr w q bs) (hp : PtB p ∨ (∃ o p', PtB o ∧ PtB p' ∧ p = ⟨p'.x - o.x, p'.y - o.y⟩)) (hl : (bs ++ EP.pt p).length ≤ 100000000000000) :
    Calls Tryd.prog 93 #[.pointer (some ⟨q, 0, none⟩), .agg p.cells.toArray] w fun e w' => e = .returned (.tuple #[]) ∧ Wr w' q (bs ++ EP.pt p) ∧ Wk q w w' := by
  obtain ⟨x, y⟩ := p
  have hb : (-9223372036854775808 ≤ x ∧ x ≤ 9223372036854775807) ∧ (-9223372036854775808 ≤ y ∧ y ≤ 9223372036854775807) := by
    rcases hp with hp | ⟨o, p', h1, h2, h3⟩
    · unfold PtB at hp; simp only at hp; omega
    · unfold PtB at h1 h2; simp at h3; omega
  have hq := h.lt
  have HW : Hid (Wr w q bs) := h
  have kx : Hid (∀ W, Calls Tryd.prog 100 #[.int .i64 x] W fun e w' => e = .returned (.int .u64 (EP.zig x)) ∧ ∃ m, w' = W.drewN m) := fun W => by have := zig_any x W hb.1.1 hb.1.2; rw [zig_nat] at this; exact this
  have ky : Hid (∀ W, Calls Tryd.prog 100 #[.int .i64 y] W fun e w' => e = .returned (.int .u64 (EP.zig y)) ∧ ∃ m, w' = W.drewN m) := fun W => by have := zig_any y W hb.2.1 hb.2.2; rw [zig_nat] at this; exact this
  have hl' : (bs ++ EP.zg x).length ≤ 100000000000000 := by unfold EP.pt at hl; rw [← List.append_assoc] at hl; exact len_l hl
  have kn : Hid (∀ W, Wr W q bs → Calls Tryd.prog 73 #[.pointer (some ⟨q, 0, none⟩), .int .u64 (EP.zig x)] W fun e w' => e = .returned (.tuple #[]) ∧ Wr w' q (bs ++ EP.zg x) ∧ Wk q W w') := fun W hW => wnum_any q bs _ W hW (zig_lt hb.1.1 hb.1.2) (len_l hl')
  have km : Hid (∀ W, Wr W q (bs ++ EP.zg x) → Calls Tryd.prog 73 #[.pointer (some ⟨q, 0, none⟩), .int .u64 (EP.zig y)] W fun e w' => e = .returned (.tuple #[]) ∧ Wr w' q (bs ++ EP.zg x ++ EP.zg y) ∧ Wk q W w') := fun W hW => wnum_any q _ _ W hW (zig_lt hb.2.1 hb.2.2) hl'
  have HE : Hid (bs ++ EP.pt ⟨x, y⟩ = bs ++ EP.zg x ++ EP.zg y) := by show _ = _; unfold EP.pt; rw [List.append_assoc]
  rw [HE.out]
  clear hl hl' HE h hp hb
  simp only [IC.Pt.cells]
  go_enter Tryd.func93, Tryd.ntmps93
  generalize EP.zig x = zx at kx kn
  generalize EP.zig y = zy at ky km
  go_wp2_with (first
    | (go_at_call 100; (with_reducible refine (kx.out _).mono ?_); rintro e w1 ⟨rfl, m1, rfl⟩)
    | (go_at_call 73; (with_reducible refine (kn.out _ ?_).mono ?_); (first | exact (HW.out.alloc _) | exact ((HW.out.alloc _).keep (below_drewN (Below.refl _ _) _))); rintro e w2 ⟨rfl, h2, hk2⟩
       have HW2 : Hid (Wr w2 q (bs ++ EP.zg x)) := h2
       have HK2 : Hid (Wk q w w2) := (((Wk.refl q w).alloc _).drewN _).trans hk2
       have hB2 : Blk w2 w.heap.size 40 #[.int .i64 x, .int .i64 y] := Blk.wk (show Blk ((w.alloc (.cells #[.int .i64 x, .int .i64 y] 40)).drewN m1) w.heap.size 40 #[.int .i64 x, .int .i64 y] from blk_new w 40 #[.int .i64 x, .int .i64 y]) hk2 (by omega) (by decide)
       obtain ⟨⟨d0, d1⟩, -⟩ := cells_two hB2
       have z2 := hB2.lt
       clear h2 hk2 hB2)
    | (go_at_call 100; (with_reducible refine (ky.out _).mono ?_); rintro e w3 ⟨rfl, m3, rfl⟩)
    | (go_at_call 73; (with_reducible refine (km.out _ ?_).mono ?_); (first | exact HW2.out | exact (HW2.out.keep (below_drewN (Below.refl _ _) _))); rintro e w4 ⟨rfl, h4, hk4⟩))
  go_end0
  exact ⟨rfl, h4, (HK2.out.drewN _).trans hk4⟩

end Go.Proofs.YtofmbedjbnbjlaaDoor

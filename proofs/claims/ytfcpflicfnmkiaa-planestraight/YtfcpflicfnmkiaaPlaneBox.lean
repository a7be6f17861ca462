/-
  A point in memory that may be written: what stands there behind a call, a new block, a store.
-/
import Derived.Test.YtfcpflicfnmkiaaPlaneRef
import Derived.Deep.Cut
namespace Go.Proofs.Ytfcpflicfnmkiaa
open Go.RowKit

/-- Two cells of a block that may be written. -/
def Box (w : World) (b : Nat) (v0 v1 : Value) : Prop := Two w b v0 v1 ∧ w.frozen? ⟨b, 0, none⟩ = false ∧ w.frozen? ⟨b, 1, none⟩ = false

theorem Box.below {w w' : World} {b : Nat} {v0 v1 : Value} (h : Box w b v0 v1) (hb : Below w.heap.size w w') : Box w' b v0 v1 :=
  ⟨h.1.below hb, (hb.frozen (p := ⟨b, 0, none⟩) h.1.1).trans h.2.1, (hb.frozen (p := ⟨b, 1, none⟩) h.1.1).trans h.2.2⟩

theorem box_new (w : World) (v0 v1 : Value) (t : TypeId) : Box (w.alloc (.cells #[v0, v1] t)) w.heap.size v0 v1 :=
  ⟨two_new w v0 v1 t (0, 0), by rw [World.frozen?_alloc_mark]; simp, by rw [World.frozen?_alloc_mark]; simp⟩

theorem Box.alloc {w : World} {b : Nat} {v0 v1 : Value} (h : Box w b v0 v1) (o : Obj) : Box (w.alloc o) b v0 v1 := h.below ((Below.refl _ _).alloc (Nat.le_refl _) _)

/-- A point that is stored. -/
def set2 (w : World) (b : Nat) (x y : Value) : World := (w.setCell ⟨b, 0, none⟩ x).setCell ⟨b, 1, none⟩ y

theorem set2_size (w : World) (b : Nat) (x y : Value) : (set2 w b x y).heap.size = w.heap.size := by simp [set2]

theorem Box.set {w : World} {b : Nat} {v0 v1 : Value} (h : Box w b v0 v1) (x y : Value) : Box (set2 w b x y) b x y := by
  obtain ⟨⟨hl, h0, h1⟩, f0, f1⟩ := h
  refine ⟨⟨by rw [set2_size]; exact hl, ?_, ?_⟩, by simp [set2, f0], by simp [set2, f1]⟩
  · unfold set2
    rw [World.cell?_setCell_other (h := by simp)]
    exact World.cell?_setCell_same _ _ _ h0
  · unfold set2
    refine World.cell?_setCell_same _ _ _ (?_ : _ = some v1)
    rw [World.cell?_setCell_other (h := by simp)]
    exact h1

theorem Box.far {w : World} {b c : Nat} {v0 v1 : Value} (h : Box w b v0 v1) (hc : c ≠ b) (x y : Value) : Box (set2 w c x y) b v0 v1 := by
  obtain ⟨⟨hl, h0, h1⟩, f0, f1⟩ := h
  refine ⟨⟨by rw [set2_size]; exact hl, ?_, ?_⟩, by simp [set2, f0], by simp [set2, f1]⟩
  · unfold set2
    rw [World.cell?_setCell_other (h := by simp), World.cell?_setCell_other (h := by simp)]
    exact h0
  · unfold set2
    rw [World.cell?_setCell_other (h := by simp), World.cell?_setCell_other (h := by simp)]
    exact h1

theorem below_set2 {B c : Nat} {a w : World} (h : Below B a w) (hc : B ≤ c) (x y : Value) : Below B a (set2 w c x y) := (h.setCell (p := ⟨c, 0, none⟩) hc x).setCell (p := ⟨c, 1, none⟩) hc y

theorem chain {w a b : World} (h : Below w.heap.size w a) (k : Below a.heap.size a b) : Below w.heap.size w b := h.trans (k.mono h.size)

theorem sub_below (ax ay bx bY : Int) (w : World) (h1 : -9223372036854775808 ≤ ax - bx ∧ ax - bx ≤ 9223372036854775807) (h2 : -9223372036854775808 ≤ ay - bY ∧ ay - bY ≤ 9223372036854775807) :
    Calls Try.prog 20 #[.agg #[.int .i64 ax, .int .i64 ay], .agg #[.int .i64 bx, .int .i64 bY]] w fun e w' => e = .returned (.agg #[.int .i64 (ax - bx), .int .i64 (ay - bY)]) ∧ Below w.heap.size w w' := by
  refine (sub_any ax ay bx bY w h1 h2).mono ?_
  rintro e w' ⟨rfl, rfl⟩
  exact ⟨rfl, (((Below.refl _ _).alloc (by omega) _).alloc (by simp) _).alloc (by simp; omega) _⟩

/-- Two points that are the same, however they are spelled. -/
theorem samept_eq (x y u v : Int) (w : World) (hx : u = x) (hy : v = y) :
    Calls Try.prog 18 #[.agg #[.int .i64 x, .int .i64 y], .agg #[.int .i64 u, .int .i64 v]] w fun e w' => e = .returned (.bool true) ∧ Below w.heap.size w w' := by
  subst hx; subst hy; exact samept_any _ _ w

/-- Points in memory, cell by cell. -/
theorem cells_of3 {W : World} {b0 b1 b2 : Nat} {u0 v0 u1 v1 u2 v2 : Value} (h0 : Two W b0 u0 v0) (h1 : Two W b1 u1 v1) (h2 : Two W b2 u2 v2) : W.cell? ⟨b0, 0, none⟩ = some u0 ∧ W.cell? ⟨b0, 1, none⟩ = some v0 ∧ W.cell? ⟨b1, 0, none⟩ = some u1 ∧ W.cell? ⟨b1, 1, none⟩ = some v1 ∧ W.cell? ⟨b2, 0, none⟩ = some u2 ∧ W.cell? ⟨b2, 1, none⟩ = some v2 :=
  ⟨h0.2.1, h0.2.2, h1.2.1, h1.2.2, h2.2.1, h2.2.2⟩

theorem cells_of4 {W : World} {b0 b1 b2 b3 : Nat} {u0 v0 u1 v1 u2 v2 u3 v3 : Value} (h0 : Two W b0 u0 v0) (h1 : Two W b1 u1 v1) (h2 : Two W b2 u2 v2) (h3 : Two W b3 u3 v3) : W.cell? ⟨b0, 0, none⟩ = some u0 ∧ W.cell? ⟨b0, 1, none⟩ = some v0 ∧ W.cell? ⟨b1, 0, none⟩ = some u1 ∧ W.cell? ⟨b1, 1, none⟩ = some v1 ∧ W.cell? ⟨b2, 0, none⟩ = some u2 ∧ W.cell? ⟨b2, 1, none⟩ = some v2 ∧ W.cell? ⟨b3, 0, none⟩ = some u3 ∧ W.cell? ⟨b3, 1, none⟩ = some v3 :=
  ⟨h0.2.1, h0.2.2, h1.2.1, h1.2.2, h2.2.1, h2.2.2, h3.2.1, h3.2.2⟩

/-- What is left over of a division, with its sign. -/
theorem tmod_in (x k : Int) (hk : 0 < k) : -k < x.tmod k ∧ x.tmod k < k := by
  rcases Int.le_total 0 x with h | h
  · rw [Int.tmod_eq_emod_of_nonneg h]
    have := Int.emod_nonneg x (b := k) (by omega)
    have := Int.emod_lt_of_pos x hk
    omega
  · have e : x.tmod k = -((-x).tmod k) := by rw [Int.neg_tmod]; omega
    rw [e, Int.tmod_eq_emod_of_nonneg (by omega)]
    have := Int.emod_nonneg (-x) (b := k) (by omega)
    have := Int.emod_lt_of_pos (-x) hk
    omega

theorem in_tmod (x : Int) : PL.In (x.tmod 134217729) := by
  have := tmod_in x 134217729 (by omega)
  exact ⟨by omega, by omega⟩

end Go.Proofs.Ytfcpflicfnmkiaa

/-
  What the icon roads lean on: lists of structs in memory, read cell by cell; the errors as values.
-/
import Derived.WalkKit
import Derived.WalkSpells
import Derived.WalkLawsBesides
import Derived.Deep.QuietTactic
import Derived.BigQuiet
import Derived.Deep.RegionWith
import Derived.Deep.RegionLaw
import Derived.Deep.RegionHeld3
import Derived.Sort.AtCall
import Derived.OwnWalk
import Derived.Test.YtcnlkdoifogkbaaGreatDoorProg
import Derived.Test.YtcnlkdoifogkbaaGreatDoorIconPlain
namespace Go.Proofs.YtcnlkdoifogkbaaGreatDoor
open Go.RowKit

theorem ret_int {k : IntKind} {a b : Int} (h : a = b) : Ending.returned (.int k a) = .returned (.int k b) := by rw [h]
theorem ret_bool {a b : Bool} (h : a = b) : Ending.returned (.bool a) = .returned (.bool b) := by rw [h]
theorem ret_v {a b : Value} (h : a = b) : Ending.returned a = .returned b := by rw [h]

theorem below_drewN {B : Nat} {a w : World} (h : Below B a w) (n : Nat) : Below B a (w.drewN n) := ⟨h.os, h.tape, h.output, h.size, h.block⟩
theorem below_of_drew {w w' : World} (h : Below w.drew.heap.size w.drew w') : Below w.heap.size w w' := ⟨h.os, h.tape, h.output, h.size, h.block⟩
theorem size_alloc (w : World) (o : Obj) : (w.alloc o).heap.size = w.heap.size + 1 := by simp
theorem chain {w w1 w2 : World} (h : Below w.heap.size w w1) (k : Below w1.heap.size w1 w2) : Below w.heap.size w w2 := h.trans (k.mono h.size)
theorem bcell {W w1 : World} (hb : Below W.heap.size W w1) : (∀ b o, b < W.heap.size → w1.cell? ⟨b, o, none⟩ = W.cell? ⟨b, o, none⟩) ∧ (∀ b o, b < W.heap.size → w1.frozen? ⟨b, o, none⟩ = W.frozen? ⟨b, o, none⟩) :=
  ⟨fun b o h => hb.cell (p := ⟨b, o, none⟩) h, fun b o h => hb.frozen (p := ⟨b, o, none⟩) h⟩

theorem cell_new (w : World) (a : Array Value) (t : TypeId) (fr : Nat × Nat) (j : Nat) : (w.alloc (.cells a t fr)).cell? ⟨w.heap.size, j, none⟩ = a[j]? := by
  rw [World.cell?_alloc_mark]

/-- What a world that has grown behind one box, two boxes, holds. -/
theorem boxes1 {w w1 : World} {a : Array Value} {t : TypeId} {fr : Nat × Nat} (hb : Below (w.alloc (.cells a t fr)).heap.size (w.alloc (.cells a t fr)) w1) :
    (∀ j, w1.cell? ⟨w.heap.size, j, none⟩ = a[j]?) ∧ (∀ k j, k < w.heap.size → w1.cell? ⟨k, j, none⟩ = w.cell? ⟨k, j, none⟩) := by
  refine ⟨fun j => ?_, fun k j hk => ?_⟩
  · rw [hb.cell (p := ⟨w.heap.size, j, none⟩) (by simp), cell_new]
  · rw [hb.cell (p := ⟨k, j, none⟩) (by simp; omega)]
    exact World.cell?_of_block (Below.heap_alloc _ _ _ hk)

theorem boxes2 {w w1 : World} {a b : Array Value} {t t' : TypeId} {fr fr' : Nat × Nat} (hb : Below ((w.alloc (.cells a t fr)).alloc (.cells b t' fr')).heap.size ((w.alloc (.cells a t fr)).alloc (.cells b t' fr')) w1) :
    (∀ j, w1.cell? ⟨w.heap.size, j, none⟩ = a[j]?) ∧ (∀ j, w1.cell? ⟨w.heap.size + 1, j, none⟩ = b[j]?) ∧ (∀ k j, k < w.heap.size → w1.cell? ⟨k, j, none⟩ = w.cell? ⟨k, j, none⟩) := by
  have h2 := boxes1 hb
  have e : (w.alloc (.cells a t fr)).heap.size = w.heap.size + 1 := by simp
  rw [e] at h2
  refine ⟨fun j => ?_, h2.1, fun k j hk => ?_⟩
  · rw [h2.2 _ j (by omega), cell_new]
  · rw [h2.2 _ j (by omega)]
    exact World.cell?_of_block (Below.heap_alloc _ _ _ hk)

theorem sizes1 {w w1 : World} {o : Obj} (hb : Below (w.alloc o).heap.size (w.alloc o) w1) : w.heap.size < w1.heap.size := by
  have := hb.size
  simp at this
  omega
theorem sizes2 {w w1 : World} {o o' : Obj} (hb : Below ((w.alloc o).alloc o').heap.size ((w.alloc o).alloc o') w1) : w.heap.size < w1.heap.size ∧ w.heap.size + 1 < w1.heap.size := by
  have := hb.size
  simp at this
  omega

/-- A list of structs that is read: nil, or its elements' cells one behind the other, from some place of a block on. -/
def Row (w : World) (t : TypeId) (size : Nat) (v : Value) (n : Nat) (xs : List Value) : Prop :=
  xs.length = n * size ∧ ((v = .slice none 0 0 ∧ n = 0) ∨ ∃ g o cap, v = .slice (some ⟨g, o, none⟩) n cap ∧ n ≤ cap ∧ cap ≤ maxLen ∧ g < w.heap.size ∧ (∃ cur, w.heap[g]? = some (.cells cur t (0, 0))) ∧ ∀ j u, xs[j]? = some u → w.cell? ⟨g, o + j, none⟩ = some u)

theorem Row.below {w w' : World} {t : TypeId} {size n : Nat} {v : Value} {xs : List Value} (h : Row w t size v n xs) (hb : Below w.heap.size w w') : Row w' t size v n xs := by
  refine ⟨h.1, ?_⟩
  rcases h.2 with h | ⟨g, o, cap, h1, h2, h3, h4, ⟨cur, h5⟩, h6⟩
  · exact .inl h
  · exact .inr ⟨g, o, cap, h1, h2, h3, Nat.lt_of_lt_of_le h4 hb.size, ⟨cur, by rw [hb.block g h4]; exact h5⟩, fun j u hj => (hb.cell (p := ⟨g, o + j, none⟩) h4).trans (h6 j u hj)⟩

/-- It stays, where its block is none that has been written. -/
theorem Row.kept {w w' : World} {t : TypeId} {size n : Nat} {v : Value} {xs : List Value} {row : Option Nat} (h : Row w t size v n xs) (hg : w.grownBy w' row) (hne : ∀ b, row = some b → ∀ cur, w.heap[b]? ≠ some (.cells cur t (0, 0))) : Row w' t size v n xs := by
  refine ⟨h.1, ?_⟩
  rcases h.2 with h | ⟨g, o, cap, h1, h2, h3, h4, ⟨cur, h5⟩, h6⟩
  · exact .inl h
  · have hr : some g ≠ row := fun e => hne g e.symm cur h5
    exact .inr ⟨g, o, cap, h1, h2, h3, Nat.lt_of_lt_of_le h4 hg.size, ⟨cur, by rw [hg.block g h4 hr]; exact h5⟩, fun j u hj => hg.cell (a := ⟨g, o + j, none⟩) (h6 j u hj) hr⟩

theorem Row.own {w : World} {B : Nat} {t : TypeId} {size n : Nat} {v : Value} {xs : List Value} (h : w.ownsRow B t size v n xs) : Row w t size v n xs := by
  refine ⟨h.1, ?_⟩
  rcases h.2 with h | ⟨g, cap, cur, h1, h2, h3, h4, h5, h6, h7⟩
  · exact .inl h
  · refine .inr ⟨g, 0, cap, h1, h4, h5, (Array.getElem?_eq_some_iff.1 h3).1, ⟨cur, h3⟩, fun j u hj => ?_⟩
    have := World.ownsRow.cells h (g := g) (by rw [h1]; rfl) j u hj
    rw [Addr.add_lit] at this
    exact this

/-- What lies at a place of a list of structs. -/
theorem flat_at {α : Type} (f : α → List Value) (size : Nat) (hs : ∀ x, (f x).length = size) : ∀ (l : List α) (k : Nat) (hk : k < l.length) (j : Nat), j < size → (l.flatMap f)[k * size + j]? = (f l[k])[j]? := by
  intro l
  induction l with
  | nil => intro k hk; simp at hk
  | cons x r ih =>
    intro k hk j hj
    rw [List.flatMap_cons]
    cases k with
    | zero => simp only [Nat.zero_mul, Nat.zero_add, List.getElem_cons_zero]; rw [List.getElem?_append_left (by rw [hs]; exact hj)]
    | succ k =>
      rw [List.getElem?_append_right (by rw [hs, Nat.succ_mul]; omega), hs]
      have e : (k + 1) * size + j - size = k * size + j := by rw [Nat.succ_mul]; omega
      rw [e, List.getElem_cons_succ]
      exact ih k (by simpa using hk) j hj

theorem flat_len {α : Type} (f : α → List Value) (size : Nat) (hs : ∀ x, (f x).length = size) (l : List α) : (l.flatMap f).length = l.length * size := by
  induction l with
  | nil => simp
  | cons x r ih => rw [List.flatMap_cons, List.length_append, hs, ih, List.length_cons, Nat.succ_mul]; omega

/-- A list of elements, read. -/
def Many {α : Type} (w : World) (t : TypeId) (size : Nat) (f : α → List Value) (v : Value) (l : List α) : Prop := Row w t size v l.length (l.flatMap f)

theorem Many.at {α : Type} {w : World} {t : TypeId} {size : Nat} {f : α → List Value} {v : Value} {l : List α} (hs : ∀ x, (f x).length = size) (h : Many w t size f v l) (k : Nat) (hk : k < l.length) :
    ∃ g o cap, v = .slice (some ⟨g, o, none⟩) l.length cap ∧ g < w.heap.size ∧ l.length ≤ cap ∧ cap ≤ maxLen ∧ ∀ j u, (f l[k])[j]? = some u → w.cell? ⟨g, o + (k * size + j), none⟩ = some u := by
  rcases h.2 with ⟨_, h0⟩ | ⟨g, o, cap, h1, h2, h3, h4, h5, h6⟩
  · omega
  · refine ⟨g, o, cap, h1, h4, h2, h3, fun j u hj => ?_⟩
    have hj' : j < size := by
      rcases Nat.lt_or_ge j (f l[k]).length with h | h
      · rw [← hs l[k]]; exact h
      · rw [List.getElem?_eq_none h] at hj; cases hj
    exact h6 _ _ (by rw [flat_at f size hs l k hk j hj']; exact hj)

theorem Many.len {α : Type} {w : World} {t : TypeId} {size : Nat} {f : α → List Value} {v : Value} {l : List α} (h : Many w t size f v l) : ∃ ad cap, v = .slice ad l.length cap ∧ l.length ≤ cap ∧ cap ≤ maxLen := by
  rcases h.2 with ⟨h0, h1⟩ | ⟨g, o, cap, h1, h2, h3, _⟩
  · exact ⟨none, 0, by rw [h0, h1], by omega, by unfold maxLen; omega⟩
  · exact ⟨_, cap, h1, h2, h3⟩

def PathOk (w : World) (p : IC.Path) : Prop := Many w 103 7 IC.Seg.cells p.vs p.segs
def CmdOk (w : World) (c : IC.Cmd) : Prop := Many w 72 4 IC.Path.cells c.vp c.paths ∧ ∀ p ∈ c.paths, PathOk w p
def IconOk (w : World) (i : IC.Icon) : Prop := Many w 66 4 IC.Col.cells i.vc i.cols ∧ Many w 62 11 IC.Cmd.cells i.vm i.cmds ∧ ∀ c ∈ i.cmds, CmdOk w c

theorem PathOk.below {w w' : World} {p : IC.Path} (h : PathOk w p) (hb : Below w.heap.size w w') : PathOk w' p := Row.below h hb
theorem CmdOk.below {w w' : World} {c : IC.Cmd} (h : CmdOk w c) (hb : Below w.heap.size w w') : CmdOk w' c := ⟨Row.below h.1 hb, fun p hp => (h.2 p hp).below hb⟩
theorem IconOk.below {w w' : World} {i : IC.Icon} (h : IconOk w i) (hb : Below w.heap.size w w') : IconOk w' i := ⟨Row.below h.1 hb, Row.below h.2.1 hb, fun c hc => (h.2.2 c hc).below hb⟩

/-- The error of a code: none, or what the variable holds. -/
def errv (A : Nat → Addr) (c : Nat) : Value := if c = 0 then .nilIface else .iface 173 (.pointer (some (A (c - 1))))

/-- The three errors of the package. -/
def errG (i : Nat) : Nat := [1, 0, 2].getD i 0
theorem errG_lt (i : Nat) (h : i < 3) : errG i < 13 := by
  have : ∀ i : Fin 3, errG i.val < 13 := by decide
  exact this ⟨i, h⟩
def Errs3 (w : World) (A : Nat → Addr) : Prop := ∀ i, i < 3 → w.cell? ⟨errG i, 0, none⟩ = some (.iface 173 (.pointer (some (A i)))) ∧ errG i < w.heap.size
theorem Errs3.c0 {w : World} {A : Nat → Addr} (h : Errs3 w A) : w.cell? ⟨1, 0, none⟩ = some (.iface 173 (.pointer (some (A 0)))) := (h 0 (by omega)).1
theorem Errs3.c1 {w : World} {A : Nat → Addr} (h : Errs3 w A) : w.cell? ⟨0, 0, none⟩ = some (.iface 173 (.pointer (some (A 1)))) := (h 1 (by omega)).1
theorem Errs3.c2 {w : World} {A : Nat → Addr} (h : Errs3 w A) : w.cell? ⟨2, 0, none⟩ = some (.iface 173 (.pointer (some (A 2)))) := (h 2 (by omega)).1
theorem Errs3.pos {w : World} {A : Nat → Addr} (h : Errs3 w A) : 0 < w.heap.size := by have := (h 0 (by omega)).2; omega
theorem Errs3.s0 {w : World} {A : Nat → Addr} (h : Errs3 w A) : 1 < w.heap.size := (h 0 (by omega)).2
theorem Errs3.s1 {w : World} {A : Nat → Addr} (h : Errs3 w A) : 0 < w.heap.size := (h 1 (by omega)).2
theorem Errs3.s2 {w : World} {A : Nat → Addr} (h : Errs3 w A) : 2 < w.heap.size := (h 2 (by omega)).2

theorem Errs3.below {w w' : World} {A : Nat → Addr} (h : Errs3 w A) (hb : Below w.heap.size w w') : Errs3 w' A := fun i hi => ⟨(hb.cell (p := ⟨errG i, 0, none⟩) (h i hi).2).trans (h i hi).1, Nat.lt_of_lt_of_le (h i hi).2 hb.size⟩

end Go.Proofs.YtcnlkdoifogkbaaGreatDoor

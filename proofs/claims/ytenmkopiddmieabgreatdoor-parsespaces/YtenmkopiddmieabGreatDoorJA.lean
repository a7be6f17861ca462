import Derived.WalkKit
import Derived.WalkSpells
import Derived.WalkLawsBesides
import Derived.Deep.QuietTactic
import Derived.BigQuiet
import Derived.Deep.RegionWith
import Derived.Deep.RegionLaw
import Derived.Deep.RegionHeld3
import Derived.Sort.AtCall
import Derived.OwnWalk
import Derived.Test.YtenmkopiddmieabGreatDoorProg
import Derived.Laws.AppendOwn
import Derived.LaidEql
import Derived.Lib.Strings
import Derived.Lib.Bytealg
/-
  What the roads over words lean on: lists of structs in memory, read cell by cell, grown one by one.
-/
namespace Go.Proofs.YtenmkopiddmieabGreatDoor
open Go.RowKit

theorem hid'' {P : Prop} (h : P) : Hid P := h
theorem ret_int {k : IntKind} {a b : Int} (h : a = b) : Ending.returned (.int k a) = .returned (.int k b) := by rw [h]
theorem ret_bool {a b : Bool} (h : a = b) : Ending.returned (.bool a) = .returned (.bool b) := by rw [h]
theorem ret_v {a b : Value} (h : a = b) : Ending.returned a = .returned b := by rw [h]

theorem below_drewN {B : Nat} {a w : World} (h : Below B a w) (n : Nat) : Below B a (w.drewN n) := ⟨h.os, h.tape, h.output, h.size, h.block⟩
theorem below_of_drew {w w' : World} (h : Below w.drew.heap.size w.drew w') : Below w.heap.size w w' := ⟨h.os, h.tape, h.output, h.size, h.block⟩
theorem size_alloc (w : World) (o : Obj) : (w.alloc o).heap.size = w.heap.size + 1 := by simp
theorem chain {w w1 w2 : World} (h : Below w.heap.size w w1) (k : Below w1.heap.size w1 w2) : Below w.heap.size w w2 := h.trans (k.mono h.size)
theorem bcell {W w1 : World} (hb : Below W.heap.size W w1) : (∀ b o, b < W.heap.size → w1.cell? ⟨b, o, none⟩ = W.cell? ⟨b, o, none⟩) ∧ (∀ b o, b < W.heap.size → w1.frozen? ⟨b, o, none⟩ = W.frozen? ⟨b, o, none⟩) :=
  ⟨fun b o h => hb.cell (p := ⟨b, o, none⟩) h, fun b o h => hb.frozen (p := ⟨b, o, none⟩) h⟩

theorem cell_new (w : World) (a : Array Value) (t : TypeId) (fr : Nat × Nat) (j : Nat) : (w.alloc (.cells a t fr)).cell? ⟨w.heap.size, j, none⟩ = a[j]? := by
  rw [World.cell?_alloc_mark]

/-- What a world that has grown behind one box, two boxes, holds. -/
theorem boxes1 {w w1 : World} {a : Array Value} {t : TypeId} {fr : Nat × Nat} (hb : Below (w.alloc (.cells a t fr)).heap.size (w.alloc (.cells a t fr)) w1) :
    (∀ j, w1.cell? ⟨w.heap.size, j, none⟩ = a[j]?) ∧ (∀ k j, k < w.heap.size → w1.cell? ⟨k, j, none⟩ = w.cell? ⟨k, j, none⟩) := by
  refine ⟨fun j => ?_, fun k j hk => ?_⟩
  · rw [hb.cell (p := ⟨w.heap.size, j, none⟩) (by simp), cell_new]
  · rw [hb.cell (p := ⟨k, j, none⟩) (by simp; omega)]
    exact World.cell?_of_block (Below.heap_alloc _ _ _ hk)

theorem boxes2 {w w1 : World} {a b : Array Value} {t t' : TypeId} {fr fr' : Nat × Nat} (hb : Below ((w.alloc (.cells a t fr)).alloc (.cells b t' fr')).heap.size ((w.alloc (.cells a t fr)).alloc (.cells b t' fr')) w1) :
    (∀ j, w1.cell? ⟨w.heap.size, j, none⟩ = a[j]?) ∧ (∀ j, w1.cell? ⟨w.heap.size + 1, j, none⟩ = b[j]?) ∧ (∀ k j, k < w.heap.size → w1.cell? ⟨k, j, none⟩ = w.cell? ⟨k, j, none⟩) := by
  have h2 := boxes1 hb
  have e : (w.alloc (.cells a t fr)).heap.size = w.heap.size + 1 := by simp
  rw [e] at h2
  refine ⟨fun j => ?_, h2.1, fun k j hk => ?_⟩
  · rw [h2.2 _ j (by omega), cell_new]
  · rw [h2.2 _ j (by omega)]
    exact World.cell?_of_block (Below.heap_alloc _ _ _ hk)

theorem sizes1 {w w1 : World} {o : Obj} (hb : Below (w.alloc o).heap.size (w.alloc o) w1) : w.heap.size < w1.heap.size := by
  have := hb.size
  simp at this
  omega
theorem sizes2 {w w1 : World} {o o' : Obj} (hb : Below ((w.alloc o).alloc o').heap.size ((w.alloc o).alloc o') w1) : w.heap.size < w1.heap.size ∧ w.heap.size + 1 < w1.heap.size := by
  have := hb.size
  simp at this
  omega

/-- A list of structs that is read: nil, or its elements' cells one behind the other, from some place of a block on. -/
def Row (w : World) (t : TypeId) (size : Nat) (v : Value) (n : Nat) (xs : List Value) : Prop :=
  xs.length = n * size ∧ ((v = .slice none 0 0 ∧ n = 0) ∨ ∃ g o cap, v = .slice (some ⟨g, o, none⟩) n cap ∧ n ≤ cap ∧ cap ≤ maxLen ∧ g < w.heap.size ∧ (∃ cur, w.heap[g]? = some (.cells cur t (0, 0))) ∧ ∀ j u, xs[j]? = some u → w.cell? ⟨g, o + j, none⟩ = some u)

theorem Row.below {w w' : World} {t : TypeId} {size n : Nat} {v : Value} {xs : List Value} (h : Row w t size v n xs) (hb : Below w.heap.size w w') : Row w' t size v n xs := by
  refine ⟨h.1, ?_⟩
  rcases h.2 with h | ⟨g, o, cap, h1, h2, h3, h4, ⟨cur, h5⟩, h6⟩
  · exact .inl h
  · exact .inr ⟨g, o, cap, h1, h2, h3, Nat.lt_of_lt_of_le h4 hb.size, ⟨cur, by rw [hb.block g h4]; exact h5⟩, fun j u hj => (hb.cell (p := ⟨g, o + j, none⟩) h4).trans (h6 j u hj)⟩

/-- It stays, where its block is none that has been written. -/
theorem Row.kept {w w' : World} {t : TypeId} {size n : Nat} {v : Value} {xs : List Value} {row : Option Nat} (h : Row w t size v n xs) (hg : w.grownBy w' row) (hne : ∀ b, row = some b → ∀ cur, w.heap[b]? ≠ some (.cells cur t (0, 0))) : Row w' t size v n xs := by
  refine ⟨h.1, ?_⟩
  rcases h.2 with h | ⟨g, o, cap, h1, h2, h3, h4, ⟨cur, h5⟩, h6⟩
  · exact .inl h
  · have hr : some g ≠ row := fun e => hne g e.symm cur h5
    exact .inr ⟨g, o, cap, h1, h2, h3, Nat.lt_of_lt_of_le h4 hg.size, ⟨cur, by rw [hg.block g h4 hr]; exact h5⟩, fun j u hj => hg.cell (a := ⟨g, o + j, none⟩) (h6 j u hj) hr⟩

theorem Row.own {w : World} {B : Nat} {t : TypeId} {size n : Nat} {v : Value} {xs : List Value} (h : w.ownsRow B t size v n xs) : Row w t size v n xs := by
  refine ⟨h.1, ?_⟩
  rcases h.2 with h | ⟨g, cap, cur, h1, h2, h3, h4, h5, h6, h7⟩
  · exact .inl h
  · refine .inr ⟨g, 0, cap, h1, h4, h5, (Array.getElem?_eq_some_iff.1 h3).1, ⟨cur, h3⟩, fun j u hj => ?_⟩
    have := World.ownsRow.cells h (g := g) (by rw [h1]; rfl) j u hj
    rw [Addr.add_lit] at this
    exact this

/-- What lies at a place of a list of structs. -/
theorem flat_at {α : Type} (f : α → List Value) (size : Nat) (hs : ∀ x, (f x).length = size) : ∀ (l : List α) (k : Nat) (hk : k < l.length) (j : Nat), j < size → (l.flatMap f)[k * size + j]? = (f l[k])[j]? := by
  intro l
  induction l with
  | nil => intro k hk; simp at hk
  | cons x r ih =>
    intro k hk j hj
    rw [List.flatMap_cons]
    cases k with
    | zero => simp only [Nat.zero_mul, Nat.zero_add, List.getElem_cons_zero]; rw [List.getElem?_append_left (by rw [hs]; exact hj)]
    | succ k =>
      rw [List.getElem?_append_right (by rw [hs, Nat.succ_mul]; omega), hs]
      have e : (k + 1) * size + j - size = k * size + j := by rw [Nat.succ_mul]; omega
      rw [e, List.getElem_cons_succ]
      exact ih k (by simpa using hk) j hj

theorem flat_len {α : Type} (f : α → List Value) (size : Nat) (hs : ∀ x, (f x).length = size) (l : List α) : (l.flatMap f).length = l.length * size := by
  induction l with
  | nil => simp
  | cons x r ih => rw [List.flatMap_cons, List.length_append, hs, ih, List.length_cons, Nat.succ_mul]; omega

/-- A list of elements, read. -/
def Many {α : Type} (w : World) (t : TypeId) (size : Nat) (f : α → List Value) (v : Value) (l : List α) : Prop := Row w t size v l.length (l.flatMap f)

theorem Many.at {α : Type} {w : World} {t : TypeId} {size : Nat} {f : α → List Value} {v : Value} {l : List α} (hs : ∀ x, (f x).length = size) (h : Many w t size f v l) (k : Nat) (hk : k < l.length) :
    ∃ g o cap, v = .slice (some ⟨g, o, none⟩) l.length cap ∧ g < w.heap.size ∧ l.length ≤ cap ∧ cap ≤ maxLen ∧ ∀ j u, (f l[k])[j]? = some u → w.cell? ⟨g, o + (k * size + j), none⟩ = some u := by
  rcases h.2 with ⟨_, h0⟩ | ⟨g, o, cap, h1, h2, h3, h4, h5, h6⟩
  · omega
  · refine ⟨g, o, cap, h1, h4, h2, h3, fun j u hj => ?_⟩
    have hj' : j < size := by
      rcases Nat.lt_or_ge j (f l[k]).length with h | h
      · rw [← hs l[k]]; exact h
      · rw [List.getElem?_eq_none h] at hj; cases hj
    exact h6 _ _ (by rw [flat_at f size hs l k hk j hj']; exact hj)

theorem Many.len {α : Type} {w : World} {t : TypeId} {size : Nat} {f : α → List Value} {v : Value} {l : List α} (h : Many w t size f v l) : ∃ ad cap, v = .slice ad l.length cap ∧ l.length ≤ cap ∧ cap ≤ maxLen := by
  rcases h.2 with ⟨h0, h1⟩ | ⟨g, o, cap, h1, h2, h3, _⟩
  · exact ⟨none, 0, by rw [h0, h1], by omega, by unfold maxLen; omega⟩
  · exact ⟨_, cap, h1, h2, h3⟩

/-- A list of elements in memory of the call's own. -/
def Own {α : Type} (w : World) (B : Nat) (t : TypeId) (size : Nat) (f : α → List Value) (ad : Option Addr) (cap : Nat) (l : List α) : Prop := w.ownsRow B t size (.slice ad l.length cap) l.length (l.flatMap f)

theorem Own.many {α : Type} {w : World} {B : Nat} {t : TypeId} {size : Nat} {f : α → List Value} {ad : Option Addr} {cap : Nat} {l : List α} (h : Own w B t size f ad cap l) : Many w t size f (.slice ad l.length cap) l := Row.own h

theorem own_nil {α : Type} (w : World) (B : Nat) (t : TypeId) (size : Nat) (f : α → List Value) : Own w B t size f none 0 [] := World.ownsRow_nil w B t size

theorem Own.lt {α : Type} {w : World} {B : Nat} {t : TypeId} {size : Nat} {f : α → List Value} {ad : Option Addr} {cap : Nat} {l : List α} (h : Own w B t size f ad cap l) : ∀ a, ad = some a → B ≤ a.block ∧ a.block < w.heap.size := fun a e => World.ownsRow.lt h a.block (by rw [e]; rfl)

/-- It stays, where its block is none that has been written. -/
theorem Own.kept {α : Type} {w w' : World} {B : Nat} {t : TypeId} {size : Nat} {f : α → List Value} {ad : Option Addr} {cap : Nat} {l : List α} (h : Own w B t size f ad cap l) (hk : ∀ a, ad = some a → w'.heap[a.block]? = w.heap[a.block]?) : Own w' B t size f ad cap l := by
  refine ⟨h.1, ?_⟩
  rcases h.2 with h | ⟨g, c, cur, h1, h2, h3, h4⟩
  · exact .inl h
  · have e : ad = some ⟨g, 0, none⟩ := by cases h1; rfl
    exact .inr ⟨g, c, cur, h1, h2, by rw [hk _ e]; exact h3, h4⟩

theorem Own.below {α : Type} {w w' : World} {B C : Nat} {t : TypeId} {size : Nat} {f : α → List Value} {ad : Option Addr} {cap : Nat} {l : List α} (h : Own w B t size f ad cap l) (hb : Below C w w') (hC : w.heap.size ≤ C) : Own w' B t size f ad cap l :=
  h.kept fun a e => hb.block _ (Nat.lt_of_lt_of_le (h.lt a e).2 hC)

theorem Own.alloc {α : Type} {w : World} {B : Nat} {t : TypeId} {size : Nat} {f : α → List Value} {ad : Option Addr} {cap : Nat} {l : List α} (h : Own w B t size f ad cap l) (o : Obj) : Own (w.alloc o) B t size f ad cap l :=
  h.below ((Below.refl _ _).alloc (Nat.le_refl _) _) (Nat.le_refl _)

/-- A store below its base. -/
theorem Own.setLow {α : Type} {w : World} {B : Nat} {t : TypeId} {size : Nat} {f : α → List Value} {ad : Option Addr} {cap : Nat} {l : List α} (h : Own w B t size f ad cap l) {p : Addr} (hp : p.block < B) (v : Value) : Own (w.setCell p v) B t size f ad cap l :=
  h.kept fun a e => Below.heap_setCell _ _ _ _ (by have := (h.lt a e).1; omega)

theorem new_cells (w : World) (e : TypeId) (l : List Value) : ∀ (j : Nat) (u : Value), l[j]? = some u → (w.alloc (Obj.cells l.toArray e)).cell? ((⟨w.heap.size, 0, none⟩ : Addr).add j) = some u := by
  intro j u hj
  rw [Addr.add_lit, Nat.zero_add, cell_new]
  simpa using hj

theorem wpList_push {P : Program} (w : World) {α : Type} {ops : Array Oper} {rest : List Oper} {o : Oper} {a : Act} {Q : Exit → Act → World → Prop} (hgd : o.guard = none) (s x : Operand) (t : TypeId)
    (ho : o.op = .call { callee := .builtin .append, args := #[s, x], argTypes := #[t, t] })
    (B : Nat) (e : TypeId) (z : Value) (size bytes : Nat) (ht : P.underlying t = some (.slice e)) (hi : (P.info? e).map (fun i => (i.zero, i.size, i.bytes)) = some (some z, size, bytes))
    (hzs : z.cells.size = size) (hsz : 0 < size) (f : α → List Value) (hf : ∀ y, (f y).length = size)
    {ad : Option Addr} {cap : Nat} (l : List α) (y : α) (n : Nat) (hn : l.length = n) (hs : a.eval s = .slice ad n cap) (hown : Own w B e size f ad cap l) (b : Nat) (hx : a.eval x = .slice (some ⟨b, 0, none⟩) 1 1)
    (hnews : ∀ j u, (f y)[j]? = some u → w.cell? ((⟨b, 0, none⟩ : Addr).add j) = some u) (h1 : ∀ u ∈ f y, u.oneCell' = true)
    (hbytes : (n + 1) * bytes ≤ 140737488355328) (h63 : n ≤ 1000000) (hB : B ≤ w.heap.size)
    (h : ∀ ad' cap' w', Own w' B e size f ad' cap' (l ++ [y]) → w.grownBy w' (ad.map (·.block)) → wpList P ops Q rest (a.put o.dst (.slice ad' (n + 1) cap')) w') : wpList P ops Q (o :: rest) a w := by
  subst hn
  obtain ⟨i, hi0, hi1⟩ := Option.map_eq_some_iff.1 hi
  have hz : i.zero = some z := congrArg (·.1) hi1
  have hz1 : i.size = size := congrArg (·.2.1) hi1
  have hz2 : i.bytes = bytes := congrArg (·.2.2) hi1
  refine wpList_append_own w hgd s x t ho B e i z size bytes ht hi0 hz hz1 hz2 hzs hsz _ l.length (l.flatMap f) hs hown ⟨b, 0, none⟩ 1 1 (f y) hx (by rw [hf, Nat.one_mul]) hnews h1 (by unfold maxLen; omega) hbytes hB ?_
  intro v' w' hown' hg hnil
  have hlen : (l ++ [y]).length = l.length + 1 := by simp
  have hfl : l.flatMap f ++ f y = (l ++ [y]).flatMap f := by simp
  rw [hfl, ← hlen] at hown'
  have hrow : (Value.slice ad l.length cap).ownBlock = ad.map (·.block) := by cases ad <;> rfl
  rw [hrow] at hg
  rcases hown'.2 with ⟨e1, e2⟩ | ⟨g, c, cur, e1, e2⟩
  · simp at e2
  · have e3 : v' = .slice (some ⟨g, 0, none⟩) (l.length + 1) c := by rw [e1, hlen]
    rw [e3] at hown' ⊢
    exact h _ _ w' (by rw [← hlen] at hown'; exact hown') hg

/-- What is elsewhere stays. -/
theorem grown_cell {w w' : World} {ad : Option Addr} (hg : w.grownBy w' (ad.map (·.block))) {b j : Nat} (hb : b < w.heap.size) (hne : ∀ a, ad = some a → b ≠ a.block) : w'.cell? ⟨b, j, none⟩ = w.cell? ⟨b, j, none⟩ ∧ w'.frozen? ⟨b, j, none⟩ = w.frozen? ⟨b, j, none⟩ ∧ w'.heap[b]? = w.heap[b]? := by
  have h : w'.heap[b]? = w.heap[b]? := hg.block b hb (fun e => by
    cases ad with
    | none => simp at e
    | some a => exact hne a rfl (by simpa using e))
  exact ⟨World.cell?_of_block (a := ⟨b, j, none⟩) h, World.frozen?_of_block (a := ⟨b, j, none⟩) h, h⟩

theorem below_grown {B : Nat} {a w w' : World} {ad : Option Addr} (h : Below B a w) (hg : w.grownBy w' (ad.map (·.block))) (hB : B ≤ w.heap.size) (hr : ∀ x, ad = some x → B ≤ x.block) : Below B a w' :=
  h.grown hg hB (fun k e => by
    cases ad with
    | none => simp at e
    | some x => have := hr x rfl; simp at e; omega)

/-- A block, whole. -/
def Blk (w : World) (b : Nat) (t : TypeId) (a : Array Value) : Prop := w.heap[b]? = some (.cells a t (0, 0))

theorem Blk.lt {w : World} {b : Nat} {t : TypeId} {a : Array Value} (h : Blk w b t a) : b < w.heap.size := (Array.getElem?_eq_some_iff.1 h).1
theorem Blk.cell {w : World} {b : Nat} {t : TypeId} {a : Array Value} (h : Blk w b t a) (j : Nat) : w.cell? ⟨b, j, none⟩ = a[j]? := by
  unfold Blk at h
  simp [World.cell?, h]
theorem Blk.frozen {w : World} {b : Nat} {t : TypeId} {a : Array Value} (h : Blk w b t a) (j : Nat) : w.frozen? ⟨b, j, none⟩ = false := by
  unfold Blk at h
  simp [World.frozen?, h]
theorem Blk.below {w w' : World} {b B : Nat} {t : TypeId} {a : Array Value} (h : Blk w b t a) (hb : Below B w w') (hB : b < B) : Blk w' b t a := (hb.block b hB).trans h
theorem blk_new (w : World) (t : TypeId) (a : Array Value) : Blk (w.alloc (.cells a t)) w.heap.size t a := heap_alloc_new w _
theorem Blk.alloc {w : World} {b : Nat} {t : TypeId} {a : Array Value} (h : Blk w b t a) (o : Obj) : Blk (w.alloc o) b t a := (Below.heap_alloc _ _ _ h.lt).trans h
theorem Blk.far {w : World} {b : Nat} {t : TypeId} {a : Array Value} (h : Blk w b t a) {p : Addr} (hp : b ≠ p.block) (v : Value) : Blk (w.setCell p v) b t a := (Below.heap_setCell _ _ _ _ hp).trans h
theorem Blk.grown {w w' : World} {b : Nat} {t : TypeId} {a : Array Value} (h : Blk w b t a) {ad : Option Addr} (hg : w.grownBy w' (ad.map (·.block))) (hne : ∀ x, ad = some x → b ≠ x.block) : Blk w' b t a := (grown_cell (j := 0) hg h.lt hne).2.2.trans h
theorem Blk.set {w : World} {b j : Nat} {t : TypeId} {a : Array Value} (h : Blk w b t a) (v : Value) : Blk (w.setCell ⟨b, j, none⟩ v) b t (a.setIfInBounds j v) := by
  unfold Blk at *
  simp [World.setCell, Array.getElem?_modify, h]

theorem many_one {α : Type} {w : World} {b : Nat} {t : TypeId} {size : Nat} (f : α → List Value) (x : α) (hs : (f x).length = size) (h : Blk w b t (f x).toArray) : Many w t size f (.slice (some ⟨b, 0, none⟩) 1 1) [x] := by
  refine ⟨by simp [hs], .inr ⟨b, 0, 1, rfl, by simp, by unfold maxLen; omega, h.lt, ⟨_, h⟩, fun j u hj => ?_⟩⟩
  rw [h.cell]
  simpa using hj


end Go.Proofs.YtenmkopiddmieabGreatDoor

/-
  How the statements see a bare error: which of the program's own it is; none. Walked over the program.
-/
namespace Go.Proofs.YtenmkopiddmieabGreatDoor
open Go.RowKit

/-- The program's own errors lie where its variables say, each in memory of its own. -/
def glob (i : Nat) : Nat := [1, 0, 0, 0, 0, 0, 0, 0, 0, 0, 0, 0, 0].getD i 0
/-- The errors of a list of codes (0: ErrText .. 12: ErrBudget). -/
def ErrsL (L : List Nat) (w : World) (A : Nat → Addr) : Prop := ∀ i, i ∈ L → w.cell? ⟨glob i, 0, none⟩ = some (.iface 167 (.pointer (some (A i)))) ∧ glob i < w.heap.size ∧ (∃ c t, w.heap[(A i).block]? = some (.cells c t (0, 0))) ∧ ∀ j, j ∈ L → i ≠ j → A i ≠ A j
theorem ErrsL.below {L : List Nat} {w w' : World} {A : Nat → Addr} (h : ErrsL L w A) (hb : Below w.heap.size w w') : ErrsL L w' A := by
  intro i hi
  obtain ⟨h1, h2, ⟨c, t, h3⟩, h4⟩ := h i hi
  refine ⟨(hb.cell (p := ⟨glob i, 0, none⟩) h2).trans h1, Nat.lt_of_lt_of_le h2 hb.size, ⟨c, t, ?_⟩, h4⟩
  rw [hb.block _ (Array.getElem?_eq_some_iff.1 h3).1]
  exact h3
def Errs13 (w : World) (A : Nat → Addr) : Prop := ∀ i, i < 13 → w.cell? ⟨glob i, 0, none⟩ = some (.iface 167 (.pointer (some (A i)))) ∧ glob i < w.heap.size ∧ (∃ c t, w.heap[(A i).block]? = some (.cells c t (0, 0))) ∧ ∀ j, j < 13 → i ≠ j → A i ≠ A j

theorem errs13_of {w : World} {A : Nat → Addr} (h : ErrsL (List.range 13) w A) : Errs13 w A := fun i hi => by
  obtain ⟨h1, h2, h3, h4⟩ := h i (List.mem_range.2 hi)
  exact ⟨h1, h2, h3, fun j hj => h4 j (List.mem_range.2 hj)⟩
theorem Errs13.below {w w' : World} {A : Nat → Addr} (h : Errs13 w A) (hb : Below w.heap.size w w') : Errs13 w' A := by
  intro i hi
  obtain ⟨h1, h2, ⟨c, t, h3⟩, h4⟩ := h i hi
  refine ⟨(hb.cell (p := ⟨glob i, 0, none⟩) h2).trans h1, Nat.lt_of_lt_of_le h2 hb.size, ⟨c, t, ?_⟩, h4⟩
  rw [hb.block _ (Array.getElem?_eq_some_iff.1 h3).1]
  exact h3

end Go.Proofs.YtenmkopiddmieabGreatDoor

/-
  The words of a text, said plainly: which bytes are which, how far a name, a number, a color goes, what lies between words, the words one by one or the first place where none can be read.
-/
namespace Go.Proofs.YtenmkopiddmieabGreatDoor
namespace WP

def small (c : UInt8) : Bool := decide (97 ≤ c.toNat) && decide (c.toNat ≤ 122)
def great (c : UInt8) : Bool := decide (65 ≤ c.toNat) && decide (c.toNat ≤ 90)
def digit (c : UInt8) : Bool := decide (48 ≤ c.toNat) && decide (c.toNat ≤ 57)
def nsign (c : UInt8) : Bool := small c || digit c || decide (c.toNat = 95)
def sign (c : UInt8) : Bool := nsign c || great c
def cdig (c : UInt8) : Bool := digit c || (decide (97 ≤ c.toNat) && decide (c.toNat ≤ 102))
def poh (c : UInt8) : Bool := decide (c.toNat = 46) || decide (c.toNat = 35)
def blank (c : UInt8) : Bool := decide (c.toNat = 32) || decide (c.toNat = 9) || decide (c.toNat = 10) || decide (c.toNat = 13)
def mark (c : UInt8) : Bool := decide (c.toNat = 123) || decide (c.toNat = 125) || decide (c.toNat = 59) || decide (c.toNat = 61)
def step (c : UInt8) : Bool := decide (c.toNat = 77) || decide (c.toNat = 76) || decide (c.toNat = 81) || decide (c.toNat = 67) || decide (c.toNat = 65) || decide (c.toNat = 66) || decide (c.toNat = 90)

def count (p : UInt8 → Bool) : List UInt8 → Nat
  | [] => 0
  | c :: l => if p c then count p l + 1 else 0

def begins (p : UInt8 → Bool) : List UInt8 → Bool
  | [] => false
  | c :: _ => p c

def glued (l : List UInt8) : Bool := begins sign l || begins poh l

def digits (l : List UInt8) : Nat := if 6 < count digit l then 0 else count digit l

def nameSize (l : List UInt8) : Nat := if 24 < count nsign l then 0 else count nsign l

/-- What is left behind a number, if it is right. -/
def numRest (l : List UInt8) : Option (List UInt8) :=
  let r := Lib.trimPrefix l [45]
  if digits r = 0 then none else
  let r1 := r.drop (digits r)
  if Lib.hasPrefix r1 [46] then
    let b := Lib.trimPrefix r1 [46]
    if digits b = 0 then none else if glued (b.drop (digits b)) then none else some (b.drop (digits b))
  else if glued r1 then none else some r1

def numSize (l : List UInt8) : Nat := match numRest l with | none => 0 | some r => l.length - r.length

def colSize (l : List UInt8) : Nat :=
  let n := count cdig (l.drop 1)
  if (n ≠ 6 ∧ n ≠ 8) ∨ glued (l.drop (1 + n)) = true then 0 else 1 + n

def keys : List (List UInt8) := [[105, 99, 111, 110], [115, 99, 97, 108, 101], [99, 111, 110, 115, 116], [99, 111, 108, 111, 114], [115, 104, 97, 112, 101], [102, 105, 108, 108], [101, 118, 101, 110, 111, 100, 100], [110, 111, 110, 122, 101, 114, 111], [108, 105, 110, 101], [108, 105, 110, 101, 97, 114], [114, 97, 100, 105, 97, 108], [112, 97, 116, 104], [117, 115, 101], [97, 116], [98, 121], [116, 117, 114, 110]]

def reserved (l : List UInt8) : Bool := keys.contains l

/-- The word at the front: its kind, its size (0: none that is right). -/
def first (l : List UInt8) : Nat × Nat :=
  match l with
  | [] => (0, 0)
  | c :: t =>
    if small c then (if reserved (l.take (nameSize l)) then (2, nameSize l) else (1, nameSize l))
    else if c.toNat = 45 ∨ digit c = true then (3, numSize l)
    else if c.toNat = 35 then (4, colSize l)
    else if mark c then (5, 1)
    else if step c && !begins sign t then (6, 1)
    else (0, 0)

/-- How far a line goes: to its end, or the text's. -/
def line : List UInt8 → Nat
  | [] => 0
  | c :: l => if c.toNat = 10 then 0 else line l + 1

/-- Blanks and remarks (r: within one). -/
def gaps (r : Bool) : List UInt8 → Nat
  | [] => 0
  | c :: l =>
    if r then (if c.toNat = 10 then gaps false l + 1 else gaps true l + 1)
    else if blank c then gaps false l + 1
    else if c.toNat = 47 ∧ begins (fun d => decide (d.toNat = 47)) l = true then gaps true l + 1
    else 0

def gap (l : List UInt8) : Nat := gaps false l

abbrev W := Nat × Nat × List UInt8

def pre (ws : List W) (r : Except Nat (List W)) : Except Nat (List W) := match r with | .error e => .error e | .ok l => .ok (ws ++ l)

def go : Nat → Nat → List UInt8 → Except Nat (List W)
  | 0, _, _ => .ok []
  | f + 1, n, d =>
    if d = [] then .ok []
    else if (first d).2 = 0 then .error n
    else pre [((first d).1, n, d.take (first d).2)] (go f (n + ((first d).2 + gap (d.drop (first d).2))) (d.drop ((first d).2 + gap (d.drop (first d).2))))

def split (l : List UInt8) : Except Nat (List W) := go (l.length + 1) (gap l) (l.drop (gap l))

theorem pre_pre (a b : List W) (r : Except Nat (List W)) : pre a (pre b r) = pre (a ++ b) r := by
  unfold pre; cases r <;> simp

theorem pre_nil (r : Except Nat (List W)) : pre [] r = r := by unfold pre; cases r <;> simp

theorem count_le (p : UInt8 → Bool) (l : List UInt8) : count p l ≤ l.length := by
  induction l with
  | nil => exact Nat.le_refl _
  | cons c l ih => unfold count; split <;> simp <;> omega

theorem digits_le (l : List UInt8) : digits l ≤ l.length := by
  have := count_le digit l
  unfold digits; split <;> omega

theorem nameSize_le (l : List UInt8) : nameSize l ≤ l.length := by
  have := count_le nsign l
  unfold nameSize; split <;> omega

theorem line_le (l : List UInt8) : line l ≤ l.length := by
  induction l with
  | nil => exact Nat.le_refl _
  | cons c l ih => unfold line; split <;> simp <;> omega

theorem gaps_le (r : Bool) (l : List UInt8) : gaps r l ≤ l.length := by
  induction l generalizing r with
  | nil => exact Nat.le_refl _
  | cons c l ih =>
    have h1 := ih true
    have h2 := ih false
    simp only [gaps, List.length_cons]
    split
    · split <;> omega
    · split
      · omega
      · split <;> omega

theorem gap_le (l : List UInt8) : gap l ≤ l.length := gaps_le false l

theorem numSize_le (l : List UInt8) : numSize l ≤ l.length := by unfold numSize; split <;> omega

theorem colSize_le (l : List UInt8) (h : l ≠ []) : colSize l ≤ l.length := by
  have := count_le cdig (l.drop 1)
  have h1 : 0 < l.length := List.length_pos_iff.2 h
  simp only [List.length_drop] at this
  unfold colSize
  simp only
  split <;> omega

theorem first_le (l : List UInt8) : (first l).2 ≤ l.length := by
  unfold first
  split
  · exact Nat.le_refl _
  · rename_i c t
    have h1 := nameSize_le (c :: t)
    have h2 := numSize_le (c :: t)
    have h3 := colSize_le (c :: t) (by simp)
    split
    · split <;> exact h1
    · split
      · exact h2
      · split
        · exact h3
        · split
          · simp
          · split <;> simp

theorem gaps_true (l : List UInt8) : gaps true l = line l + gap (l.drop (line l)) := by
  induction l with
  | nil => rfl
  | cons c l ih =>
    unfold line
    by_cases h : c.toNat = 10
    · rw [if_pos h, List.drop_zero, Nat.zero_add]
      have hb : blank c = true := by unfold blank; simp [h]
      simp [gap, gaps, h, hb]
    · rw [if_neg h, List.drop_succ_cons]
      simp only [gaps, h, if_true, if_false]
      omega

theorem gap_remark (l : List UInt8) (h : Lib.hasPrefix l [47, 47] = true) : gap l = line l + gap (l.drop (line l)) ∧ 0 < line l := by
  match l, h with
  | [], h => simp [Lib.hasPrefix] at h
  | [c], h => simp [Lib.hasPrefix, List.isPrefixOf] at h
  | c :: d :: l, h =>
    simp only [Lib.hasPrefix, List.isPrefixOf, Bool.and_true, Bool.and_eq_true, beq_iff_eq] at h
    obtain ⟨rfl, rfl⟩ := h
    have e : line ((47 : UInt8) :: 47 :: l) = line ((47 : UInt8) :: l) + 1 := by
      conv => lhs; unfold line
      rw [if_neg (by decide)]
    have e2 : gap ((47 : UInt8) :: 47 :: l) = gaps true ((47 : UInt8) :: l) + 1 := by
      conv => lhs; unfold gap gaps
      rw [if_neg (by decide), if_neg (by decide), if_pos ⟨by decide, rfl⟩]
    rw [e2, e, List.drop_succ_cons, gaps_true]
    omega

theorem gap_blank (l : List UInt8) (c : UInt8) (h : blank c = true) : gap (c :: l) = gap l + 1 := by
  unfold gap
  conv => lhs; unfold gaps
  rw [if_neg (by decide), if_pos h]

theorem gap_none (l : List UInt8) (c : UInt8) (h : blank c = false) (h2 : Lib.hasPrefix (c :: l) [47, 47] = false) : gap (c :: l) = 0 := by
  unfold gap
  conv => lhs; unfold gaps
  rw [if_neg (by decide), if_neg (by simp [h]), if_neg]
  rintro ⟨h3, h4⟩
  cases l with
  | nil => simp [begins] at h4
  | cons d l =>
    simp only [begins, decide_eq_true_eq] at h4
    have e1 : c = 47 := UInt8.toNat_inj.1 h3
    have e2 : d = 47 := UInt8.toNat_inj.1 h4
    subst e1; subst e2
    simp [Lib.hasPrefix, List.isPrefixOf] at h2

/-- Enough is enough. -/
theorem go_more : ∀ (f g n : Nat) (d : List UInt8), d.length < f → d.length < g → go f n d = go g n d := by
  intro f
  induction f with
  | zero => intro g n d h; omega
  | succ f ih =>
    intro g n d hf hg
    cases g with
    | zero => omega
    | succ g =>
      unfold go
      by_cases hd : d = []
      · simp [hd]
      · rw [if_neg hd, if_neg hd]
        by_cases h0 : (first d).2 = 0
        · simp [h0]
        · rw [if_neg h0, if_neg h0]
          have : 0 < d.length := List.length_pos_iff.2 hd
          rw [ih g _ _ (by rw [List.length_drop]; omega) (by rw [List.length_drop]; omega)]

end WP
end Go.Proofs.YtenmkopiddmieabGreatDoor

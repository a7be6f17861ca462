import Derived.WalkKit
import Derived.WalkSpells
import Derived.WalkLawsBesides
import Derived.Deep.QuietTactic
import Derived.BigQuiet
import Derived.Deep.RegionWith
import Derived.Deep.RegionLaw
import Derived.Deep.RegionHeld3
import Derived.Sort.AtCall
import Derived.OwnWalk
import Derived.Test.YtkhclolhkpkaeaaDoorProg
import Derived.Laws.AppendOwn
import Derived.LaidEql
import Derived.Lib.Strings
import Derived.Lib.Bytealg
/-
  What the roads over words lean on: lists of structs in memory, read cell by cell, grown one by one.
-/
namespace Go.Proofs.YtkhclolhkpkaeaaDoor
open Go.RowKit

theorem hid'' {P : Prop} (h : P) : Hid P := h
theorem ret_int {k : IntKind} {a b : Int} (h : a = b) : Ending.returned (.int k a) = .returned (.int k b) := by rw [h]
theorem ret_bool {a b : Bool} (h : a = b) : Ending.returned (.bool a) = .returned (.bool b) := by rw [h]
theorem ret_v {a b : Value} (h : a = b) : Ending.returned a = .returned b := by rw [h]

theorem below_drewN {B : Nat} {a w : World} (h : Below B a w) (n : Nat) : Below B a (w.drewN n) := ⟨h.os, h.tape, h.output, h.size, h.block⟩
theorem below_of_drew {w w' : World} (h : Below w.drew.heap.size w.drew w') : Below w.heap.size w w' := ⟨h.os, h.tape, h.output, h.size, h.block⟩
theorem size_alloc (w : World) (o : Obj) : (w.alloc o).heap.size = w.heap.size + 1 := by simp
theorem chain {w w1 w2 : World} (h : Below w.heap.size w w1) (k : Below w1.heap.size w1 w2) : Below w.heap.size w w2 := h.trans (k.mono h.size)
theorem bcell {W w1 : World} (hb : Below W.heap.size W w1) : (∀ b o, b < W.heap.size → w1.cell? ⟨b, o, none⟩ = W.cell? ⟨b, o, none⟩) ∧ (∀ b o, b < W.heap.size → w1.frozen? ⟨b, o, none⟩ = W.frozen? ⟨b, o, none⟩) :=
  ⟨fun b o h => hb.cell (p := ⟨b, o, none⟩) h, fun b o h => hb.frozen (p := ⟨b, o, none⟩) h⟩

theorem cell_new (w : World) (a : Array Value) (t : TypeId) (fr : Nat × Nat) (j : Nat) : (w.alloc (.cells a t fr)).cell? ⟨w.heap.size, j, none⟩ = a[j]? := by
  rw [World.cell?_alloc_mark]

/-- What a world that has grown behind one box, two boxes, holds. -/
theorem boxes1 {w w1 : World} {a : Array Value} {t : TypeId} {fr : Nat × Nat} (hb : Below (w.alloc (.cells a t fr)).heap.size (w.alloc (.cells a t fr)) w1) :
    (∀ j, w1.cell? ⟨w.heap.size, j, none⟩ = a[j]?) ∧ (∀ k j, k < w.heap.size → w1.cell? ⟨k, j, none⟩ = w.cell? ⟨k, j, none⟩) := by
  refine ⟨fun j => ?_, fun k j hk => ?_⟩
  · rw [hb.cell (p := ⟨w.heap.size, j, none⟩) (by simp), cell_new]
  · rw [hb.cell (p := ⟨k, j, none⟩) (by simp; omega)]
    exact World.cell?_of_block (Below.heap_alloc _ _ _ hk)

theorem boxes2 {w w1 : World} {a b : Array Value} {t t' : TypeId} {fr fr' : Nat × Nat} (hb : Below ((w.alloc (.cells a t fr)).alloc (.cells b t' fr')).heap.size ((w.alloc (.cells a t fr)).alloc (.cells b t' fr')) w1) :
    (∀ j, w1.cell? ⟨w.heap.size, j, none⟩ = a[j]?) ∧ (∀ j, w1.cell? ⟨w.heap.size + 1, j, none⟩ = b[j]?) ∧ (∀ k j, k < w.heap.size → w1.cell? ⟨k, j, none⟩ = w.cell? ⟨k, j, none⟩) := by
  have h2 := boxes1 hb
  have e : (w.alloc (.cells a t fr)).heap.size = w.heap.size + 1 := by simp
  rw [e] at h2
  refine ⟨fun j => ?_, h2.1, fun k j hk => ?_⟩
  · rw [h2.2 _ j (by omega), cell_new]
  · rw [h2.2 _ j (by omega)]
    exact World.cell?_of_block (Below.heap_alloc _ _ _ hk)

theorem sizes1 {w w1 : World} {o : Obj} (hb : Below (w.alloc o).heap.size (w.alloc o) w1) : w.heap.size < w1.heap.size := by
  have := hb.size
  simp at this
  omega
theorem sizes2 {w w1 : World} {o o' : Obj} (hb : Below ((w.alloc o).alloc o').heap.size ((w.alloc o).alloc o') w1) : w.heap.size < w1.heap.size ∧ w.heap.size + 1 < w1.heap.size := by
  have := hb.size
  simp at this
  omega

/-- A list of structs that is read: nil, or its elements' cells one behind the other, from some place of a block on. -/
def Row (w : World) (t : TypeId) (size : Nat) (v : Value) (n : Nat) (xs : List Value) : Prop :=
  xs.length = n * size ∧ ((v = .slice none 0 0 ∧ n = 0) ∨ ∃ g o cap, v = .slice (some ⟨g, o, none⟩) n cap ∧ n ≤ cap ∧ cap ≤ maxLen ∧ g < w.heap.size ∧ (∃ cur, w.heap[g]? = some (.cells cur t (0, 0))) ∧ ∀ j u, xs[j]? = some u → w.cell? ⟨g, o + j, none⟩ = some u)

theorem Row.below {w w' : World} {t : TypeId} {size n : Nat} {v : Value} {xs : List Value} (h : Row w t size v n xs) (hb : Below w.heap.size w w') : Row w' t size v n xs := by
  refine ⟨h.1, ?_⟩
  rcases h.2 with h | ⟨g, o, cap, h1, h2, h3, h4, ⟨cur, h5⟩, h6⟩
  · exact .inl h
  · exact .inr ⟨g, o, cap, h1, h2, h3, Nat.lt_of_lt_of_le h4 hb.size, ⟨cur, by rw [hb.block g h4]; exact h5⟩, fun j u hj => (hb.cell (p := ⟨g, o + j, none⟩) h4).trans (h6 j u hj)⟩

/-- It stays, where its block is none that has been written. -/
theorem Row.kept {w w' : World} {t : TypeId} {size n : Nat} {v : Value} {xs : List Value} {row : Option Nat} (h : Row w t size v n xs) (hg : w.grownBy w' row) (hne : ∀ b, row = some b → ∀ cur, w.heap[b]? ≠ some (.cells cur t (0, 0))) : Row w' t size v n xs := by
  refine ⟨h.1, ?_⟩
  rcases h.2 with h | ⟨g, o, cap, h1, h2, h3, h4, ⟨cur, h5⟩, h6⟩
  · exact .inl h
  · have hr : some g ≠ row := fun e => hne g e.symm cur h5
    exact .inr ⟨g, o, cap, h1, h2, h3, Nat.lt_of_lt_of_le h4 hg.size, ⟨cur, by rw [hg.block g h4 hr]; exact h5⟩, fun j u hj => hg.cell (a := ⟨g, o + j, none⟩) (h6 j u hj) hr⟩

theorem Row.own {w : World} {B : Nat} {t : TypeId} {size n : Nat} {v : Value} {xs : List Value} (h : w.ownsRow B t size v n xs) : Row w t size v n xs := by
  refine ⟨h.1, ?_⟩
  rcases h.2 with h | ⟨g, cap, cur, h1, h2, h3, h4, h5, h6, h7⟩
  · exact .inl h
  · refine .inr ⟨g, 0, cap, h1, h4, h5, (Array.getElem?_eq_some_iff.1 h3).1, ⟨cur, h3⟩, fun j u hj => ?_⟩
    have := World.ownsRow.cells h (g := g) (by rw [h1]; rfl) j u hj
    rw [Addr.add_lit] at this
    exact this

/-- What lies at a place of a list of structs. -/
theorem flat_at {α : Type} (f : α → List Value) (size : Nat) (hs : ∀ x, (f x).length = size) : ∀ (l : List α) (k : Nat) (hk : k < l.length) (j : Nat), j < size → (l.flatMap f)[k * size + j]? = (f l[k])[j]? := by
  intro l
  induction l with
  | nil => intro k hk; simp at hk
  | cons x r ih =>
    intro k hk j hj
    rw [List.flatMap_cons]
    cases k with
    | zero => simp only [Nat.zero_mul, Nat.zero_add, List.getElem_cons_zero]; rw [List.getElem?_append_left (by rw [hs]; exact hj)]
    | succ k =>
      rw [List.getElem?_append_right (by rw [hs, Nat.succ_mul]; omega), hs]
      have e : (k + 1) * size + j - size = k * size + j := by rw [Nat.succ_mul]; omega
      rw [e, List.getElem_cons_succ]
      exact ih k (by simpa using hk) j hj

theorem flat_len {α : Type} (f : α → List Value) (size : Nat) (hs : ∀ x, (f x).length = size) (l : List α) : (l.flatMap f).length = l.length * size := by
  induction l with
  | nil => simp
  | cons x r ih => rw [List.flatMap_cons, List.length_append, hs, ih, List.length_cons, Nat.succ_mul]; omega

/-- A list of elements, read. -/
def Many {α : Type} (w : World) (t : TypeId) (size : Nat) (f : α → List Value) (v : Value) (l : List α) : Prop := Row w t size v l.length (l.flatMap f)

theorem Many.at {α : Type} {w : World} {t : TypeId} {size : Nat} {f : α → List Value} {v : Value} {l : List α} (hs : ∀ x, (f x).length = size) (h : Many w t size f v l) (k : Nat) (hk : k < l.length) :
    ∃ g o cap, v = .slice (some ⟨g, o, none⟩) l.length cap ∧ g < w.heap.size ∧ l.length ≤ cap ∧ cap ≤ maxLen ∧ ∀ j u, (f l[k])[j]? = some u → w.cell? ⟨g, o + (k * size + j), none⟩ = some u := by
  rcases h.2 with ⟨_, h0⟩ | ⟨g, o, cap, h1, h2, h3, h4, h5, h6⟩
  · omega
  · refine ⟨g, o, cap, h1, h4, h2, h3, fun j u hj => ?_⟩
    have hj' : j < size := by
      rcases Nat.lt_or_ge j (f l[k]).length with h | h
      · rw [← hs l[k]]; exact h
      · rw [List.getElem?_eq_none h] at hj; cases hj
    exact h6 _ _ (by rw [flat_at f size hs l k hk j hj']; exact hj)

theorem Many.len {α : Type} {w : World} {t : TypeId} {size : Nat} {f : α → List Value} {v : Value} {l : List α} (h : Many w t size f v l) : ∃ ad cap, v = .slice ad l.length cap ∧ l.length ≤ cap ∧ cap ≤ maxLen := by
  rcases h.2 with ⟨h0, h1⟩ | ⟨g, o, cap, h1, h2, h3, _⟩
  · exact ⟨none, 0, by rw [h0, h1], by omega, by unfold maxLen; omega⟩
  · exact ⟨_, cap, h1, h2, h3⟩

/-- A list of elements in memory of the call's own. -/
def Own {α : Type} (w : World) (B : Nat) (t : TypeId) (size : Nat) (f : α → List Value) (ad : Option Addr) (cap : Nat) (l : List α) : Prop := w.ownsRow B t size (.slice ad l.length cap) l.length (l.flatMap f)

theorem Own.many {α : Type} {w : World} {B : Nat} {t : TypeId} {size : Nat} {f : α → List Value} {ad : Option Addr} {cap : Nat} {l : List α} (h : Own w B t size f ad cap l) : Many w t size f (.slice ad l.length cap) l := Row.own h

theorem own_nil {α : Type} (w : World) (B : Nat) (t : TypeId) (size : Nat) (f : α → List Value) : Own w B t size f none 0 [] := World.ownsRow_nil w B t size

theorem Own.lt {α : Type} {w : World} {B : Nat} {t : TypeId} {size : Nat} {f : α → List Value} {ad : Option Addr} {cap : Nat} {l : List α} (h : Own w B t size f ad cap l) : ∀ a, ad = some a → B ≤ a.block ∧ a.block < w.heap.size := fun a e => World.ownsRow.lt h a.block (by rw [e]; rfl)

/-- It stays, where its block is none that has been written. -/
theorem Own.kept {α : Type} {w w' : World} {B : Nat} {t : TypeId} {size : Nat} {f : α → List Value} {ad : Option Addr} {cap : Nat} {l : List α} (h : Own w B t size f ad cap l) (hk : ∀ a, ad = some a → w'.heap[a.block]? = w.heap[a.block]?) : Own w' B t size f ad cap l := by
  refine ⟨h.1, ?_⟩
  rcases h.2 with h | ⟨g, c, cur, h1, h2, h3, h4⟩
  · exact .inl h
  · have e : ad = some ⟨g, 0, none⟩ := by cases h1; rfl
    exact .inr ⟨g, c, cur, h1, h2, by rw [hk _ e]; exact h3, h4⟩

theorem Own.below {α : Type} {w w' : World} {B C : Nat} {t : TypeId} {size : Nat} {f : α → List Value} {ad : Option Addr} {cap : Nat} {l : List α} (h : Own w B t size f ad cap l) (hb : Below C w w') (hC : w.heap.size ≤ C) : Own w' B t size f ad cap l :=
  h.kept fun a e => hb.block _ (Nat.lt_of_lt_of_le (h.lt a e).2 hC)

theorem Own.alloc {α : Type} {w : World} {B : Nat} {t : TypeId} {size : Nat} {f : α → List Value} {ad : Option Addr} {cap : Nat} {l : List α} (h : Own w B t size f ad cap l) (o : Obj) : Own (w.alloc o) B t size f ad cap l :=
  h.below ((Below.refl _ _).alloc (Nat.le_refl _) _) (Nat.le_refl _)

/-- A store below its base. -/
theorem Own.setLow {α : Type} {w : World} {B : Nat} {t : TypeId} {size : Nat} {f : α → List Value} {ad : Option Addr} {cap : Nat} {l : List α} (h : Own w B t size f ad cap l) {p : Addr} (hp : p.block < B) (v : Value) : Own (w.setCell p v) B t size f ad cap l :=
  h.kept fun a e => Below.heap_setCell _ _ _ _ (by have := (h.lt a e).1; omega)

theorem new_cells (w : World) (e : TypeId) (l : List Value) : ∀ (j : Nat) (u : Value), l[j]? = some u → (w.alloc (Obj.cells l.toArray e)).cell? ((⟨w.heap.size, 0, none⟩ : Addr).add j) = some u := by
  intro j u hj
  rw [Addr.add_lit, Nat.zero_add, cell_new]
  simpa using hj

theorem wpList_push {P : Program} (w : World) {α : Type} {ops : Array Oper} {rest : List Oper} {o : Oper} {a : Act} {Q : Exit → Act → World → Prop} (hgd : o.guard = none) (s x : Operand) (t : TypeId)
    (ho : o.op = .call { callee := .builtin .append, args := #[s, x], argTypes := #[t, t] })
    (B : Nat) (e : TypeId) (z : Value) (size bytes : Nat) (ht : P.underlying t = some (.slice e)) (hi : (P.info? e).map (fun i => (i.zero, i.size, i.bytes)) = some (some z, size, bytes))
    (hzs : z.cells.size = size) (hsz : 0 < size) (f : α → List Value) (hf : ∀ y, (f y).length = size)
    {ad : Option Addr} {cap : Nat} (l : List α) (y : α) (n : Nat) (hn : l.length = n) (hs : a.eval s = .slice ad n cap) (hown : Own w B e size f ad cap l) (b : Nat) (hx : a.eval x = .slice (some ⟨b, 0, none⟩) 1 1)
    (hnews : ∀ j u, (f y)[j]? = some u → w.cell? ((⟨b, 0, none⟩ : Addr).add j) = some u) (h1 : ∀ u ∈ f y, u.oneCell' = true)
    (hbytes : (n + 1) * bytes ≤ 140737488355328) (h63 : n ≤ 1000000) (hB : B ≤ w.heap.size)
    (h : ∀ ad' cap' w', Own w' B e size f ad' cap' (l ++ [y]) → w.grownBy w' (ad.map (·.block)) → wpList P ops Q rest (a.put o.dst (.slice ad' (n + 1) cap')) w') : wpList P ops Q (o :: rest) a w := by
  subst hn
  obtain ⟨i, hi0, hi1⟩ := Option.map_eq_some_iff.1 hi
  have hz : i.zero = some z := congrArg (·.1) hi1
  have hz1 : i.size = size := congrArg (·.2.1) hi1
  have hz2 : i.bytes = bytes := congrArg (·.2.2) hi1
  refine wpList_append_own w hgd s x t ho B e i z size bytes ht hi0 hz hz1 hz2 hzs hsz _ l.length (l.flatMap f) hs hown ⟨b, 0, none⟩ 1 1 (f y) hx (by rw [hf, Nat.one_mul]) hnews h1 (by unfold maxLen; omega) hbytes hB ?_
  intro v' w' hown' hg hnil
  have hlen : (l ++ [y]).length = l.length + 1 := by simp
  have hfl : l.flatMap f ++ f y = (l ++ [y]).flatMap f := by simp
  rw [hfl, ← hlen] at hown'
  have hrow : (Value.slice ad l.length cap).ownBlock = ad.map (·.block) := by cases ad <;> rfl
  rw [hrow] at hg
  rcases hown'.2 with ⟨e1, e2⟩ | ⟨g, c, cur, e1, e2⟩
  · simp at e2
  · have e3 : v' = .slice (some ⟨g, 0, none⟩) (l.length + 1) c := by rw [e1, hlen]
    rw [e3] at hown' ⊢
    exact h _ _ w' (by rw [← hlen] at hown'; exact hown') hg

/-- What is elsewhere stays. -/
theorem grown_cell {w w' : World} {ad : Option Addr} (hg : w.grownBy w' (ad.map (·.block))) {b j : Nat} (hb : b < w.heap.size) (hne : ∀ a, ad = some a → b ≠ a.block) : w'.cell? ⟨b, j, none⟩ = w.cell? ⟨b, j, none⟩ ∧ w'.frozen? ⟨b, j, none⟩ = w.frozen? ⟨b, j, none⟩ ∧ w'.heap[b]? = w.heap[b]? := by
  have h : w'.heap[b]? = w.heap[b]? := hg.block b hb (fun e => by
    cases ad with
    | none => simp at e
    | some a => exact hne a rfl (by simpa using e))
  exact ⟨World.cell?_of_block (a := ⟨b, j, none⟩) h, World.frozen?_of_block (a := ⟨b, j, none⟩) h, h⟩

theorem below_grown {B : Nat} {a w w' : World} {ad : Option Addr} (h : Below B a w) (hg : w.grownBy w' (ad.map (·.block))) (hB : B ≤ w.heap.size) (hr : ∀ x, ad = some x → B ≤ x.block) : Below B a w' :=
  h.grown hg hB (fun k e => by
    cases ad with
    | none => simp at e
    | some x => have := hr x rfl; simp at e; omega)

/-- A block, whole. -/
def Blk (w : World) (b : Nat) (t : TypeId) (a : Array Value) : Prop := w.heap[b]? = some (.cells a t (0, 0))

theorem Blk.lt {w : World} {b : Nat} {t : TypeId} {a : Array Value} (h : Blk w b t a) : b < w.heap.size := (Array.getElem?_eq_some_iff.1 h).1
theorem Blk.cell {w : World} {b : Nat} {t : TypeId} {a : Array Value} (h : Blk w b t a) (j : Nat) : w.cell? ⟨b, j, none⟩ = a[j]? := by
  unfold Blk at h
  simp [World.cell?, h]
theorem Blk.frozen {w : World} {b : Nat} {t : TypeId} {a : Array Value} (h : Blk w b t a) (j : Nat) : w.frozen? ⟨b, j, none⟩ = false := by
  unfold Blk at h
  simp [World.frozen?, h]
theorem Blk.below {w w' : World} {b B : Nat} {t : TypeId} {a : Array Value} (h : Blk w b t a) (hb : Below B w w') (hB : b < B) : Blk w' b t a := (hb.block b hB).trans h
theorem blk_new (w : World) (t : TypeId) (a : Array Value) : Blk (w.alloc (.cells a t)) w.heap.size t a := heap_alloc_new w _
theorem Blk.alloc {w : World} {b : Nat} {t : TypeId} {a : Array Value} (h : Blk w b t a) (o : Obj) : Blk (w.alloc o) b t a := (Below.heap_alloc _ _ _ h.lt).trans h
theorem Blk.far {w : World} {b : Nat} {t : TypeId} {a : Array Value} (h : Blk w b t a) {p : Addr} (hp : b ≠ p.block) (v : Value) : Blk (w.setCell p v) b t a := (Below.heap_setCell _ _ _ _ hp).trans h
theorem Blk.grown {w w' : World} {b : Nat} {t : TypeId} {a : Array Value} (h : Blk w b t a) {ad : Option Addr} (hg : w.grownBy w' (ad.map (·.block))) (hne : ∀ x, ad = some x → b ≠ x.block) : Blk w' b t a := (grown_cell (j := 0) hg h.lt hne).2.2.trans h
theorem Blk.set {w : World} {b j : Nat} {t : TypeId} {a : Array Value} (h : Blk w b t a) (v : Value) : Blk (w.setCell ⟨b, j, none⟩ v) b t (a.setIfInBounds j v) := by
  unfold Blk at *
  simp [World.setCell, Array.getElem?_modify, h]

theorem many_one {α : Type} {w : World} {b : Nat} {t : TypeId} {size : Nat} (f : α → List Value) (x : α) (hs : (f x).length = size) (h : Blk w b t (f x).toArray) : Many w t size f (.slice (some ⟨b, 0, none⟩) 1 1) [x] := by
  refine ⟨by simp [hs], .inr ⟨b, 0, 1, rfl, by simp, by unfold maxLen; omega, h.lt, ⟨_, h⟩, fun j u hj => ?_⟩⟩
  rw [h.cell]
  simpa using hj


end Go.Proofs.YtkhclolhkpkaeaaDoor

/-
  How the statements see a bare error: which of the program's own it is; none. Walked over the program.
-/
namespace Go.Proofs.YtkhclolhkpkaeaaDoor
open Go.RowKit

/-- The program's own errors lie where its variables say, each in memory of its own. -/
def glob (i : Nat) : Nat := [1, 2, 3, 4, 5, 0, 6, 7, 8, 9, 10, 11, 12].getD i 0
/-- The errors of a list of codes (0: ErrText .. 12: ErrBudget). -/
def ErrsL (L : List Nat) (w : World) (A : Nat → Addr) : Prop := ∀ i, i ∈ L → w.cell? ⟨glob i, 0, none⟩ = some (.iface 146 (.pointer (some (A i)))) ∧ glob i < w.heap.size ∧ (∃ c t, w.heap[(A i).block]? = some (.cells c t (0, 0))) ∧ ∀ j, j ∈ L → i ≠ j → A i ≠ A j
theorem ErrsL.below {L : List Nat} {w w' : World} {A : Nat → Addr} (h : ErrsL L w A) (hb : Below w.heap.size w w') : ErrsL L w' A := by
  intro i hi
  obtain ⟨h1, h2, ⟨c, t, h3⟩, h4⟩ := h i hi
  refine ⟨(hb.cell (p := ⟨glob i, 0, none⟩) h2).trans h1, Nat.lt_of_lt_of_le h2 hb.size, ⟨c, t, ?_⟩, h4⟩
  rw [hb.block _ (Array.getElem?_eq_some_iff.1 h3).1]
  exact h3
def Errs13 (w : World) (A : Nat → Addr) : Prop := ∀ i, i < 13 → w.cell? ⟨glob i, 0, none⟩ = some (.iface 146 (.pointer (some (A i)))) ∧ glob i < w.heap.size ∧ (∃ c t, w.heap[(A i).block]? = some (.cells c t (0, 0))) ∧ ∀ j, j < 13 → i ≠ j → A i ≠ A j

theorem errs13_of {w : World} {A : Nat → Addr} (h : ErrsL (List.range 13) w A) : Errs13 w A := fun i hi => by
  obtain ⟨h1, h2, h3, h4⟩ := h i (List.mem_range.2 hi)
  exact ⟨h1, h2, h3, fun j hj => h4 j (List.mem_range.2 hj)⟩
theorem Errs13.below {w w' : World} {A : Nat → Addr} (h : Errs13 w A) (hb : Below w.heap.size w w') : Errs13 w' A := by
  intro i hi
  obtain ⟨h1, h2, ⟨c, t, h3⟩, h4⟩ := h i hi
  refine ⟨(hb.cell (p := ⟨glob i, 0, none⟩) h2).trans h1, Nat.lt_of_lt_of_le h2 hb.size, ⟨c, t, ?_⟩, h4⟩
  rw [hb.block _ (Array.getElem?_eq_some_iff.1 h3).1]
  exact h3

theorem infoPtr : (Tryd.prog.info? 146).map (fun i => i.comparable) = some true := by kernel_rfl
theorem infoErr : (Tryd.prog.info? 161).map (fun i => i.size) = some 1 := by kernel_rfl

set_option maxRecDepth 20000 in
theorem alike_same (a : Addr) (w : World) :
    Calls Tryd.prog 51 #[.iface 146 (.pointer (some a)), .iface 146 (.pointer (some a))] w fun e w' => e = .returned (.bool true) ∧ w' = w := by
  obtain ⟨i, hi, hcmp⟩ := Option.map_eq_some_iff.1 infoPtr
  obtain ⟨j, hj, hsz⟩ := Option.map_eq_some_iff.1 infoErr
  go_enter Tryd.func51, Tryd.ntmps51
  go_wp2
  rw [run_eql_iface_ptr_same w a Tryd.underlying32 Tryd.underlying146 hi hcmp hj]
  go_wp2
  go_ret
  exact ⟨rfl, rfl⟩

set_option maxRecDepth 20000 in
theorem alike_other (a b : Addr) (w : World) (ca cb : Array Value) (ta tb : TypeId) (hne : a ≠ b) (ha : w.heap[a.block]? = some (.cells ca ta (0, 0))) (hb : w.heap[b.block]? = some (.cells cb tb (0, 0))) :
    Calls Tryd.prog 51 #[.iface 146 (.pointer (some a)), .iface 146 (.pointer (some b))] w fun e w' => e = .returned (.bool false) ∧ w' = w := by
  obtain ⟨i, hi, hcmp⟩ := Option.map_eq_some_iff.1 infoPtr
  obtain ⟨j, hj, hsz⟩ := Option.map_eq_some_iff.1 infoErr
  have hr := run_eql_iface_ptr_other (P := Tryd.prog) w Tryd.underlying32 Tryd.underlying146 hi hcmp hj (by rw [hsz]; decide) hne ha hb
  go_enter Tryd.func51, Tryd.ntmps51
  go_wp2
  go_ret
  exact ⟨rfl, rfl⟩

/-- The variables' numbers, in the order of the errors' codes. -/
def perm (i : Nat) : Nat := i

set_option maxRecDepth 20000 in
set_option maxHeartbeats 1000000 in
theorem sentinels_any (A : Nat → Addr) (w : World) (hE : Errs13 w A) :
    Calls Tryd.prog 50 #[] w fun e w' => ∃ g, e = .returned (.slice (some ⟨g, 0, none⟩) 13 13) ∧ (∀ j, j < 13 → w'.cell? ⟨g, j, none⟩ = some (.iface 146 (.pointer (some (A (perm j)))))) ∧ Below w.heap.size w w' := by
  have e0 : w.cell? ⟨1, 0, none⟩ = some (.iface 146 (.pointer (some (A 0)))) := (hE 0 (by omega)).1
  have e1 : w.cell? ⟨2, 0, none⟩ = some (.iface 146 (.pointer (some (A 1)))) := (hE 1 (by omega)).1
  have e2 : w.cell? ⟨3, 0, none⟩ = some (.iface 146 (.pointer (some (A 2)))) := (hE 2 (by omega)).1
  have e3 : w.cell? ⟨4, 0, none⟩ = some (.iface 146 (.pointer (some (A 3)))) := (hE 3 (by omega)).1
  have e4 : w.cell? ⟨5, 0, none⟩ = some (.iface 146 (.pointer (some (A 4)))) := (hE 4 (by omega)).1
  have e5 : w.cell? ⟨0, 0, none⟩ = some (.iface 146 (.pointer (some (A 5)))) := (hE 5 (by omega)).1
  have e6 : w.cell? ⟨6, 0, none⟩ = some (.iface 146 (.pointer (some (A 6)))) := (hE 6 (by omega)).1
  have e7 : w.cell? ⟨7, 0, none⟩ = some (.iface 146 (.pointer (some (A 7)))) := (hE 7 (by omega)).1
  have e8 : w.cell? ⟨8, 0, none⟩ = some (.iface 146 (.pointer (some (A 8)))) := (hE 8 (by omega)).1
  have e9 : w.cell? ⟨9, 0, none⟩ = some (.iface 146 (.pointer (some (A 9)))) := (hE 9 (by omega)).1
  have e10 : w.cell? ⟨10, 0, none⟩ = some (.iface 146 (.pointer (some (A 10)))) := (hE 10 (by omega)).1
  have e11 : w.cell? ⟨11, 0, none⟩ = some (.iface 146 (.pointer (some (A 11)))) := (hE 11 (by omega)).1
  have e12 : w.cell? ⟨12, 0, none⟩ = some (.iface 146 (.pointer (some (A 12)))) := (hE 12 (by omega)).1
  clear hE
  go_enter Tryd.func50, Tryd.ntmps50
  go_wp2
  go_ret
  refine ⟨w.heap.size, rfl, ?_, (Below.refl _ _).alloc (Nat.le_refl _) _⟩
  intro j hj
  rw [cell_of_row _ w.heap.size j _ _ _ (heap_alloc_new w _)]
  have : j = 0 ∨ j = 1 ∨ j = 2 ∨ j = 3 ∨ j = 4 ∨ j = 5 ∨ j = 6 ∨ j = 7 ∨ j = 8 ∨ j = 9 ∨ j = 10 ∨ j = 11 ∨ j = 12 := by omega
  rcases this with rfl | rfl | rfl | rfl | rfl | rfl | rfl | rfl | rfl | rfl | rfl | rfl | rfl <;> rfl

theorem perm_lt (i : Nat) (h : i < 13) : perm i < 13 := h
theorem perm_ne (i j : Nat) (_h : i < 13) (_g : j < 13) (n : i ≠ j) : perm i ≠ perm j := n

set_option maxRecDepth 20000 in
set_option maxHeartbeats 1000000 in
theorem sentinel_any (A : Nat → Addr) (w : World) (hE : Errs13 w A) (s : Nat) (hs : s < 13) (a : Addr) (ha : A (perm s) = a) :
    Calls Tryd.prog 23 #[.iface 146 (.pointer (some a))] w fun e w' => e = .returned (.int .i64 (101 + (s : Int))) ∧ Below w.heap.size w w' := by
  have HE : Hid (Errs13 w A) := hE
  have HA : Hid (A (perm s) = a) := ha
  have ks : Hid (∀ w, Errs13 w A → Calls Tryd.prog 50 #[] w fun e w' => ∃ g, e = .returned (.slice (some ⟨g, 0, none⟩) 13 13) ∧ Hid (∀ j, j < 13 → w'.cell? ⟨g, j, none⟩ = some (.iface 146 (.pointer (some (A (perm j)))))) ∧ Below w.heap.size w w') := fun w h => sentinels_any A w h
  clear hE ha
  go_enter Tryd.func23, Tryd.ntmps23
  go_wp2_with (go_at_call 50; refine (ks.out _ HE.out).mono ?_; rintro e w1 ⟨g, rfl, hc, hb⟩)
  go_loop [4] (fun i => ∃ k : Nat, k ≤ s ∧ i = .int .i64 k) (fun i => 13 - (intOf i).toNat)
  case atStart => exact ⟨0, Nat.zero_le _, rfl⟩
  case round =>
    obtain ⟨k, hk, rfl⟩ := hrel
    have hk13 : k < 13 := by omega
    have hcell := hc.out k hk13
    have HE1 : Hid (Errs13 w1 A) := HE.out.below hb
    by_cases hks : k = s
    · subst hks
      rw [HA.out] at hcell
      go_wp2_with (go_at_call 51; refine (alike_same _ _).mono ?_; rintro e w2 ⟨rfl, rfl⟩)
      go_ret
      exact ⟨rfl, hb⟩
    · obtain ⟨_, _, ⟨c1, t1, h1⟩, _⟩ := HE1.out (perm k) (perm_lt k hk13)
      obtain ⟨_, _, ⟨c2, t2, h2⟩, _⟩ := HE1.out (perm s) (perm_lt s hs)
      have hne : A (perm s) ≠ A (perm k) := (HE1.out (perm s) (perm_lt s hs)).2.2.2 _ (perm_lt k hk13) (perm_ne _ _ hs hk13 (fun e => hks e.symm))
      rw [HA.out] at h2 hne
      obtain ⟨b, hb'⟩ : ∃ b, A (perm k) = b := ⟨_, rfl⟩
      rw [hb'] at h1 hne hcell
      have KA : Hid (Calls Tryd.prog 51 #[.iface 146 (.pointer (some a)), .iface 146 (.pointer (some b))] w1 fun e w' => e = .returned (.bool false) ∧ w' = w1) := alike_other a b w1 c2 c1 t2 t1 hne h2 h1
      clear h1 h2 hne hb'
      go_wp2_with (go_at_call 51; refine KA.out.mono ?_; rintro e w2 ⟨rfl, rfl⟩)
      go_round
      case rel => exact ⟨k + 1, by omega, by go_num⟩
      case measure => simp [intOf]; omega

theorem bare_any (code : Int) (w : World) :
    Calls Tryd.prog 22 #[.int .i64 code] w fun e w' => e = .returned (.agg #[.int .i64 code, .bool false, .int .i64 0]) ∧ Below w.heap.size w w' := by
  go_enter Tryd.func22, Tryd.ntmps22
  go_wp2
  exact bodyPost_ret (v := .agg #[.int .i64 code, .bool false, .int .i64 0]) (by simp [results, Tryd.results22, go_sem]) rfl ⟨rfl, (by first | exact ((Below.refl _ _).alloc (Nat.le_refl _) _) | exact ((((Below.refl _ _).alloc (Nat.le_refl _) _).setCell (by simp) _).setCell (by simp) _).setCell (by simp) _)⟩

theorem none_any (w : World) :
    Calls Tryd.prog 14 #[] w fun e w' => e = .returned (.agg #[.int .i64 0, .bool false, .int .i64 0]) ∧ Below w.heap.size w w' := by
  go_enter Tryd.func14, Tryd.ntmps14
  go_wp2
  exact bodyPost_ret (v := .agg #[.int .i64 0, .bool false, .int .i64 0]) (by simp [results, Tryd.results14, go_sem]) rfl ⟨rfl, (by first | exact ((Below.refl _ _).alloc (Nat.le_refl _) _) | exact ((((Below.refl _ _).alloc (Nat.le_refl _) _).setCell (by simp) _).setCell (by simp) _).setCell (by simp) _)⟩

theorem same_fault (c p : Int) (b : Bool) (w : World) :
    Calls Tryd.prog 12 #[.agg #[.int .i64 c, .bool b, .int .i64 p], .agg #[.int .i64 c, .bool b, .int .i64 p]] w fun e w' => e = .returned (.bool true) ∧ Below w.heap.size w w' := by
  go_enter Tryd.func12, Tryd.ntmps12
  go_wp2
  go_ret
  exact ⟨rfl, ((Below.refl _ _).alloc (Nat.le_refl _) _).alloc (by simp) _⟩

theorem infoAt : (Tryd.prog.info? 74).map (fun i => i.zero) = some (some (.pointer none)) := by kernel_rfl

theorem assert_no (v : Value) (W : World) : (Instr.typeAssert (.iface 146 v) 32 74 true).run Tryd.prog W = .ok (.tuple #[.pointer none, .bool false]) W := by
  obtain ⟨i, hi, hz⟩ := Option.map_eq_some_iff.1 infoAt
  simp [Instr.typeAssert, run_underlying Tryd.underlying74, zeroValue, typeInfo, go_sem, hi, hz]

set_option maxRecDepth 20000 in
set_option maxHeartbeats 1000000 in
theorem fault_bare (A : Nat → Addr) (w : World) (hE : Errs13 w A) (s : Nat) (hs : s < 13) (a : Addr) (ha : A (perm s) = a) :
    Calls Tryd.prog 13 #[.iface 146 (.pointer (some a))] w fun e w' => e = .returned (.agg #[.int .i64 (101 + (s : Int)), .bool false, .int .i64 0]) ∧ Below w.heap.size w w' := by
  have KS : Hid (∀ W, Below w.heap.size w W → Calls Tryd.prog 23 #[.iface 146 (.pointer (some a))] W fun e w' => e = .returned (.int .i64 (101 + (s : Int))) ∧ Below W.heap.size W w') := fun W hb => sentinel_any A W (hE.below hb) s hs a ha
  clear hE ha
  have hta := fun W => assert_no (.pointer (some a)) W
  go_enter Tryd.func13, Tryd.ntmps13
  go_wp2_with (first
    | (go_at_call 23; refine (KS.out _ ((Below.refl _ _).alloc (Nat.le_refl _) _)).mono ?_; rintro e w1 ⟨rfl, hb1⟩; obtain ⟨hc1, hf1⟩ := bcell hb1; have hz1 : w.heap.size < w1.heap.size := by { have := hb1.size; simp at this; omega })
    | (go_at_call 22; refine (bare_any _ w1).mono ?_; rintro e w2 ⟨rfl, hb2⟩; obtain ⟨hc2, hf2⟩ := bcell hb2))
  refine bodyPost_ret (v := .agg #[.int .i64 (101 + (s : Int)), .bool false, .int .i64 0]) (by simp [results, Tryd.results13, go_sem, hc1, hc2, hz1]) rfl ⟨rfl, ?_⟩
  have B1 : Below w.heap.size w w1 := ((Below.refl _ _).alloc (Nat.le_refl _) _).trans (hb1.mono (by simp))
  have B2 : Below w.heap.size w w2 := B1.trans (hb2.mono (by omega))
  exact ((B2.setCell (Nat.le_refl _) _).setCell (Nat.le_refl _) _).setCell (Nat.le_refl _) _

set_option maxRecDepth 20000 in
set_option maxHeartbeats 1000000 in
theorem fault_nil (w : World) :
    Calls Tryd.prog 13 #[.nilIface] w fun e w' => e = .returned (.agg #[.int .i64 0, .bool false, .int .i64 0]) ∧ Below w.heap.size w w' := by
  go_enter Tryd.func13, Tryd.ntmps13
  go_wp2_with (go_at_call 14; refine (none_any _).mono ?_; rintro e w1 ⟨rfl, hb1⟩; obtain ⟨hc1, hf1⟩ := bcell hb1; have hz1 : w.heap.size < w1.heap.size := by { have := hb1.size; simp at this; omega })
  refine bodyPost_ret (v := .agg #[.int .i64 0, .bool false, .int .i64 0]) (by simp [results, Tryd.results13, go_sem, hc1]) rfl ⟨rfl, ?_⟩
  have B1 : Below w.heap.size w w1 := ((Below.refl _ _).alloc (Nat.le_refl _) _).trans (hb1.mono (by simp))
  exact ((B1.setCell (Nat.le_refl _) _).setCell (Nat.le_refl _) _).setCell (Nat.le_refl _) _

set_option maxRecDepth 20000 in
set_option maxHeartbeats 1000000 in
/-- An error is the fault that it is seen as. -/
theorem same_bare (x : Value) (c p : Int) (b : Bool) (w : World) (hx : ∀ W, Below w.heap.size w W → Calls Tryd.prog 13 #[x] W fun e w' => e = .returned (.agg #[.int .i64 c, .bool b, .int .i64 p]) ∧ Below W.heap.size W w') :
    Calls Tryd.prog 8 #[x, .agg #[.int .i64 c, .bool b, .int .i64 p]] w fun e w' => e = .returned (.bool true) ∧ Below w.heap.size w w' := by
  have KF : Hid (∀ W, Below w.heap.size w W → Calls Tryd.prog 13 #[x] W fun e w' => e = .returned (.agg #[.int .i64 c, .bool b, .int .i64 p]) ∧ Below W.heap.size W w') := hx
  clear hx
  go_enter Tryd.func8, Tryd.ntmps8
  go_wp2
  go_region_with (first
    | (go_at_call 13; refine (KF.out _ (by first | exact (Below.refl _ _).alloc (Nat.le_refl _) _ | exact ((Below.refl _ _).alloc (Nat.le_refl _) _).drew)).mono ?_; rintro e w1 ⟨rfl, hb1⟩; obtain ⟨hc1, hf1⟩ := bcell hb1; have hz1 : w.heap.size < w1.heap.size := by { have := hb1.size; simp at this; omega })
    | (go_at_call 12; refine (same_fault _ _ _ _).mono ?_; rintro e w2 ⟨rfl, hb2⟩))
  all_goals go_wp2
  all_goals
    go_ret
    have B1 : Below w.heap.size w w1 := (((Below.refl _ _).alloc (Nat.le_refl _) _).drew).trans (hb1.mono (by simp))
    exact ⟨rfl, B1.trans (hb2.mono (by omega))⟩

theorem placed_any (code p : Int) (w : World) (hc : code ≠ 0) :
    Calls Tryd.prog 9 #[.int .i64 code, .int .i64 p] w fun e w' => e = .returned (.agg #[.int .i64 code, .bool true, .int .i64 p]) ∧ Below w.heap.size w w' := by
  have h0 : (code == 0) = false := by simpa using hc
  go_enter Tryd.func9, Tryd.ntmps9
  go_wp2
  exact bodyPost_ret (v := .agg #[.int .i64 code, .bool true, .int .i64 p]) (by simp [results, Tryd.results9, go_sem]) rfl ⟨rfl, (by first | exact ((Below.refl _ _).alloc (Nat.le_refl _) _) | exact ((((Below.refl _ _).alloc (Nat.le_refl _) _).setCell (by simp) _).setCell (by simp) _).setCell (by simp) _)⟩

theorem run_assert_ptr {P : Program} (t xT e : TypeId) (v : Value) (w : World) (h : P.underlying t = some (.pointer e)) : (Instr.typeAssert (.iface t v) xT t true).run P w = .ok (.tuple #[v, .bool true]) w := by
  simp [Instr.typeAssert, run_underlying h]

set_option maxRecDepth 20000 in
set_option maxHeartbeats 1000000 in
theorem fault_at (A : Nat → Addr) (w : World) (hE : Errs13 w A) (s : Nat) (hs : s < 13) (a : Addr) (ha : A (perm s) = a) (g : Nat) (p : Int) (hg : w.heap[g]? = some (.cells #[.int .i64 p, .iface 146 (.pointer (some a))] 76 (0, 0))) :
    Calls Tryd.prog 13 #[.iface 74 (.pointer (some ⟨g, 0, none⟩))] w fun e w' => e = .returned (.agg #[.int .i64 (101 + (s : Int)), .bool true, .int .i64 p]) ∧ Below w.heap.size w w' := by
  have hlt : g < w.heap.size := (Array.getElem?_eq_some_iff.1 hg).1
  have c0 : ∀ W, Below w.heap.size w W → W.cell? ⟨g, 0, none⟩ = some (.int .i64 p) := fun W hb => by rw [hb.cell (p := ⟨g, 0, none⟩) hlt, cell_of_row w g 0 _ _ _ hg]; rfl
  have c1 : ∀ W, Below w.heap.size w W → W.cell? ⟨g, 1, none⟩ = some (.iface 146 (.pointer (some a))) := fun W hb => by rw [hb.cell (p := ⟨g, 1, none⟩) hlt, cell_of_row w g 1 _ _ _ hg]; rfl
  have d0 := c0 w (Below.refl _ _)
  have d1 := c1 w (Below.refl _ _)
  have C0 : Hid _ := c0
  have C1 : Hid _ := c1
  have KS : Hid (∀ W, Below w.heap.size w W → Calls Tryd.prog 23 #[.iface 146 (.pointer (some a))] W fun e w' => e = .returned (.int .i64 (101 + (s : Int))) ∧ Below W.heap.size W w') := fun W hb => sentinel_any A W (hE.below hb) s hs a ha
  clear c0 c1 hE hg
  have hta : ∀ W, (Instr.typeAssert (.iface 74 (.pointer (some ⟨g, 0, none⟩))) 32 74 true).run Tryd.prog W = .ok (.tuple #[.pointer (some ⟨g, 0, none⟩), .bool true]) W := fun W => run_assert_ptr _ _ _ _ _ Tryd.underlying74
  go_enter Tryd.func13, Tryd.ntmps13
  go_wp2
  go_region_with (first
    | (go_at_call 23; refine (KS.out _ (by first | exact (Below.refl _ _).alloc (Nat.le_refl _) _ | exact ((Below.refl _ _).alloc (Nat.le_refl _) _).drew)).mono ?_; rintro e w1 ⟨rfl, hb1⟩; obtain ⟨hc1, hf1⟩ := bcell hb1; have hz1 : w.heap.size < w1.heap.size := by { have := hb1.size; simp at this; omega })
    | (go_at_call 9; refine (placed_any _ _ _ (by omega)).mono ?_; rintro e w2 ⟨rfl, hb2⟩; obtain ⟨hc2, hf2⟩ := bcell hb2))
  all_goals go_wp2
  all_goals
    refine bodyPost_ret (v := .agg #[.int .i64 (101 + (s : Int)), .bool true, .int .i64 p]) (by simp [results, Tryd.results13, go_sem, hc1, hc2, hz1]) rfl ⟨rfl, ?_⟩
    have B1 : Below w.heap.size w w1 := (((Below.refl _ _).alloc (Nat.le_refl _) _).drew).trans (hb1.mono (by simp))
    have B2 : Below w.heap.size w w2 := B1.trans (hb2.mono (by omega))
    exact ((B2.setCell (Nat.le_refl _) _).setCell (Nat.le_refl _) _).setCell (Nat.le_refl _) _

set_option maxRecDepth 20000 in
set_option maxHeartbeats 1000000 in
/-- An error with its place is the fault that it should be. -/
theorem same_at (A : Nat → Addr) (w : World) (hE : Errs13 w A) (s : Nat) (hs : s < 13) (a : Addr) (ha : A (perm s) = a) (g : Nat) (p c : Int) (hc : c = 101 + (s : Int)) (hg : w.heap[g]? = some (.cells #[.int .i64 p, .iface 146 (.pointer (some a))] 76 (0, 0))) :
    Calls Tryd.prog 8 #[.iface 74 (.pointer (some ⟨g, 0, none⟩)), .agg #[.int .i64 c, .bool true, .int .i64 p]] w fun e w' => e = .returned (.bool true) ∧ Below w.heap.size w w' := by
  have hlt : g < w.heap.size := (Array.getElem?_eq_some_iff.1 hg).1
  have KF : Hid (∀ W, Below w.heap.size w W → Calls Tryd.prog 13 #[.iface 74 (.pointer (some ⟨g, 0, none⟩))] W fun e w' => e = .returned (.agg #[.int .i64 c, .bool true, .int .i64 p]) ∧ Below W.heap.size W w') := fun W hb => by
    rw [hc]
    exact fault_at A W (hE.below hb) s hs a ha g p (by rw [hb.block g hlt]; exact hg)
  clear hE hg hc
  go_enter Tryd.func8, Tryd.ntmps8
  go_wp2
  go_region_with (first
    | (go_at_call 13; refine (KF.out _ (by first | exact (Below.refl _ _).alloc (Nat.le_refl _) _ | exact ((Below.refl _ _).alloc (Nat.le_refl _) _).drew)).mono ?_; rintro e w1 ⟨rfl, hb1⟩; obtain ⟨hc1, hf1⟩ := bcell hb1; have hz1 : w.heap.size < w1.heap.size := by { have := hb1.size; simp at this; omega })
    | (go_at_call 12; refine (same_fault _ _ true _).mono ?_; rintro e w2 ⟨rfl, hb2⟩))
  all_goals go_wp2
  all_goals
    go_ret
    have B1 : Below w.heap.size w w1 := (((Below.refl _ _).alloc (Nat.le_refl _) _).drew).trans (hb1.mono (by simp))
    exact ⟨rfl, B1.trans (hb2.mono (by omega))⟩


end Go.Proofs.YtkhclolhkpkaeaaDoor

/-
  The words of a text, said plainly: which bytes are which, how far a name, a number, a color goes, what lies between words, the words one by one or the first place where none can be read.
-/
namespace Go.Proofs.YtkhclolhkpkaeaaDoor
namespace WP

def small (c : UInt8) : Bool := decide (97 ≤ c.toNat) && decide (c.toNat ≤ 122)
def great (c : UInt8) : Bool := decide (65 ≤ c.toNat) && decide (c.toNat ≤ 90)
def digit (c : UInt8) : Bool := decide (48 ≤ c.toNat) && decide (c.toNat ≤ 57)
def nsign (c : UInt8) : Bool := small c || digit c || decide (c.toNat = 95)
def sign (c : UInt8) : Bool := nsign c || great c
def cdig (c : UInt8) : Bool := digit c || (decide (97 ≤ c.toNat) && decide (c.toNat ≤ 102))
def poh (c : UInt8) : Bool := decide (c.toNat = 46) || decide (c.toNat = 35)
def blank (c : UInt8) : Bool := decide (c.toNat = 32) || decide (c.toNat = 9) || decide (c.toNat = 10) || decide (c.toNat = 13)
def mark (c : UInt8) : Bool := decide (c.toNat = 123) || decide (c.toNat = 125) || decide (c.toNat = 59) || decide (c.toNat = 61)
def step (c : UInt8) : Bool := decide (c.toNat = 77) || decide (c.toNat = 76) || decide (c.toNat = 81) || decide (c.toNat = 67) || decide (c.toNat = 65) || decide (c.toNat = 66) || decide (c.toNat = 90)

def count (p : UInt8 → Bool) : List UInt8 → Nat
  | [] => 0
  | c :: l => if p c then count p l + 1 else 0

def begins (p : UInt8 → Bool) : List UInt8 → Bool
  | [] => false
  | c :: _ => p c

def glued (l : List UInt8) : Bool := begins sign l || begins poh l

def digits (l : List UInt8) : Nat := if 6 < count digit l then 0 else count digit l

def nameSize (l : List UInt8) : Nat := if 24 < count nsign l then 0 else count nsign l

/-- What is left behind a number, if it is right. -/
def numRest (l : List UInt8) : Option (List UInt8) :=
  let r := Lib.trimPrefix l [45]
  if digits r = 0 then none else
  let r1 := r.drop (digits r)
  if Lib.hasPrefix r1 [46] then
    let b := Lib.trimPrefix r1 [46]
    if digits b = 0 then none else if glued (b.drop (digits b)) then none else some (b.drop (digits b))
  else if glued r1 then none else some r1

def numSize (l : List UInt8) : Nat := match numRest l with | none => 0 | some r => l.length - r.length

def colSize (l : List UInt8) : Nat :=
  let n := count cdig (l.drop 1)
  if (n ≠ 6 ∧ n ≠ 8) ∨ glued (l.drop (1 + n)) = true then 0 else 1 + n

def keys : List (List UInt8) := [[105, 99, 111, 110], [115, 99, 97, 108, 101], [99, 111, 110, 115, 116], [99, 111, 108, 111, 114], [115, 104, 97, 112, 101], [102, 105, 108, 108], [101, 118, 101, 110, 111, 100, 100], [110, 111, 110, 122, 101, 114, 111], [108, 105, 110, 101], [108, 105, 110, 101, 97, 114], [114, 97, 100, 105, 97, 108], [112, 97, 116, 104], [117, 115, 101], [97, 116], [98, 121], [116, 117, 114, 110]]

def reserved (l : List UInt8) : Bool := keys.contains l

/-- The word at the front: its kind, its size (0: none that is right). -/
def first (l : List UInt8) : Nat × Nat :=
  match l with
  | [] => (0, 0)
  | c :: t =>
    if small c then (if reserved (l.take (nameSize l)) then (2, nameSize l) else (1, nameSize l))
    else if c.toNat = 45 ∨ digit c = true then (3, numSize l)
    else if c.toNat = 35 then (4, colSize l)
    else if mark c then (5, 1)
    else if step c && !begins sign t then (6, 1)
    else (0, 0)

/-- How far a line goes: to its end, or the text's. -/
def line : List UInt8 → Nat
  | [] => 0
  | c :: l => if c.toNat = 10 then 0 else line l + 1

/-- Blanks and remarks (r: within one). -/
def gaps (r : Bool) : List UInt8 → Nat
  | [] => 0
  | c :: l =>
    if r then (if c.toNat = 10 then gaps false l + 1 else gaps true l + 1)
    else if blank c then gaps false l + 1
    else if c.toNat = 47 ∧ begins (fun d => decide (d.toNat = 47)) l = true then gaps true l + 1
    else 0

def gap (l : List UInt8) : Nat := gaps false l

abbrev W := Nat × Nat × List UInt8

def pre (ws : List W) (r : Except Nat (List W)) : Except Nat (List W) := match r with | .error e => .error e | .ok l => .ok (ws ++ l)

def go : Nat → Nat → List UInt8 → Except Nat (List W)
  | 0, _, _ => .ok []
  | f + 1, n, d =>
    if d = [] then .ok []
    else if (first d).2 = 0 then .error n
    else pre [((first d).1, n, d.take (first d).2)] (go f (n + ((first d).2 + gap (d.drop (first d).2))) (d.drop ((first d).2 + gap (d.drop (first d).2))))

def split (l : List UInt8) : Except Nat (List W) := go (l.length + 1) (gap l) (l.drop (gap l))

theorem pre_pre (a b : List W) (r : Except Nat (List W)) : pre a (pre b r) = pre (a ++ b) r := by
  unfold pre; cases r <;> simp

theorem pre_nil (r : Except Nat (List W)) : pre [] r = r := by unfold pre; cases r <;> simp

theorem count_le (p : UInt8 → Bool) (l : List UInt8) : count p l ≤ l.length := by
  induction l with
  | nil => exact Nat.le_refl _
  | cons c l ih => unfold count; split <;> simp <;> omega

theorem digits_le (l : List UInt8) : digits l ≤ l.length := by
  have := count_le digit l
  unfold digits; split <;> omega

theorem nameSize_le (l : List UInt8) : nameSize l ≤ l.length := by
  have := count_le nsign l
  unfold nameSize; split <;> omega

theorem line_le (l : List UInt8) : line l ≤ l.length := by
  induction l with
  | nil => exact Nat.le_refl _
  | cons c l ih => unfold line; split <;> simp <;> omega

theorem gaps_le (r : Bool) (l : List UInt8) : gaps r l ≤ l.length := by
  induction l generalizing r with
  | nil => exact Nat.le_refl _
  | cons c l ih =>
    have h1 := ih true
    have h2 := ih false
    simp only [gaps, List.length_cons]
    split
    · split <;> omega
    · split
      · omega
      · split <;> omega

theorem gap_le (l : List UInt8) : gap l ≤ l.length := gaps_le false l

theorem numSize_le (l : List UInt8) : numSize l ≤ l.length := by unfold numSize; split <;> omega

theorem colSize_le (l : List UInt8) (h : l ≠ []) : colSize l ≤ l.length := by
  have := count_le cdig (l.drop 1)
  have h1 : 0 < l.length := List.length_pos_iff.2 h
  simp only [List.length_drop] at this
  unfold colSize
  simp only
  split <;> omega

theorem first_le (l : List UInt8) : (first l).2 ≤ l.length := by
  unfold first
  split
  · exact Nat.le_refl _
  · rename_i c t
    have h1 := nameSize_le (c :: t)
    have h2 := numSize_le (c :: t)
    have h3 := colSize_le (c :: t) (by simp)
    split
    · split <;> exact h1
    · split
      · exact h2
      · split
        · exact h3
        · split
          · simp
          · split <;> simp

theorem gaps_true (l : List UInt8) : gaps true l = line l + gap (l.drop (line l)) := by
  induction l with
  | nil => rfl
  | cons c l ih =>
    unfold line
    by_cases h : c.toNat = 10
    · rw [if_pos h, List.drop_zero, Nat.zero_add]
      have hb : blank c = true := by unfold blank; simp [h]
      simp [gap, gaps, h, hb]
    · rw [if_neg h, List.drop_succ_cons]
      simp only [gaps, h, if_true, if_false]
      omega

theorem gap_remark (l : List UInt8) (h : Lib.hasPrefix l [47, 47] = true) : gap l = line l + gap (l.drop (line l)) ∧ 0 < line l := by
  match l, h with
  | [], h => simp [Lib.hasPrefix] at h
  | [c], h => simp [Lib.hasPrefix, List.isPrefixOf] at h
  | c :: d :: l, h =>
    simp only [Lib.hasPrefix, List.isPrefixOf, Bool.and_true, Bool.and_eq_true, beq_iff_eq] at h
    obtain ⟨rfl, rfl⟩ := h
    have e : line ((47 : UInt8) :: 47 :: l) = line ((47 : UInt8) :: l) + 1 := by
      conv => lhs; unfold line
      rw [if_neg (by decide)]
    have e2 : gap ((47 : UInt8) :: 47 :: l) = gaps true ((47 : UInt8) :: l) + 1 := by
      conv => lhs; unfold gap gaps
      rw [if_neg (by decide), if_neg (by decide), if_pos ⟨by decide, rfl⟩]
    rw [e2, e, List.drop_succ_cons, gaps_true]
    omega

theorem gap_blank (l : List UInt8) (c : UInt8) (h : blank c = true) : gap (c :: l) = gap l + 1 := by
  unfold gap
  conv => lhs; unfold gaps
  rw [if_neg (by decide), if_pos h]

theorem gap_none (l : List UInt8) (c : UInt8) (h : blank c = false) (h2 : Lib.hasPrefix (c :: l) [47, 47] = false) : gap (c :: l) = 0 := by
  unfold gap
  conv => lhs; unfold gaps
  rw [if_neg (by decide), if_neg (by simp [h]), if_neg]
  rintro ⟨h3, h4⟩
  cases l with
  | nil => simp [begins] at h4
  | cons d l =>
    simp only [begins, decide_eq_true_eq] at h4
    have e1 : c = 47 := UInt8.toNat_inj.1 h3
    have e2 : d = 47 := UInt8.toNat_inj.1 h4
    subst e1; subst e2
    simp [Lib.hasPrefix, List.isPrefixOf] at h2

/-- Enough is enough. -/
theorem go_more : ∀ (f g n : Nat) (d : List UInt8), d.length < f → d.length < g → go f n d = go g n d := by
  intro f
  induction f with
  | zero => intro g n d h; omega
  | succ f ih =>
    intro g n d hf hg
    cases g with
    | zero => omega
    | succ g =>
      unfold go
      by_cases hd : d = []
      · simp [hd]
      · rw [if_neg hd, if_neg hd]
        by_cases h0 : (first d).2 = 0
        · simp [h0]
        · rw [if_neg h0, if_neg h0]
          have : 0 < d.length := List.length_pos_iff.2 hd
          rw [ih g _ _ (by rw [List.length_drop]; omega) (by rw [List.length_drop]; omega)]

end WP
end Go.Proofs.YtkhclolhkpkaeaaDoor

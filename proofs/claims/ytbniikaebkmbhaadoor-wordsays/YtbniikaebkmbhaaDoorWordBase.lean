/-
  What the roads over words lean on: lists of structs in memory, read cell by cell, grown one by one.
-/
import Derived.WalkKit
import Derived.WalkSpells
import Derived.WalkLawsBesides
import Derived.Deep.QuietTactic
import Derived.BigQuiet
import Derived.Deep.RegionWith
import Derived.Deep.RegionLaw
import Derived.Deep.RegionHeld3
import Derived.Sort.AtCall
import Derived.OwnWalk
import Derived.Test.YtbniikaebkmbhaaDoorProg
import Derived.Laws.AppendOwn
namespace Go.Proofs.YtbniikaebkmbhaaDoor
open Go.RowKit

theorem hid'' {P : Prop} (h : P) : Hid P := h
theorem ret_int {k : IntKind} {a b : Int} (h : a = b) : Ending.returned (.int k a) = .returned (.int k b) := by rw [h]
theorem ret_bool {a b : Bool} (h : a = b) : Ending.returned (.bool a) = .returned (.bool b) := by rw [h]
theorem ret_v {a b : Value} (h : a = b) : Ending.returned a = .returned b := by rw [h]

theorem below_drewN {B : Nat} {a w : World} (h : Below B a w) (n : Nat) : Below B a (w.drewN n) := ⟨h.os, h.tape, h.output, h.size, h.block⟩
theorem below_of_drew {w w' : World} (h : Below w.drew.heap.size w.drew w') : Below w.heap.size w w' := ⟨h.os, h.tape, h.output, h.size, h.block⟩
theorem size_alloc (w : World) (o : Obj) : (w.alloc o).heap.size = w.heap.size + 1 := by simp
theorem chain {w w1 w2 : World} (h : Below w.heap.size w w1) (k : Below w1.heap.size w1 w2) : Below w.heap.size w w2 := h.trans (k.mono h.size)
theorem bcell {W w1 : World} (hb : Below W.heap.size W w1) : (∀ b o, b < W.heap.size → w1.cell? ⟨b, o, none⟩ = W.cell? ⟨b, o, none⟩) ∧ (∀ b o, b < W.heap.size → w1.frozen? ⟨b, o, none⟩ = W.frozen? ⟨b, o, none⟩) :=
  ⟨fun b o h => hb.cell (p := ⟨b, o, none⟩) h, fun b o h => hb.frozen (p := ⟨b, o, none⟩) h⟩

theorem cell_new (w : World) (a : Array Value) (t : TypeId) (fr : Nat × Nat) (j : Nat) : (w.alloc (.cells a t fr)).cell? ⟨w.heap.size, j, none⟩ = a[j]? := by
  rw [World.cell?_alloc_mark]

/-- What a world that has grown behind one box, two boxes, holds. -/
theorem boxes1 {w w1 : World} {a : Array Value} {t : TypeId} {fr : Nat × Nat} (hb : Below (w.alloc (.cells a t fr)).heap.size (w.alloc (.cells a t fr)) w1) :
    (∀ j, w1.cell? ⟨w.heap.size, j, none⟩ = a[j]?) ∧ (∀ k j, k < w.heap.size → w1.cell? ⟨k, j, none⟩ = w.cell? ⟨k, j, none⟩) := by
  refine ⟨fun j => ?_, fun k j hk => ?_⟩
  · rw [hb.cell (p := ⟨w.heap.size, j, none⟩) (by simp), cell_new]
  · rw [hb.cell (p := ⟨k, j, none⟩) (by simp; omega)]
    exact World.cell?_of_block (Below.heap_alloc _ _ _ hk)

theorem boxes2 {w w1 : World} {a b : Array Value} {t t' : TypeId} {fr fr' : Nat × Nat} (hb : Below ((w.alloc (.cells a t fr)).alloc (.cells b t' fr')).heap.size ((w.alloc (.cells a t fr)).alloc (.cells b t' fr')) w1) :
    (∀ j, w1.cell? ⟨w.heap.size, j, none⟩ = a[j]?) ∧ (∀ j, w1.cell? ⟨w.heap.size + 1, j, none⟩ = b[j]?) ∧ (∀ k j, k < w.heap.size → w1.cell? ⟨k, j, none⟩ = w.cell? ⟨k, j, none⟩) := by
  have h2 := boxes1 hb
  have e : (w.alloc (.cells a t fr)).heap.size = w.heap.size + 1 := by simp
  rw [e] at h2
  refine ⟨fun j => ?_, h2.1, fun k j hk => ?_⟩
  · rw [h2.2 _ j (by omega), cell_new]
  · rw [h2.2 _ j (by omega)]
    exact World.cell?_of_block (Below.heap_alloc _ _ _ hk)

theorem sizes1 {w w1 : World} {o : Obj} (hb : Below (w.alloc o).heap.size (w.alloc o) w1) : w.heap.size < w1.heap.size := by
  have := hb.size
  simp at this
  omega
theorem sizes2 {w w1 : World} {o o' : Obj} (hb : Below ((w.alloc o).alloc o').heap.size ((w.alloc o).alloc o') w1) : w.heap.size < w1.heap.size ∧ w.heap.size + 1 < w1.heap.size := by
  have := hb.size
  simp at this
  omega

/-- A list of structs that is read: nil, or its elements' cells one behind the other, from some place of a block on. -/
def Row (w : World) (t : TypeId) (size : Nat) (v : Value) (n : Nat) (xs : List Value) : Prop :=
  xs.length = n * size ∧ ((v = .slice none 0 0 ∧ n = 0) ∨ ∃ g o cap, v = .slice (some ⟨g, o, none⟩) n cap ∧ n ≤ cap ∧ cap ≤ maxLen ∧ g < w.heap.size ∧ (∃ cur, w.heap[g]? = some (.cells cur t (0, 0))) ∧ ∀ j u, xs[j]? = some u → w.cell? ⟨g, o + j, none⟩ = some u)

theorem Row.below {w w' : World} {t : TypeId} {size n : Nat} {v : Value} {xs : List Value} (h : Row w t size v n xs) (hb : Below w.heap.size w w') : Row w' t size v n xs := by
  refine ⟨h.1, ?_⟩
  rcases h.2 with h | ⟨g, o, cap, h1, h2, h3, h4, ⟨cur, h5⟩, h6⟩
  · exact .inl h
  · exact .inr ⟨g, o, cap, h1, h2, h3, Nat.lt_of_lt_of_le h4 hb.size, ⟨cur, by rw [hb.block g h4]; exact h5⟩, fun j u hj => (hb.cell (p := ⟨g, o + j, none⟩) h4).trans (h6 j u hj)⟩

/-- It stays, where its block is none that has been written. -/
theorem Row.kept {w w' : World} {t : TypeId} {size n : Nat} {v : Value} {xs : List Value} {row : Option Nat} (h : Row w t size v n xs) (hg : w.grownBy w' row) (hne : ∀ b, row = some b → ∀ cur, w.heap[b]? ≠ some (.cells cur t (0, 0))) : Row w' t size v n xs := by
  refine ⟨h.1, ?_⟩
  rcases h.2 with h | ⟨g, o, cap, h1, h2, h3, h4, ⟨cur, h5⟩, h6⟩
  · exact .inl h
  · have hr : some g ≠ row := fun e => hne g e.symm cur h5
    exact .inr ⟨g, o, cap, h1, h2, h3, Nat.lt_of_lt_of_le h4 hg.size, ⟨cur, by rw [hg.block g h4 hr]; exact h5⟩, fun j u hj => hg.cell (a := ⟨g, o + j, none⟩) (h6 j u hj) hr⟩

theorem Row.own {w : World} {B : Nat} {t : TypeId} {size n : Nat} {v : Value} {xs : List Value} (h : w.ownsRow B t size v n xs) : Row w t size v n xs := by
  refine ⟨h.1, ?_⟩
  rcases h.2 with h | ⟨g, cap, cur, h1, h2, h3, h4, h5, h6, h7⟩
  · exact .inl h
  · refine .inr ⟨g, 0, cap, h1, h4, h5, (Array.getElem?_eq_some_iff.1 h3).1, ⟨cur, h3⟩, fun j u hj => ?_⟩
    have := World.ownsRow.cells h (g := g) (by rw [h1]; rfl) j u hj
    rw [Addr.add_lit] at this
    exact this

/-- What lies at a place of a list of structs. -/
theorem flat_at {α : Type} (f : α → List Value) (size : Nat) (hs : ∀ x, (f x).length = size) : ∀ (l : List α) (k : Nat) (hk : k < l.length) (j : Nat), j < size → (l.flatMap f)[k * size + j]? = (f l[k])[j]? := by
  intro l
  induction l with
  | nil => intro k hk; simp at hk
  | cons x r ih =>
    intro k hk j hj
    rw [List.flatMap_cons]
    cases k with
    | zero => simp only [Nat.zero_mul, Nat.zero_add, List.getElem_cons_zero]; rw [List.getElem?_append_left (by rw [hs]; exact hj)]
    | succ k =>
      rw [List.getElem?_append_right (by rw [hs, Nat.succ_mul]; omega), hs]
      have e : (k + 1) * size + j - size = k * size + j := by rw [Nat.succ_mul]; omega
      rw [e, List.getElem_cons_succ]
      exact ih k (by simpa using hk) j hj

theorem flat_len {α : Type} (f : α → List Value) (size : Nat) (hs : ∀ x, (f x).length = size) (l : List α) : (l.flatMap f).length = l.length * size := by
  induction l with
  | nil => simp
  | cons x r ih => rw [List.flatMap_cons, List.length_append, hs, ih, List.length_cons, Nat.succ_mul]; omega

/-- A list of elements, read. -/
def Many {α : Type} (w : World) (t : TypeId) (size : Nat) (f : α → List Value) (v : Value) (l : List α) : Prop := Row w t size v l.length (l.flatMap f)

theorem Many.at {α : Type} {w : World} {t : TypeId} {size : Nat} {f : α → List Value} {v : Value} {l : List α} (hs : ∀ x, (f x).length = size) (h : Many w t size f v l) (k : Nat) (hk : k < l.length) :
    ∃ g o cap, v = .slice (some ⟨g, o, none⟩) l.length cap ∧ g < w.heap.size ∧ l.length ≤ cap ∧ cap ≤ maxLen ∧ ∀ j u, (f l[k])[j]? = some u → w.cell? ⟨g, o + (k * size + j), none⟩ = some u := by
  rcases h.2 with ⟨_, h0⟩ | ⟨g, o, cap, h1, h2, h3, h4, h5, h6⟩
  · omega
  · refine ⟨g, o, cap, h1, h4, h2, h3, fun j u hj => ?_⟩
    have hj' : j < size := by
      rcases Nat.lt_or_ge j (f l[k]).length with h | h
      · rw [← hs l[k]]; exact h
      · rw [List.getElem?_eq_none h] at hj; cases hj
    exact h6 _ _ (by rw [flat_at f size hs l k hk j hj']; exact hj)

theorem Many.len {α : Type} {w : World} {t : TypeId} {size : Nat} {f : α → List Value} {v : Value} {l : List α} (h : Many w t size f v l) : ∃ ad cap, v = .slice ad l.length cap ∧ l.length ≤ cap ∧ cap ≤ maxLen := by
  rcases h.2 with ⟨h0, h1⟩ | ⟨g, o, cap, h1, h2, h3, _⟩
  · exact ⟨none, 0, by rw [h0, h1], by omega, by unfold maxLen; omega⟩
  · exact ⟨_, cap, h1, h2, h3⟩

/-- A list of elements in memory of the call's own. -/
def Own {α : Type} (w : World) (B : Nat) (t : TypeId) (size : Nat) (f : α → List Value) (ad : Option Addr) (cap : Nat) (l : List α) : Prop := w.ownsRow B t size (.slice ad l.length cap) l.length (l.flatMap f)

theorem Own.many {α : Type} {w : World} {B : Nat} {t : TypeId} {size : Nat} {f : α → List Value} {ad : Option Addr} {cap : Nat} {l : List α} (h : Own w B t size f ad cap l) : Many w t size f (.slice ad l.length cap) l := Row.own h

theorem own_nil {α : Type} (w : World) (B : Nat) (t : TypeId) (size : Nat) (f : α → List Value) : Own w B t size f none 0 [] := World.ownsRow_nil w B t size

theorem Own.lt {α : Type} {w : World} {B : Nat} {t : TypeId} {size : Nat} {f : α → List Value} {ad : Option Addr} {cap : Nat} {l : List α} (h : Own w B t size f ad cap l) : ∀ a, ad = some a → B ≤ a.block ∧ a.block < w.heap.size := fun a e => World.ownsRow.lt h a.block (by rw [e]; rfl)

/-- It stays, where its block is none that has been written. -/
theorem Own.kept {α : Type} {w w' : World} {B : Nat} {t : TypeId} {size : Nat} {f : α → List Value} {ad : Option Addr} {cap : Nat} {l : List α} (h : Own w B t size f ad cap l) (hk : ∀ a, ad = some a → w'.heap[a.block]? = w.heap[a.block]?) : Own w' B t size f ad cap l := by
  refine ⟨h.1, ?_⟩
  rcases h.2 with h | ⟨g, c, cur, h1, h2, h3, h4⟩
  · exact .inl h
  · have e : ad = some ⟨g, 0, none⟩ := by cases h1; rfl
    exact .inr ⟨g, c, cur, h1, h2, by rw [hk _ e]; exact h3, h4⟩

theorem Own.below {α : Type} {w w' : World} {B C : Nat} {t : TypeId} {size : Nat} {f : α → List Value} {ad : Option Addr} {cap : Nat} {l : List α} (h : Own w B t size f ad cap l) (hb : Below C w w') (hC : w.heap.size ≤ C) : Own w' B t size f ad cap l :=
  h.kept fun a e => hb.block _ (Nat.lt_of_lt_of_le (h.lt a e).2 hC)

theorem Own.alloc {α : Type} {w : World} {B : Nat} {t : TypeId} {size : Nat} {f : α → List Value} {ad : Option Addr} {cap : Nat} {l : List α} (h : Own w B t size f ad cap l) (o : Obj) : Own (w.alloc o) B t size f ad cap l :=
  h.below ((Below.refl _ _).alloc (Nat.le_refl _) _) (Nat.le_refl _)

/-- A store below its base. -/
theorem Own.setLow {α : Type} {w : World} {B : Nat} {t : TypeId} {size : Nat} {f : α → List Value} {ad : Option Addr} {cap : Nat} {l : List α} (h : Own w B t size f ad cap l) {p : Addr} (hp : p.block < B) (v : Value) : Own (w.setCell p v) B t size f ad cap l :=
  h.kept fun a e => Below.heap_setCell _ _ _ _ (by have := (h.lt a e).1; omega)

theorem new_cells (w : World) (e : TypeId) (l : List Value) : ∀ (j : Nat) (u : Value), l[j]? = some u → (w.alloc (Obj.cells l.toArray e)).cell? ((⟨w.heap.size, 0, none⟩ : Addr).add j) = some u := by
  intro j u hj
  rw [Addr.add_lit, Nat.zero_add, cell_new]
  simpa using hj

theorem wpList_push {P : Program} (w : World) {α : Type} {ops : Array Oper} {rest : List Oper} {o : Oper} {a : Act} {Q : Exit → Act → World → Prop} (hgd : o.guard = none) (s x : Operand) (t : TypeId)
    (ho : o.op = .call { callee := .builtin .append, args := #[s, x], argTypes := #[t, t] })
    (B : Nat) (e : TypeId) (z : Value) (size bytes : Nat) (ht : P.underlying t = some (.slice e)) (hi : (P.info? e).map (fun i => (i.zero, i.size, i.bytes)) = some (some z, size, bytes))
    (hzs : z.cells.size = size) (hsz : 0 < size) (f : α → List Value) (hf : ∀ y, (f y).length = size)
    {ad : Option Addr} {cap : Nat} (l : List α) (y : α) (n : Nat) (hn : l.length = n) (hs : a.eval s = .slice ad n cap) (hown : Own w B e size f ad cap l) (b : Nat) (hx : a.eval x = .slice (some ⟨b, 0, none⟩) 1 1)
    (hnews : ∀ j u, (f y)[j]? = some u → w.cell? ((⟨b, 0, none⟩ : Addr).add j) = some u) (h1 : ∀ u ∈ f y, u.oneCell' = true)
    (hbytes : (n + 1) * bytes ≤ 140737488355328) (h63 : n ≤ 1000000) (hB : B ≤ w.heap.size)
    (h : ∀ ad' cap' w', Own w' B e size f ad' cap' (l ++ [y]) → w.grownBy w' (ad.map (·.block)) → wpList P ops Q rest (a.put o.dst (.slice ad' (n + 1) cap')) w') : wpList P ops Q (o :: rest) a w := by
  subst hn
  obtain ⟨i, hi0, hi1⟩ := Option.map_eq_some_iff.1 hi
  have hz : i.zero = some z := congrArg (·.1) hi1
  have hz1 : i.size = size := congrArg (·.2.1) hi1
  have hz2 : i.bytes = bytes := congrArg (·.2.2) hi1
  refine wpList_append_own w hgd s x t ho B e i z size bytes ht hi0 hz hz1 hz2 hzs hsz _ l.length (l.flatMap f) hs hown ⟨b, 0, none⟩ 1 1 (f y) hx (by rw [hf, Nat.one_mul]) hnews h1 (by unfold maxLen; omega) hbytes hB ?_
  intro v' w' hown' hg hnil
  have hlen : (l ++ [y]).length = l.length + 1 := by simp
  have hfl : l.flatMap f ++ f y = (l ++ [y]).flatMap f := by simp
  rw [hfl, ← hlen] at hown'
  have hrow : (Value.slice ad l.length cap).ownBlock = ad.map (·.block) := by cases ad <;> rfl
  rw [hrow] at hg
  rcases hown'.2 with ⟨e1, e2⟩ | ⟨g, c, cur, e1, e2⟩
  · simp at e2
  · have e3 : v' = .slice (some ⟨g, 0, none⟩) (l.length + 1) c := by rw [e1, hlen]
    rw [e3] at hown' ⊢
    exact h _ _ w' (by rw [← hlen] at hown'; exact hown') hg

/-- What is elsewhere stays. -/
theorem grown_cell {w w' : World} {ad : Option Addr} (hg : w.grownBy w' (ad.map (·.block))) {b j : Nat} (hb : b < w.heap.size) (hne : ∀ a, ad = some a → b ≠ a.block) : w'.cell? ⟨b, j, none⟩ = w.cell? ⟨b, j, none⟩ ∧ w'.frozen? ⟨b, j, none⟩ = w.frozen? ⟨b, j, none⟩ ∧ w'.heap[b]? = w.heap[b]? := by
  have h : w'.heap[b]? = w.heap[b]? := hg.block b hb (fun e => by
    cases ad with
    | none => simp at e
    | some a => exact hne a rfl (by simpa using e))
  exact ⟨World.cell?_of_block (a := ⟨b, j, none⟩) h, World.frozen?_of_block (a := ⟨b, j, none⟩) h, h⟩

theorem below_grown {B : Nat} {a w w' : World} {ad : Option Addr} (h : Below B a w) (hg : w.grownBy w' (ad.map (·.block))) (hB : B ≤ w.heap.size) (hr : ∀ x, ad = some x → B ≤ x.block) : Below B a w' :=
  h.grown hg hB (fun k e => by
    cases ad with
    | none => simp at e
    | some x => have := hr x rfl; simp at e; omega)

/-- A block, whole. -/
def Blk (w : World) (b : Nat) (t : TypeId) (a : Array Value) : Prop := w.heap[b]? = some (.cells a t (0, 0))

theorem Blk.lt {w : World} {b : Nat} {t : TypeId} {a : Array Value} (h : Blk w b t a) : b < w.heap.size := (Array.getElem?_eq_some_iff.1 h).1
theorem Blk.cell {w : World} {b : Nat} {t : TypeId} {a : Array Value} (h : Blk w b t a) (j : Nat) : w.cell? ⟨b, j, none⟩ = a[j]? := by
  unfold Blk at h
  simp [World.cell?, h]
theorem Blk.frozen {w : World} {b : Nat} {t : TypeId} {a : Array Value} (h : Blk w b t a) (j : Nat) : w.frozen? ⟨b, j, none⟩ = false := by
  unfold Blk at h
  simp [World.frozen?, h]
theorem Blk.below {w w' : World} {b B : Nat} {t : TypeId} {a : Array Value} (h : Blk w b t a) (hb : Below B w w') (hB : b < B) : Blk w' b t a := (hb.block b hB).trans h
theorem blk_new (w : World) (t : TypeId) (a : Array Value) : Blk (w.alloc (.cells a t)) w.heap.size t a := heap_alloc_new w _
theorem Blk.alloc {w : World} {b : Nat} {t : TypeId} {a : Array Value} (h : Blk w b t a) (o : Obj) : Blk (w.alloc o) b t a := (Below.heap_alloc _ _ _ h.lt).trans h
theorem Blk.far {w : World} {b : Nat} {t : TypeId} {a : Array Value} (h : Blk w b t a) {p : Addr} (hp : b ≠ p.block) (v : Value) : Blk (w.setCell p v) b t a := (Below.heap_setCell _ _ _ _ hp).trans h
theorem Blk.grown {w w' : World} {b : Nat} {t : TypeId} {a : Array Value} (h : Blk w b t a) {ad : Option Addr} (hg : w.grownBy w' (ad.map (·.block))) (hne : ∀ x, ad = some x → b ≠ x.block) : Blk w' b t a := (grown_cell (j := 0) hg h.lt hne).2.2.trans h
theorem Blk.set {w : World} {b j : Nat} {t : TypeId} {a : Array Value} (h : Blk w b t a) (v : Value) : Blk (w.setCell ⟨b, j, none⟩ v) b t (a.setIfInBounds j v) := by
  unfold Blk at *
  simp [World.setCell, Array.getElem?_modify, h]

theorem many_one {α : Type} {w : World} {b : Nat} {t : TypeId} {size : Nat} (f : α → List Value) (x : α) (hs : (f x).length = size) (h : Blk w b t (f x).toArray) : Many w t size f (.slice (some ⟨b, 0, none⟩) 1 1) [x] := by
  refine ⟨by simp [hs], .inr ⟨b, 0, 1, rfl, by simp, by unfold maxLen; omega, h.lt, ⟨_, h⟩, fun j u hj => ?_⟩⟩
  rw [h.cell]
  simpa using hj


end Go.Proofs.YtbniikaebkmbhaaDoor

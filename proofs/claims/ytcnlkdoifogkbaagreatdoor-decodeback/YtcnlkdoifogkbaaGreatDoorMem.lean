/-
  Lists of structs that a call makes: one more element behind the others; what else is in memory stays.
-/
import Derived.Test.YtcnlkdoifogkbaaGreatDoorIconBase
import Derived.Laws.AppendOwn
namespace Go.Proofs.YtcnlkdoifogkbaaGreatDoor
open Go.RowKit

/-- A list of elements in memory of the call's own. -/
def Own {α : Type} (w : World) (B : Nat) (t : TypeId) (size : Nat) (f : α → List Value) (ad : Option Addr) (cap : Nat) (l : List α) : Prop := w.ownsRow B t size (.slice ad l.length cap) l.length (l.flatMap f)

theorem Own.many {α : Type} {w : World} {B : Nat} {t : TypeId} {size : Nat} {f : α → List Value} {ad : Option Addr} {cap : Nat} {l : List α} (h : Own w B t size f ad cap l) : Many w t size f (.slice ad l.length cap) l := Row.own h

theorem own_nil {α : Type} (w : World) (B : Nat) (t : TypeId) (size : Nat) (f : α → List Value) : Own w B t size f none 0 [] := World.ownsRow_nil w B t size

theorem Own.lt {α : Type} {w : World} {B : Nat} {t : TypeId} {size : Nat} {f : α → List Value} {ad : Option Addr} {cap : Nat} {l : List α} (h : Own w B t size f ad cap l) : ∀ a, ad = some a → B ≤ a.block ∧ a.block < w.heap.size := fun a e => World.ownsRow.lt h a.block (by rw [e]; rfl)

/-- It stays, where its block is none that has been written. -/
theorem Own.kept {α : Type} {w w' : World} {B : Nat} {t : TypeId} {size : Nat} {f : α → List Value} {ad : Option Addr} {cap : Nat} {l : List α} (h : Own w B t size f ad cap l) (hk : ∀ a, ad = some a → w'.heap[a.block]? = w.heap[a.block]?) : Own w' B t size f ad cap l := by
  refine ⟨h.1, ?_⟩
  rcases h.2 with h | ⟨g, c, cur, h1, h2, h3, h4⟩
  · exact .inl h
  · have e : ad = some ⟨g, 0, none⟩ := by cases h1; rfl
    exact .inr ⟨g, c, cur, h1, h2, by rw [hk _ e]; exact h3, h4⟩

theorem Own.below {α : Type} {w w' : World} {B C : Nat} {t : TypeId} {size : Nat} {f : α → List Value} {ad : Option Addr} {cap : Nat} {l : List α} (h : Own w B t size f ad cap l) (hb : Below C w w') (hC : w.heap.size ≤ C) : Own w' B t size f ad cap l :=
  h.kept fun a e => hb.block _ (Nat.lt_of_lt_of_le (h.lt a e).2 hC)

theorem Own.alloc {α : Type} {w : World} {B : Nat} {t : TypeId} {size : Nat} {f : α → List Value} {ad : Option Addr} {cap : Nat} {l : List α} (h : Own w B t size f ad cap l) (o : Obj) : Own (w.alloc o) B t size f ad cap l :=
  h.below ((Below.refl _ _).alloc (Nat.le_refl _) _) (Nat.le_refl _)

/-- A store below its base. -/
theorem Own.setLow {α : Type} {w : World} {B : Nat} {t : TypeId} {size : Nat} {f : α → List Value} {ad : Option Addr} {cap : Nat} {l : List α} (h : Own w B t size f ad cap l) {p : Addr} (hp : p.block < B) (v : Value) : Own (w.setCell p v) B t size f ad cap l :=
  h.kept fun a e => Below.heap_setCell _ _ _ _ (by have := (h.lt a e).1; omega)

theorem new_cells (w : World) (e : TypeId) (l : List Value) : ∀ (j : Nat) (u : Value), l[j]? = some u → (w.alloc (Obj.cells l.toArray e)).cell? ((⟨w.heap.size, 0, none⟩ : Addr).add j) = some u := by
  intro j u hj
  rw [Addr.add_lit, Nat.zero_add, cell_new]
  simpa using hj

theorem wpList_push {P : Program} (w : World) {α : Type} {ops : Array Oper} {rest : List Oper} {o : Oper} {a : Act} {Q : Exit → Act → World → Prop} (hgd : o.guard = none) (s x : Operand) (t : TypeId)
    (ho : o.op = .call { callee := .builtin .append, args := #[s, x], argTypes := #[t, t] })
    (B : Nat) (e : TypeId) (z : Value) (size bytes : Nat) (ht : P.underlying t = some (.slice e)) (hi : (P.info? e).map (fun i => (i.zero, i.size, i.bytes)) = some (some z, size, bytes))
    (hzs : z.cells.size = size) (hsz : 0 < size) (f : α → List Value) (hf : ∀ y, (f y).length = size)
    {ad : Option Addr} {cap : Nat} (l : List α) (y : α) (n : Nat) (hn : l.length = n) (hs : a.eval s = .slice ad n cap) (hown : Own w B e size f ad cap l) (b : Nat) (hx : a.eval x = .slice (some ⟨b, 0, none⟩) 1 1)
    (hnews : ∀ j u, (f y)[j]? = some u → w.cell? ((⟨b, 0, none⟩ : Addr).add j) = some u) (h1 : ∀ u ∈ f y, u.oneCell' = true)
    (hbytes : (n + 1) * bytes ≤ 140737488355328) (h63 : n ≤ 1000000) (hB : B ≤ w.heap.size)
    (h : ∀ ad' cap' w', Own w' B e size f ad' cap' (l ++ [y]) → w.grownBy w' (ad.map (·.block)) → wpList P ops Q rest (a.put o.dst (.slice ad' (n + 1) cap')) w') : wpList P ops Q (o :: rest) a w := by
  subst hn
  obtain ⟨i, hi0, hi1⟩ := Option.map_eq_some_iff.1 hi
  have hz : i.zero = some z := congrArg (·.1) hi1
  have hz1 : i.size = size := congrArg (·.2.1) hi1
  have hz2 : i.bytes = bytes := congrArg (·.2.2) hi1
  refine wpList_append_own w hgd s x t ho B e i z size bytes ht hi0 hz hz1 hz2 hzs hsz _ l.length (l.flatMap f) hs hown ⟨b, 0, none⟩ 1 1 (f y) hx (by rw [hf, Nat.one_mul]) hnews h1 (by unfold maxLen; omega) hbytes hB ?_
  intro v' w' hown' hg hnil
  have hlen : (l ++ [y]).length = l.length + 1 := by simp
  have hfl : l.flatMap f ++ f y = (l ++ [y]).flatMap f := by simp
  rw [hfl, ← hlen] at hown'
  have hrow : (Value.slice ad l.length cap).ownBlock = ad.map (·.block) := by cases ad <;> rfl
  rw [hrow] at hg
  rcases hown'.2 with ⟨e1, e2⟩ | ⟨g, c, cur, e1, e2⟩
  · simp at e2
  · have e3 : v' = .slice (some ⟨g, 0, none⟩) (l.length + 1) c := by rw [e1, hlen]
    rw [e3] at hown' ⊢
    exact h _ _ w' (by rw [← hlen] at hown'; exact hown') hg

/-- What is elsewhere stays. -/
theorem grown_cell {w w' : World} {ad : Option Addr} (hg : w.grownBy w' (ad.map (·.block))) {b j : Nat} (hb : b < w.heap.size) (hne : ∀ a, ad = some a → b ≠ a.block) : w'.cell? ⟨b, j, none⟩ = w.cell? ⟨b, j, none⟩ ∧ w'.frozen? ⟨b, j, none⟩ = w.frozen? ⟨b, j, none⟩ ∧ w'.heap[b]? = w.heap[b]? := by
  have h : w'.heap[b]? = w.heap[b]? := hg.block b hb (fun e => by
    cases ad with
    | none => simp at e
    | some a => exact hne a rfl (by simpa using e))
  exact ⟨World.cell?_of_block (a := ⟨b, j, none⟩) h, World.frozen?_of_block (a := ⟨b, j, none⟩) h, h⟩

theorem below_grown {B : Nat} {a w w' : World} {ad : Option Addr} (h : Below B a w) (hg : w.grownBy w' (ad.map (·.block))) (hB : B ≤ w.heap.size) (hr : ∀ x, ad = some x → B ≤ x.block) : Below B a w' :=
  h.grown hg hB (fun k e => by
    cases ad with
    | none => simp at e
    | some x => have := hr x rfl; simp at e; omega)

/-- A block, whole. -/
def Blk (w : World) (b : Nat) (t : TypeId) (a : Array Value) : Prop := w.heap[b]? = some (.cells a t (0, 0))

theorem Blk.lt {w : World} {b : Nat} {t : TypeId} {a : Array Value} (h : Blk w b t a) : b < w.heap.size := (Array.getElem?_eq_some_iff.1 h).1
theorem Blk.cell {w : World} {b : Nat} {t : TypeId} {a : Array Value} (h : Blk w b t a) (j : Nat) : w.cell? ⟨b, j, none⟩ = a[j]? := by
  unfold Blk at h
  simp [World.cell?, h]
theorem Blk.frozen {w : World} {b : Nat} {t : TypeId} {a : Array Value} (h : Blk w b t a) (j : Nat) : w.frozen? ⟨b, j, none⟩ = false := by
  unfold Blk at h
  simp [World.frozen?, h]
theorem Blk.below {w w' : World} {b B : Nat} {t : TypeId} {a : Array Value} (h : Blk w b t a) (hb : Below B w w') (hB : b < B) : Blk w' b t a := (hb.block b hB).trans h
theorem blk_new (w : World) (t : TypeId) (a : Array Value) : Blk (w.alloc (.cells a t)) w.heap.size t a := heap_alloc_new w _
theorem Blk.alloc {w : World} {b : Nat} {t : TypeId} {a : Array Value} (h : Blk w b t a) (o : Obj) : Blk (w.alloc o) b t a := (Below.heap_alloc _ _ _ h.lt).trans h
theorem Blk.far {w : World} {b : Nat} {t : TypeId} {a : Array Value} (h : Blk w b t a) {p : Addr} (hp : b ≠ p.block) (v : Value) : Blk (w.setCell p v) b t a := (Below.heap_setCell _ _ _ _ hp).trans h
theorem Blk.grown {w w' : World} {b : Nat} {t : TypeId} {a : Array Value} (h : Blk w b t a) {ad : Option Addr} (hg : w.grownBy w' (ad.map (·.block))) (hne : ∀ x, ad = some x → b ≠ x.block) : Blk w' b t a := (grown_cell (j := 0) hg h.lt hne).2.2.trans h
theorem Blk.set {w : World} {b j : Nat} {t : TypeId} {a : Array Value} (h : Blk w b t a) (v : Value) : Blk (w.setCell ⟨b, j, none⟩ v) b t (a.setIfInBounds j v) := by
  unfold Blk at *
  simp [World.setCell, Array.getElem?_modify, h]

theorem many_one {α : Type} {w : World} {b : Nat} {t : TypeId} {size : Nat} (f : α → List Value) (x : α) (hs : (f x).length = size) (h : Blk w b t (f x).toArray) : Many w t size f (.slice (some ⟨b, 0, none⟩) 1 1) [x] := by
  refine ⟨by simp [hs], .inr ⟨b, 0, 1, rfl, by simp, by unfold maxLen; omega, h.lt, ⟨_, h⟩, fun j u hj => ?_⟩⟩
  rw [h.cell]
  simpa using hj

theorem infoSeg : (Tryz.prog.info? 103).map (fun i => (i.zero, i.size, i.bytes)) = some (some (.agg #[.int .i64 0, .int .i64 0, .int .i64 0, .int .i64 0, .int .i64 0, .int .i64 0, .int .i64 0]), 7, 56) := by kernel_rfl
theorem infoPath : (Tryz.prog.info? 72).map (fun i => (i.zero, i.size, i.bytes)) = some (some (.agg #[.int .i64 0, .int .i64 0, .slice none 0 0, .bool false]), 4, 48) := by kernel_rfl
theorem infoCmd : (Tryz.prog.info? 62).map (fun i => (i.zero, i.size, i.bytes)) = some (some (.agg #[.int .i64 0, .int .i64 0, .int .i64 0, .int .i64 0, .int .i64 0, .int .i64 0, .int .i64 0, .int .i64 0, .int .i64 0, .int .i64 0, .slice none 0 0]), 11, 104) := by kernel_rfl
theorem infoColor : (Tryz.prog.info? 66).map (fun i => (i.zero, i.size, i.bytes)) = some (some (.agg #[.int .u8 0, .int .u8 0, .int .u8 0, .int .u8 0]), 4, 4) := by kernel_rfl

theorem seg_one (s : IC.Seg) : ∀ u ∈ s.cells, u.oneCell' = true := by
  intro u hu; simp [IC.Seg.cells] at hu; rcases hu with rfl | rfl | rfl | rfl | rfl | rfl | rfl <;> rfl
theorem col_one (s : IC.Col) : ∀ u ∈ s.cells, u.oneCell' = true := by
  intro u hu; simp [IC.Col.cells] at hu; rcases hu with rfl | rfl | rfl | rfl <;> rfl
theorem path_one (s : IC.Path) (hs : s.vs.oneCell' = true) : ∀ u ∈ s.cells, u.oneCell' = true := by
  intro u hu; simp [IC.Path.cells] at hu; rcases hu with rfl | rfl | rfl | rfl <;> first | rfl | exact hs
theorem cmd_one (s : IC.Cmd) (hs : s.vp.oneCell' = true) : ∀ u ∈ s.cells, u.oneCell' = true := by
  intro u hu; simp [IC.Cmd.cells] at hu; rcases hu with rfl | rfl | rfl | rfl | rfl | rfl | rfl | rfl | rfl | rfl | rfl <;> first | rfl | exact hs

end Go.Proofs.YtcnlkdoifogkbaaGreatDoor

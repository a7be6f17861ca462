/-
  Icons with one path changed: plainly, what Check says of them; their lists in memory.
-/
import Derived.Test.YtofmbedjbnbjlabDoorFarCopy
import Derived.Test.YtofmbedjbnbjlabDoorMake4
namespace Go.Proofs.YtofmbedjbnbjlabDoor
open Go.RowKit

theorem used_pn : ∀ (l : List IC.Cmd) (u : Int) (c c' : IC.Cmd), c.pn = c'.pn → IC.usedFrom u (l ++ [c]) = IC.usedFrom u (l ++ [c']) := by
  intro l
  induction l with
  | nil =>
    intro u c c' h
    show (match IC.place u c.pn.a with | none => none | some u1 => match IC.place u1 c.pn.b with | none => none | some u2 => IC.usedFrom u2 []) = (match IC.place u c'.pn.a with | none => none | some u1 => match IC.place u1 c'.pn.b with | none => none | some u2 => IC.usedFrom u2 [])
    rw [h]
  | cons x r ih =>
    intro u c c' h
    show (match IC.place u x.pn.a with | none => none | some u1 => match IC.place u1 x.pn.b with | none => none | some u2 => IC.usedFrom u2 (r ++ [c])) = (match IC.place u x.pn.a with | none => none | some u1 => match IC.place u1 x.pn.b with | none => none | some u2 => IC.usedFrom u2 (r ++ [c']))
    cases IC.place u x.pn.a with
    | none => rfl
    | some u1 =>
      show (match IC.place u1 x.pn.b with | none => none | some u2 => IC.usedFrom u2 (r ++ [c])) = (match IC.place u1 x.pn.b with | none => none | some u2 => IC.usedFrom u2 (r ++ [c']))
      cases IC.place u1 x.pn.b with
      | none => rfl
      | some u2 => exact ih u2 c c' h

theorem far_good {a0 a1 a2 k r wd : Int} {vc vm vm' vp vp' : Value} {cols : List IC.Col} {front : List IC.Cmd} {pn : IC.Paint} {p0 p' : IC.Path} {prest : List IC.Path}
    (hG : Good ⟨a0, a1, a2, vc, cols, vm, front ++ [⟨k, r, wd, pn, vp, p0 :: prest⟩]⟩) (hp : PathGood (IC.greatest ⟨a0, a1, a2, vc, cols, vm, front ++ [⟨k, r, wd, pn, vp, p0 :: prest⟩]⟩) k p') :
    Good ⟨a0, a1, a2, vc, cols, vm', front ++ [⟨k, r, wd, pn, vp', p' :: prest⟩]⟩ := by
  obtain ⟨g1, g2, g3, g4, g5, g6, g7, g8⟩ := hG
  refine ⟨g1, g2, g3, g4, ?_, fun c hc => ?_, g7, ?_⟩
  · simpa using g5
  · have h1 : ∀ c ∈ front ++ [⟨k, r, wd, pn, vp, p0 :: prest⟩], CmdGood (IC.greatest ⟨a0, a1, a2, vc, cols, vm, front ++ [⟨k, r, wd, pn, vp, p0 :: prest⟩]⟩) cols.length c := g6
    rcases List.mem_append.1 hc with hc | hc
    · exact h1 c (List.mem_append.2 (.inl hc))
    · obtain rfl := List.mem_singleton.1 hc
      obtain ⟨e1, e2, e3, e4⟩ := h1 _ (List.mem_append.2 (.inr (List.mem_singleton.2 rfl)))
      refine ⟨e1, e2, by simpa using e3, fun p hp' => ?_⟩
      rcases List.mem_cons.1 hp' with rfl | hp'
      · exact hp
      · exact e4 p (List.mem_cons.2 (.inr hp'))
  · have : IC.usedFrom 0 (front ++ [⟨k, r, wd, pn, vp, p0 :: prest⟩]) = some (cols.length : Int) := g8
    rw [used_pn front 0 ⟨k, r, wd, pn, vp, p0 :: prest⟩ ⟨k, r, wd, pn, vp', p' :: prest⟩ rfl] at this
    exact this

theorem first_snoc {α : Type} (f : α → Nat) (x : α) : ∀ l : List α, (∀ y ∈ l, f y = 0) → IC.firstOf f (l ++ [x]) = f x := by
  intro l
  induction l with
  | nil =>
    intro _
    show (if f x = 0 then 0 else f x) = f x
    split
    · rename_i h; rw [h]
    · rfl
  | cons y r ih =>
    intro h
    show (if f y = 0 then IC.firstOf f (r ++ [x]) else f y) = f x
    rw [if_pos (h y (by simp)), ih fun z hz => h z (by simp [hz])]

theorem far_bad {a0 a1 a2 k r wd : Int} {vc vm vm' vp vp' : Value} {cols : List IC.Col} {front : List IC.Cmd} {pn : IC.Paint} {p0 p' : IC.Path} {prest : List IC.Path}
    (hG : Good ⟨a0, a1, a2, vc, cols, vm, front ++ [⟨k, r, wd, pn, vp, p0 :: prest⟩]⟩) (hcl : p'.cl = p0.cl) (hp : IC.chkPath (IC.greatest ⟨a0, a1, a2, vc, cols, vm, front ++ [⟨k, r, wd, pn, vp, p0 :: prest⟩]⟩) p' = 1) :
    IC.chk ⟨a0, a1, a2, vc, cols, vm', front ++ [⟨k, r, wd, pn, vp', p' :: prest⟩]⟩ = 1 := by
  have hs := hG.sized
  obtain ⟨g1, g2, g3, g4, g5, g6, g7, g8⟩ := hG
  have hgr : IC.greatest ⟨a0, a1, a2, vc, cols, vm', front ++ [⟨k, r, wd, pn, vp', p' :: prest⟩]⟩ = IC.greatest ⟨a0, a1, a2, vc, cols, vm, front ++ [⟨k, r, wd, pn, vp, p0 :: prest⟩]⟩ := rfl
  have hs' : IC.sized ⟨a0, a1, a2, vc, cols, vm', front ++ [⟨k, r, wd, pn, vp', p' :: prest⟩]⟩ = true := hs
  have h1 : ∀ c ∈ front ++ [⟨k, r, wd, pn, vp, p0 :: prest⟩], CmdGood (IC.greatest ⟨a0, a1, a2, vc, cols, vm, front ++ [⟨k, r, wd, pn, vp, p0 :: prest⟩]⟩) cols.length c := g6
  generalize IC.greatest ⟨a0, a1, a2, vc, cols, vm, front ++ [⟨k, r, wd, pn, vp, p0 :: prest⟩]⟩ = F at *
  obtain ⟨e1, e2, e3, e4⟩ := h1 _ (List.mem_append.2 (.inr (List.mem_singleton.2 rfl)))
  have hc0 : (k == 1) = true → p0.cl = false := fun h => (e4 p0 (by simp)).1 (by simpa using h)
  have hone : IC.chkOne F k p' = 1 := by
    unfold IC.chkOne
    rw [hp, hcl]
    cases hk : (k == 1)
    · simp
    · rw [hc0 hk]; simp
  have hl : (p' :: prest).length = (p0 :: prest).length := by simp
  have h3 : 1 ≤ (p0 :: prest).length ∧ (p0 :: prest).length ≤ 3 := e3
  have hcmd : IC.chkCmd F cols.length ⟨k, r, wd, pn, vp', p' :: prest⟩ = 1 := by
    unfold IC.chkCmd
    have hh : IC.headed F ⟨k, r, wd, pn, vp', p' :: prest⟩ = true := e1.chk
    have hq : IC.chkPaint F cols.length pn = 0 := e2.chk
    simp only
    rw [hh, hq, hl]
    rw [if_neg (by simp), if_neg (by simp), if_neg (by omega), if_neg (by omega)]
    show (if IC.chkOne F k p' = 0 then IC.firstOf (IC.chkOne F k) prest else IC.chkOne F k p') = 1
    rw [hone]
    simp
  have hfirst : IC.firstOf (IC.chkCmd F cols.length) (front ++ [⟨k, r, wd, pn, vp', p' :: prest⟩]) = 1 := by
    rw [first_snoc _ _ _ fun c hc => (h1 c (List.mem_append.2 (.inl hc))).chk]
    exact hcmd
  have g5' : cols.length ≤ 2 * (front ++ [(⟨k, r, wd, pn, vp, p0 :: prest⟩ : IC.Cmd)]).length ∧ (front ++ [(⟨k, r, wd, pn, vp, p0 :: prest⟩ : IC.Cmd)]).length ≤ 4 := g5
  unfold IC.chk
  rw [hs', hgr, hfirst]
  simp only [List.length_append, List.length_singleton] at g5' ⊢
  rw [if_neg (by simp), if_neg (by omega), if_pos (by decide)]

/-! ### Stores into lists of the call's own -/
theorem Own.blk {α : Type} {w : World} {B g : Nat} {t : TypeId} {size : Nat} {f : α → List Value} {cap : Nat} {l : List α} (h : Own w B t size f (some ⟨g, 0, none⟩) cap l) : ∃ cur, w.heap[g]? = some (.cells cur t (0, 0)) := by
  rcases h.2 with ⟨h1, _⟩ | ⟨g', c, cur, h1, _, h3, _⟩
  · cases h1
  · cases h1; exact ⟨cur, h3⟩
theorem Own.far {α : Type} {w : World} {B g b : Nat} {t tb : TypeId} {size : Nat} {f : α → List Value} {cap : Nat} {l : List α} {cur : Array Value} (h : Own w B t size f (some ⟨g, 0, none⟩) cap l) (hb : w.heap[b]? = some (.cells cur tb (0, 0))) (ht : tb ≠ t) (j : Nat) (v : Value) : Own (w.setCell ⟨b, j, none⟩ v) B t size f (some ⟨g, 0, none⟩) cap l := by
  obtain ⟨c, hc⟩ := h.blk
  refine h.kept fun a e => Below.heap_setCell _ _ _ _ (fun e' => ?_)
  cases e
  have e'' : g = b := e'
  rw [e''] at hc
  rw [hb] at hc
  cases hc
  exact ht rfl
theorem own_last_set {α : Type} {w : World} {B g : Nat} {t : TypeId} {size : Nat} {f : α → List Value} {cap : Nat} {l : List α} {x x' : α} (hf : ∀ y, (f y).length = size) (h : Own w B t size f (some ⟨g, 0, none⟩) cap (l ++ [x])) (j : Nat) (u : Value) (hx : (f x).set j u = f x') : Own (w.setCell ⟨g, l.length * size + j, none⟩ u) B t size f (some ⟨g, 0, none⟩) cap (l ++ [x']) := by
  have hfl := flat_len f size hf l
  have hs := (World.ownsRow.stored h (l.length * size + j) u).1
  have e' : ((l ++ [x]).flatMap f).set (l.length * size + j) u = (l ++ [x']).flatMap f := by
    rw [List.flatMap_append, List.flatMap_append, List.set_append_right _ _ (by omega), hfl, Nat.add_sub_cancel_left]
    simp [hx]
  rw [e'] at hs
  unfold Own
  rw [show (l ++ [x']).length = (l ++ [x]).length by simp]
  exact hs
theorem own_head_set {α : Type} {w : World} {B g : Nat} {t : TypeId} {size : Nat} {f : α → List Value} {cap : Nat} {l : List α} {x x' : α} (hf : ∀ y, (f y).length = size) (h : Own w B t size f (some ⟨g, 0, none⟩) cap (x :: l)) (j : Nat) (hj : j < size) (u : Value) (hx : (f x).set j u = f x') : Own (w.setCell ⟨g, j, none⟩ u) B t size f (some ⟨g, 0, none⟩) cap (x' :: l) := by
  have hs := (World.ownsRow.stored h j u).1
  have e' : ((x :: l).flatMap f).set j u = (x' :: l).flatMap f := by
    rw [List.flatMap_cons, List.flatMap_cons, List.set_append_left _ _ (by rw [hf]; exact hj), hx]
  rw [e'] at hs
  exact hs
theorem own_last_at {α : Type} {w : World} {B g : Nat} {t : TypeId} {size : Nat} {f : α → List Value} {cap : Nat} {l : List α} {x : α} (hf : ∀ y, (f y).length = size) (h : Own w B t size f (some ⟨g, 0, none⟩) cap (l ++ [x])) (j : Nat) (hj : j < size) : w.cell? ⟨g, l.length * size + j, none⟩ = (f x)[j]? ∧ w.frozen? ⟨g, l.length * size + j, none⟩ = false := by
  have hfl := flat_len f size hf l
  refine ⟨?_, World.ownsRow.frozenAt h _⟩
  rw [World.ownsRow.cellAt h _ (by rw [List.length_append, List.length_singleton, Nat.succ_mul]; omega), List.flatMap_append, List.getElem?_append_right (by omega), hfl, Nat.add_sub_cancel_left]
  simp
theorem own_head_at {α : Type} {w : World} {B g : Nat} {t : TypeId} {size : Nat} {f : α → List Value} {cap : Nat} {l : List α} {x : α} (hf : ∀ y, (f y).length = size) (h : Own w B t size f (some ⟨g, 0, none⟩) cap (x :: l)) (j : Nat) (hj : j < size) : w.cell? ⟨g, j, none⟩ = (f x)[j]? ∧ w.frozen? ⟨g, j, none⟩ = false := by
  refine ⟨?_, World.ownsRow.frozenAt h _⟩
  rw [World.ownsRow.cellAt h _ (by rw [List.length_cons, Nat.succ_mul]; omega), List.flatMap_cons, List.getElem?_append_left (by rw [hf]; exact hj)]

end Go.Proofs.YtofmbedjbnbjlabDoor

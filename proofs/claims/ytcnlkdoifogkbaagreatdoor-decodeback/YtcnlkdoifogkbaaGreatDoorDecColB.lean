/-
  A reader reads a color: laws.
-/
import Derived.Test.YtcnlkdoifogkbaaGreatDoorDecOther
import Derived.Test.YtcnlkdoifogkbaaGreatDoorDecSegs
import Derived.Test.YtcnlkdoifogkbaaGreatDoorIconCols
namespace Go.Proofs.YtcnlkdoifogkbaaGreatDoor
open Go.RowKit

/-- One behind a list of the call's own, in a drawn region: where the new list lies. -/
theorem step_pushL {P : Program} {α : Type} {ops : Array Oper} {o : Oper} {a : Act} {w : World} {K : Act → World → Prop} {Q : Exit → Act → World → Prop} {E : Prop}
    (hgd : o.guard = none) (s x : Operand) (t : TypeId) (ho : o.op = Op.call { callee := Callee.builtin Builtin.append, args := #[s, x], argTypes := #[t, t] })
    (B : Nat) (e : TypeId) (z : Value) (size bytes : Nat) (ht : P.underlying t = some (.slice e)) (hi : (P.info? e).map (fun i => (i.zero, i.size, i.bytes)) = some (some z, size, bytes))
    (hzs : z.cells.size = size) (hsz : 0 < size) (f : α → List Value) (hf : ∀ y, (f y).length = size)
    {ad : Option Addr} {cap : Nat} (l : List α) (y : α) (n : Nat) (hn : l.length = n) (hs : a.eval s = .slice ad n cap) (hown : Own w B e size f ad cap l) (b : Nat) (hx : a.eval x = .slice (some ⟨b, 0, none⟩) 1 1)
    (hnews : ∀ j u, (f y)[j]? = some u → w.cell? ((⟨b, 0, none⟩ : Addr).add j) = some u) (h1 : ∀ u ∈ f y, u.oneCell' = true)
    (hbytes : (n + 1) * bytes ≤ 140737488355328) (h63 : n ≤ 1000000) (hB : B ≤ w.heap.size)
    (hK : ∀ g cap' w', Own w' B e size f (some ⟨g, 0, none⟩) cap' (l ++ [y]) → w.grownBy w' (ad.map (·.block)) → (ad.map (·.block) = some g ∨ g = w.heap.size) → K (a.put o.dst (.slice (some ⟨g, 0, none⟩) (n + 1) cap')) w') :
    if Region.wanted o (yielded ops a.tmps) = true then Oper.wp P o a w K Q else E := by
  subst hn
  obtain ⟨i, hi0, hi1⟩ := Option.map_eq_some_iff.1 hi
  have hz : i.zero = some z := congrArg (·.1) hi1
  have hz1 : i.size = size := congrArg (·.2.1) hi1
  have hz2 : i.bytes = bytes := congrArg (·.2.2) hi1
  refine step_append_lies w hgd s x t ho B e i z size bytes ht hi0 hz hz1 hz2 hzs hsz _ l.length (l.flatMap f) hs hown ⟨b, 0, none⟩ 1 1 (f y) hx (by rw [hf, Nat.one_mul]) hnews h1 (by omega) (by unfold maxLen; omega) hbytes hB _ rfl ?_
  intro g cap' w' hown' hg hat hlt
  have hlen : (l ++ [y]).length = l.length + 1 := by simp
  have hfl : l.flatMap f ++ f y = (l ++ [y]).flatMap f := by simp
  have hrow : (Value.slice ad l.length cap).ownBlock = ad.map (·.block) := by cases ad <;> rfl
  rw [hrow] at hg hat
  rw [hfl, ← hlen] at hown'
  exact hK g cap' w' hown' hg hat

theorem wpList_pushL {P : Program} (w : World) {α : Type} {ops : Array Oper} {rest : List Oper} {o : Oper} {a : Act} {Q : Exit → Act → World → Prop} (hgd : o.guard = none) (s x : Operand) (t : TypeId)
    (ho : o.op = .call { callee := .builtin .append, args := #[s, x], argTypes := #[t, t] })
    (B : Nat) (e : TypeId) (z : Value) (size bytes : Nat) (ht : P.underlying t = some (.slice e)) (hi : (P.info? e).map (fun i => (i.zero, i.size, i.bytes)) = some (some z, size, bytes))
    (hzs : z.cells.size = size) (hsz : 0 < size) (f : α → List Value) (hf : ∀ y, (f y).length = size)
    {ad : Option Addr} {cap : Nat} (l : List α) (y : α) (n : Nat) (hn : l.length = n) (hs : a.eval s = .slice ad n cap) (hown : Own w B e size f ad cap l) (b : Nat) (hx : a.eval x = .slice (some ⟨b, 0, none⟩) 1 1)
    (hnews : ∀ j u, (f y)[j]? = some u → w.cell? ((⟨b, 0, none⟩ : Addr).add j) = some u) (h1 : ∀ u ∈ f y, u.oneCell' = true)
    (hbytes : (n + 1) * bytes ≤ 140737488355328) (h63 : n ≤ 1000000) (hB : B ≤ w.heap.size)
    (h : ∀ g cap' w', Own w' B e size f (some ⟨g, 0, none⟩) cap' (l ++ [y]) → w.grownBy w' (ad.map (·.block)) → (ad.map (·.block) = some g ∨ g = w.heap.size) → wpList P ops Q rest (a.put o.dst (.slice (some ⟨g, 0, none⟩) (n + 1) cap')) w') : wpList P ops Q (o :: rest) a w := by
  subst hn
  obtain ⟨i, hi0, hi1⟩ := Option.map_eq_some_iff.1 hi
  have hz : i.zero = some z := congrArg (·.1) hi1
  have hz1 : i.size = size := congrArg (·.2.1) hi1
  have hz2 : i.bytes = bytes := congrArg (·.2.2) hi1
  refine wpList_append_lies w hgd s x t ho B e i z size bytes ht hi0 hz hz1 hz2 hzs hsz _ l.length (l.flatMap f) hs hown ⟨b, 0, none⟩ 1 1 (f y) hx (by rw [hf, Nat.one_mul]) hnews h1 (by omega) (by unfold maxLen; omega) hbytes hB _ rfl ?_
  intro g cap' w' hown' hg hat hlt
  have hlen : (l ++ [y]).length = l.length + 1 := by simp
  have hfl : l.flatMap f ++ f y = (l ++ [y]).flatMap f := by simp
  have hrow : (Value.slice ad l.length cap).ownBlock = ad.map (·.block) := by cases ad <;> rfl
  rw [hrow] at hg hat
  rw [hfl, ← hlen] at hown'
  exact h g cap' w' hown' hg hat

/-- A store elsewhere. -/
theorem Rx.far {x : Src} {q : Nat} {w : World} {e : DP.Bad} (h : Rx x q w e) {p : Addr} {t : TypeId} {a : Array Value} (hp : q < p.block) (hb : Blk w p.block t a) (ht2 : t ≠ 81) (v : Value) : Rx x q (w.setCell p v) e := by
  have hlow : Below q w (w.setCell p v) := (Below.refl q w).setCell (by omega) v
  obtain ⟨h1, ⟨ao, n, cap, at', far, adc, nc, capc, used, pts, cl, g, h2, h3, h4⟩, h5⟩ := h
  refine ⟨h1.low hlow, ⟨ao, n, cap, at', far, adc, nc, capc, used, pts, cl, g, h2.far (by omega) v, h3.far (fun e2 => ?_) v, h4⟩, h5⟩
  unfold Blk at hb h3
  rw [← e2, h3] at hb
  simp at hb
  exact ht2 hb.2.symm

/-- All but the reader and its colors is as it was. -/
structure MkC (x : Src) (q : Nat) (w w' : World) : Prop where
  os : w'.os = w.os
  tape : w'.tape = w.tape
  output : w'.output = w.output
  size : w.heap.size ≤ w'.heap.size
  block : ∀ k, k < w.heap.size → k ≠ q → (∀ a, x.adc = some a → k ≠ a.block) → w'.heap[k]? = w.heap[k]?

theorem MkC.of {x : Src} {q : Nat} {w w' : World} (h : Mk q w w') : MkC x q w w' := ⟨h.os, h.tape, h.output, h.size, fun k hk h1 _ => h.block k hk (fun e => h1 (by cases e; rfl))⟩
theorem MkC.trans {x : Src} {q : Nat} {u v w : World} (h : MkC x q u v) (k : MkC x q v w) : MkC x q u w :=
  ⟨k.os.trans h.os, k.tape.trans h.tape, k.output.trans h.output, Nat.le_trans h.size k.size, fun i hi h1 h2 => (k.block i (Nat.lt_of_lt_of_le hi h.size) h1 h2).trans (h.block i hi h1 h2)⟩
theorem MkC.set {x : Src} {q : Nat} {w w' : World} (h : MkC x q w w') {p : Addr} (hp : w.heap.size ≤ p.block ∨ p.block = q) (v : Value) : MkC x q w (w'.setCell p v) :=
  ⟨h.os, h.tape, h.output, by simpa using h.size, fun k hk h1 h2 => (Below.heap_setCell _ _ _ _ (by omega)).trans (h.block k hk h1 h2)⟩
theorem MkC.grown {x : Src} {q : Nat} {w w1 w' : World} (h : MkC x q w w1) (hg : w1.grownBy w' (x.adc.map (·.block))) : MkC x q w w' :=
  ⟨hg.os.trans h.os, hg.tape.trans h.tape, hg.output.trans h.output, Nat.le_trans h.size hg.size, fun k hk h1 h2 => (hg.block k (Nat.lt_of_lt_of_le hk h.size) (fun e => by
    cases ha : x.adc with
    | none => rw [ha] at e; simp at e
    | some a => rw [ha] at e; simp at e; exact h2 a ha e)).trans (h.block k hk h1 h2)⟩
theorem MkC.drew {x : Src} {q : Nat} {w w' : World} (h : MkC x q w w') : MkC x q w w'.drew := ⟨h.os, h.tape, h.output, h.size, h.block⟩

/-- What comes of a color. -/
def ColPost (x : Src) (q : Nat) (w : World) (R : Except DP.Bad (IC.Col × DP.St)) (c : IC.Col) (w' : World) : Prop := MkC x q w w' ∧ match R with
  | .ok v => c = v.1 ∧ ∃ ad cap, Rd { x with adc := some ad, capc := cap } q w' v.2 ∧ (x.adc = some ad ∨ w.heap.size ≤ ad.block)
  | .error b => Rx x q w' b

end Go.Proofs.YtcnlkdoifogkbaaGreatDoor

/-
  Lists that grow while a reader goes on: what else is in memory stays, by its type.
-/
import Derived.Test.YtenmkopiddmieabGreatDoorParseStep
namespace Go.Proofs.YtenmkopiddmieabGreatDoor
open Go.RowKit

/-- What is of another type stays as it is. -/
def Kt (t : TypeId) (w w' : World) : Prop := w.heap.size ≤ w'.heap.size ∧ ∀ (b : Nat) (cur : Array Value) (u : TypeId), u ≠ t → u ≠ 51 → w.heap[b]? = some (.cells cur u (0, 0)) → w'.heap[b]? = some (.cells cur u (0, 0))

theorem Kt.trans {t : TypeId} {a b c : World} (h : Kt t a b) (k : Kt t b c) : Kt t a c := ⟨Nat.le_trans h.1 k.1, fun i cur u h1 h2 h3 => k.2 i cur u h1 h2 (h.2 i cur u h1 h2 h3)⟩
theorem Kt.below {t : TypeId} {a b : World} (h : Below a.heap.size a b) : Kt t a b := ⟨h.size, fun i _ _ _ _ h3 => (h.block i (Array.getElem?_eq_some_iff.1 h3).1).trans h3⟩
theorem Kt.at {t : TypeId} {x : Cx} {q : Nat} {a b : World} {s : PP.St} (h : Hid (At x q a s b)) (hq : ∃ c, Blk a q 51 c) : Kt t a b := by
  obtain ⟨c, hc⟩ := hq
  refine ⟨At.size h, fun i cur u _ h2 h3 => ((At.mk' h).block i (Array.getElem?_eq_some_iff.1 h3).1 (fun e => h2 ?_)).trans h3⟩
  cases e
  unfold Blk at hc
  rw [hc] at h3
  simp at h3
  exact h3.2.symm
theorem Rd.rblk {x : Cx} {q : Nat} {w : World} {s : PP.St} (h : Rd x q w s) : ∃ c, Blk w q 51 c := by
  obtain ⟨v, ev, hb, -⟩ := h.blk
  exact ⟨_, hb⟩
theorem Kt.grown {t : TypeId} {w w' : World} {ad : Option Addr} (hg : w.grownBy w' (ad.map (·.block))) (ht : ∀ a, ad = some a → ∃ cur, w.heap[a.block]? = some (.cells cur t (0, 0))) : Kt t w w' := by
  refine ⟨hg.size, fun i cur u h1 _ h3 => (hg.block i (Array.getElem?_eq_some_iff.1 h3).1 (fun e => ?_)).trans h3⟩
  cases ad with
  | none => simp at e
  | some a =>
    obtain ⟨c, hc⟩ := ht a rfl
    simp at e
    rw [← e, h3] at hc
    simp at hc
    exact h1 hc.2
theorem Row.kt {w w' : World} {t u : TypeId} {size n : Nat} {v : Value} {xs : List Value} (h : Row w u size v n xs) (hk : Kt t w w') (h1 : u ≠ t) (h2 : u ≠ 51) : Row w' u size v n xs := by
  refine ⟨h.1, ?_⟩
  rcases h.2 with h | ⟨g, o, cap, e1, e2, e3, e4, ⟨cur, e5⟩, e6⟩
  · exact .inl h
  · have e := hk.2 g cur u h1 h2 e5
    exact .inr ⟨g, o, cap, e1, e2, e3, Nat.lt_of_lt_of_le e4 hk.1, ⟨cur, e⟩, fun j z hj => (World.cell?_of_block (a := ⟨g, o + j, none⟩) (e.trans e5.symm)).trans (e6 j z hj)⟩
theorem Own.kt {α : Type} {w w' : World} {B : Nat} {t u : TypeId} {size : Nat} {f : α → List Value} {ad : Option Addr} {cap : Nat} {l : List α} (h : Own w B u size f ad cap l) (hk : Kt t w w') (h1 : u ≠ t) (h2 : u ≠ 51) : Own w' B u size f ad cap l := by
  refine ⟨h.1, ?_⟩
  rcases h.2 with h | ⟨g, c, cur, e1, e2, e3, e4⟩
  · exact .inl h
  · exact .inr ⟨g, c, cur, e1, e2, hk.2 g cur u h1 h2 e3, e4⟩
theorem Own.typed {α : Type} {w : World} {B : Nat} {u : TypeId} {size : Nat} {f : α → List Value} {ad : Option Addr} {cap : Nat} {l : List α} (h : Own w B u size f ad cap l) : ∀ a, ad = some a → ∃ cur, w.heap[a.block]? = some (.cells cur u (0, 0)) := by
  intro a e
  rcases h.2 with ⟨h1, h2⟩ | ⟨g, c, cur, e1, e2, e3, e4⟩
  · cases e; simp at h1
  · have e' : ad = some ⟨g, 0, none⟩ := by cases e1; rfl
    rw [e] at e'
    cases e'
    exact ⟨cur, e3⟩

/-- A list of another type than a reader's grows. -/
theorem Rd.grown {x : Cx} {q : Nat} {w w' : World} {s : PP.St} (h : Rd x q w s) {ad : Option Addr} (hg : w.grownBy w' (ad.map (·.block))) {u : TypeId} (ht : ∀ a, ad = some a → ∃ cur, w.heap[a.block]? = some (.cells cur u (0, 0))) (h1 : u ≠ 77) (hq : ∀ a, ad = some a → q < a.block) : Rd x q w' s := by
  have hl := h.lt
  obtain ⟨e1, e2, e3, ⟨v, ev, e4, e5, e6⟩, e7, e8⟩ := h
  have hb : Below q w w' := below_grown (Below.refl _ _) hg (Nat.le_of_lt hl) (fun a e => Nat.le_of_lt (hq a e))
  refine ⟨(hb.cell (p := ⟨1, 0, none⟩) (by show 1 < q; omega)).trans e1, (hb.cell (p := ⟨0, 0, none⟩) (by show 0 < q; omega)).trans e2, e3, ⟨v, ev, e4.grown hg (fun a e _ => by have := hq a e; omega), e5.low hb, ?_⟩, e7, e8⟩
  cases hs : s.er with
  | none => rw [hs] at e6; exact e6
  | some e =>
    rw [hs] at e6
    obtain ⟨g, k1, k2⟩ := e6
    refine ⟨g, k1, k2.grown hg (fun a ea he => ?_)⟩
    obtain ⟨c, hc⟩ := ht a ea
    unfold Blk at k2
    rw [he, hc] at k2
    simp at k2
    exact h1 k2.2
theorem At.grown {x : Cx} {q : Nat} {w0 w w' : World} {s : PP.St} (h : Hid (At x q w0 s w)) {ad : Option Addr} (hg : w.grownBy w' (ad.map (·.block))) {u : TypeId} (ht : ∀ a, ad = some a → ∃ cur, w.heap[a.block]? = some (.cells cur u (0, 0))) (h1 : u ≠ 77) (hq : ∀ a, ad = some a → q < a.block ∧ w0.heap.size ≤ a.block) : Hid (At x q w0 s w') := by
  refine ⟨(At.rd h).grown hg ht h1 (fun a e => (hq a e).1), hg.os.trans (At.mk' h).os, hg.tape.trans (At.mk' h).tape, hg.output.trans (At.mk' h).output, Nat.le_trans (At.size h) hg.size, fun k hk hn => (hg.block k (Nat.lt_of_lt_of_le hk (At.size h)) (fun e => ?_)).trans ((At.mk' h).block k hk hn)⟩
  cases ad with
  | none => simp at e
  | some a => have := (hq a rfl).2; simp at e; omega

theorem putRow_at : ∀ (l : List Value) (a : Array Value) (i j : Nat), i + l.length ≤ a.size → (putRow a i l)[j]? = if i ≤ j ∧ j < i + l.length then l[j - i]? else a[j]?
  | [], a, i, j, _ => by rw [if_neg (fun h => by have h1 := h.1; have h2 := h.2; simp only [List.length_nil] at h2; omega)]; rfl
  | v :: l, a, i, j, h => by
    simp only [List.length_cons] at h ⊢
    show (putRow (a.setIfInBounds i v) (i + 1) l)[j]? = _
    rw [putRow_at l _ _ _ (by simp; omega), Array.getElem?_setIfInBounds]
    by_cases h1 : i + 1 ≤ j ∧ j < i + 1 + l.length
    · rw [if_pos h1, if_pos (by omega), show j - i = (j - (i + 1)) + 1 by omega, List.getElem?_cons_succ]
    · rw [if_neg h1]
      by_cases h2 : i = j
      · subst h2
        rw [if_pos rfl, if_pos (by omega), if_pos (by omega), Nat.sub_self, List.getElem?_cons_zero]
      · rw [if_neg h2, if_neg (by omega)]
theorem putRow_all (l : List Value) (a : Array Value) (h : l.length = a.size) : putRow a 0 l = l.toArray := by
  apply Array.ext_getElem?
  intro j
  rw [putRow_at l a 0 j (by omega)]
  by_cases hj : j < l.length
  · rw [if_pos (by omega)]; simp
  · rw [if_neg (by omega), Array.getElem?_eq_none (by omega)]
    simp; omega
theorem vals_len : ∀ (k : Nat) (s : PP.St), (PP.vals k s).1.length = k
  | 0, _ => rfl
  | k + 1, s => by show ((PP.vals k (PP.val s).2).1).length + 1 = _; rw [vals_len k]

/-- A list in a block of its own, whole. -/
theorem many_blk {α : Type} {w : World} {b : Nat} {t : TypeId} {size n cap : Nat} (f : α → List Value) (l : List α) (hf : ∀ y, (f y).length = size) (hn : l.length = n) (hc : n ≤ cap) (hm : cap ≤ maxLen) (h : Blk w b t (l.flatMap f).toArray) : Many w t size f (.slice (some ⟨b, 0, none⟩) n cap) l := by
  subst hn
  refine ⟨flat_len f size hf l, .inr ⟨b, 0, cap, rfl, hc, hm, h.lt, ⟨_, h⟩, fun j u hj => ?_⟩⟩
  rw [h.cell, Nat.zero_add]
  simpa using hj

end Go.Proofs.YtenmkopiddmieabGreatDoor

/-
  What a path's writing leans on: lists cut in two, what stands while runs are written.
-/
import Derived.Test.YtofmbedjbnbjlaaDoorEncSeg
import Derived.Test.YtofmbedjbnbjlaaDoorEncRuns
namespace Go.Proofs.YtofmbedjbnbjlaaDoor
open Go.RowKit

theorem way_append : ∀ (a b : List IC.Pt) (q : IC.Pt), EP.way q (a ++ b) = EP.way q a ++ EP.way (EP.lastOf q a) b ∧ EP.lastOf q (a ++ b) = EP.lastOf (EP.lastOf q a) b := by
  intro a
  induction a with
  | nil => intro b q; exact ⟨rfl, rfl⟩
  | cons p r ih =>
    intro b q
    refine ⟨?_, (ih b p).2⟩
    show EP.dpt q p ++ EP.way p (r ++ b) = EP.dpt q p ++ EP.way p r ++ EP.way (EP.lastOf p r) b
    rw [(ih b p).1, List.append_assoc]

theorem last_b {s : IC.Seg} {l : IC.Pt} (hs : SegB s) (hl : PtB l) : PtB (EP.lastOf l (EP.ptsOf s)) := by
  have h : ∀ (P : List IC.Pt) (l : IC.Pt), (∀ p ∈ P, PtB p) → PtB l → PtB (EP.lastOf l P) := by
    intro P
    induction P with
    | nil => intro l _ h; exact h
    | cons p r ih => intro l h1 _; exact ih p (fun x hx => h1 x (by simp [hx])) (h1 p (by simp))
  refine h _ _ (fun p hp => ?_) hl
  have := List.mem_of_mem_take hp
  simp [IC.Seg.pts] at this
  rcases this with rfl | rfl | rfl
  · exact hs.2.1
  · exact hs.2.2.1
  · exact hs.2.2.2

theorem Row.far {w : World} {t tb : TypeId} {size n : Nat} {v : Value} {xs : List Value} {b : Nat} {a : Array Value} (h : Row w t size v n xs) (hb : Blk w b tb a) (ht : tb ≠ t) (j : Nat) (u : Value) : Row (w.setCell ⟨b, j, none⟩ u) t size v n xs :=
  h.kept (row := some b) ⟨rfl, rfl, rfl, by simp, fun k hk hn => Below.heap_setCell _ _ _ _ (fun e => hn (by rw [e]))⟩ (fun b' e cur h' => by cases e; unfold Blk at hb; rw [hb] at h'; cases h'; exact ht rfl)

def dropA (a : Option Addr) (cap k : Nat) : Option Addr := if cap = k then a else a.map (·.add (k * 7))

theorem slice_drop (a : Option Addr) (n cap k : Nat) (hk : k ≤ n) (W : World) : (Instr.slice 49 (.slice a n cap) (some (.int .i64 (k : Int))) none none).run Tryd.prog W = .ok (.slice (dropA a cap k) (n - k) (cap - k)) W := by
  rw [run_slice_l (P := Tryd.prog) W 49 a n cap (by kernel_rfl) .i64 (k : Int) (by omega) (by omega)]
  have e : (sizeOf (Tryd.prog.elem 49)).run Tryd.prog W = .ok 7 W := by simp [go_sem]
  rw [e]
  simp [Result.andThen, sliced, dropA]

/-- A list of segments, from some place on. -/
theorem many_drop {w : World} {a : Option Addr} {n cap : Nat} {l : List IC.Seg} (h : Many w 60 7 IC.Seg.cells (.slice a n cap) l) (hn : l.length = n) (k : Nat) (hk : k ≤ n) :
    Many w 60 7 IC.Seg.cells (.slice (dropA a cap k) (n - k) (cap - k)) (l.drop k) := by
  unfold dropA
  have hd : (l.drop k).length = n - k := by rw [List.length_drop, hn]
  unfold Many
  rw [hd]
  have hfl : ((l.drop k).flatMap IC.Seg.cells).length = (n - k) * 7 := by rw [flat_len IC.Seg.cells 7 seg_len, hd]
  refine ⟨hfl, ?_⟩
  rcases h.2 with ⟨h1, h2⟩ | ⟨g, o, c, h1, h2, h3, h4, h5, h6⟩
  · cases h1
    obtain rfl : k = 0 := by omega
    exact .inl ⟨by simp, by omega⟩
  · cases h1
    by_cases hc : cap = k
    · rw [if_pos hc]
      refine .inr ⟨g, o, cap - k, rfl, by omega, by omega, h4, h5, fun j u hj => ?_⟩
      have hlt := (List.getElem?_eq_some_iff.1 hj).1
      rw [hfl] at hlt
      omega
    · rw [if_neg hc]
      refine .inr ⟨g, o + k * 7, cap - k, by simp [Addr.add], by omega, by omega, h4, h5, fun j u hj => ?_⟩
      have hlt := (List.getElem?_eq_some_iff.1 hj).1
      rw [hfl] at hlt
      have e1 : k * 7 + j = (k + j / 7) * 7 + j % 7 := by omega
      have hk1 : k + j / 7 < l.length := by omega
      have hk2 : j / 7 < (l.drop k).length := by omega
      have hj' : j = (j / 7) * 7 + j % 7 := by omega
      have e2 := flat_at IC.Seg.cells 7 seg_len (l.drop k) (j / 7) hk2 (j % 7) (Nat.mod_lt _ (by decide))
      rw [← hj', hj, List.getElem_drop] at e2
      rw [Nat.add_assoc]
      refine h6 _ _ ?_
      rw [e1, flat_at IC.Seg.cells 7 seg_len l (k + j / 7) hk1 (j % 7) (Nat.mod_lt _ (by decide))]
      exact e2.symm

theorem slice_take (a : Option Addr) (n cap k : Nat) (hk : k ≤ cap) (W : World) : (Instr.slice 49 (.slice a n cap) none (some (.int .i64 (k : Int))) none).run Tryd.prog W = .ok (.slice a k cap) W := by
  rw [run_slice_h (P := Tryd.prog) W 49 a n cap (by kernel_rfl) .i64 (k : Int) (by omega) (by omega)]
  have e : (sizeOf (Tryd.prog.elem 49)).run Tryd.prog W = .ok 7 W := by simp [go_sem]
  have e2 : (a.map fun x => x.add 0) = a := by cases a <;> simp [Addr.add]
  rw [e]
  simp [Result.andThen, sliced, e2]

/-- What stands while runs are written: the writer, the runs, the segments that are left, the last point. -/
structure Ph (w : World) (q lb : Nat) (vr : Value) (rs : List (Int × Nat)) (va : Value) (sg : List IC.Seg) (l : IC.Pt) (cs : List Nat) (W : World) : Prop where
  wr : Wr W q cs
  wk : Wk q w W
  rr : Many W 61 2 prCells vr rs
  ss : Many W 60 7 IC.Seg.cells va sg
  at' : Blk W lb 40 #[.int .i64 l.x, .int .i64 l.y]

theorem Ph.alloc {w W : World} {q lb : Nat} {vr va : Value} {rs : List (Int × Nat)} {sg : List IC.Seg} {l : IC.Pt} {cs : List Nat} (h : Ph w q lb vr rs va sg l cs W) (o : Obj) : Ph w q lb vr rs va sg l cs (W.alloc o) :=
  ⟨h.wr.alloc o, h.wk.alloc o, Row.below h.rr ((Below.refl _ _).alloc (Nat.le_refl _) _), Row.below h.ss ((Below.refl _ _).alloc (Nat.le_refl _) _), h.at'.alloc o⟩
theorem Ph.drew {w W : World} {q lb : Nat} {vr va : Value} {rs : List (Int × Nat)} {sg : List IC.Seg} {l : IC.Pt} {cs : List Nat} (h : Ph w q lb vr rs va sg l cs W) (n : Nat) : Ph w q lb vr rs va sg l cs (W.drewN n) :=
  ⟨h.wr.keep (below_drewN (Below.refl _ _) _), h.wk.drewN n, Row.below h.rr (below_drewN (Below.refl _ _) _), Row.below h.ss (below_drewN (Below.refl _ _) _), h.at'⟩
theorem Ph.drew1 {w W : World} {q lb : Nat} {vr va : Value} {rs : List (Int × Nat)} {sg : List IC.Seg} {l : IC.Pt} {cs : List Nat} (h : Ph w q lb vr rs va sg l cs W) : Ph w q lb vr rs va sg l cs W.drew :=
  ⟨h.wr.keep (Below.refl _ _).drew, h.wk.drew, Row.below h.rr (Below.refl _ _).drew, Row.below h.ss (Below.refl _ _).drew, h.at'⟩
theorem Ph.call {w W w2 : World} {q lb : Nat} {vr va : Value} {rs : List (Int × Nat)} {sg : List IC.Seg} {l : IC.Pt} {cs cs' : List Nat} (h : Ph w q lb vr rs va sg l cs W) (hq : lb ≠ q) (h2 : Wr w2 q cs' ∧ Wk q W w2) : Ph w q lb vr rs va sg l cs' w2 :=
  ⟨h2.1, h.wk.trans h2.2, Row.wk h.rr h.wr h2.2 (by decide) (by decide), Row.wk h.ss h.wr h2.2 (by decide) (by decide), h.at'.wk h2.2 hq (by decide)⟩
theorem Ph.set {w W : World} {q lb : Nat} {vr va : Value} {rs : List (Int × Nat)} {sg : List IC.Seg} {l : IC.Pt} {cs : List Nat} (h : Ph w q lb vr rs va sg l cs W) (hq : lb ≠ q) (hw : w.heap.size ≤ lb) (l' : IC.Pt) :
    Ph w q lb vr rs va sg l' cs ((W.setCell ⟨lb, 0, none⟩ (.int .i64 l'.x)).setCell ⟨lb, 1, none⟩ (.int .i64 l'.y)) := by
  have b1 := h.at'.set (j := 0) (.int .i64 l'.x)
  refine ⟨?_, ?_, ?_, ?_, ?_⟩
  · exact (h.wr.far (by show lb ≠ q; exact hq) (h.at'.cellsNot (by decide))).far (by show lb ≠ q; exact hq) (b1.cellsNot (by decide))
  · exact (h.wk.set (by show _ ≤ lb; exact hw) _).set (by show _ ≤ lb; exact hw) _
  · exact (Row.far h.rr h.at' (by decide) 0 _).far b1 (by decide) 1 _
  · exact (Row.far h.ss h.at' (by decide) 0 _).far b1 (by decide) 1 _
  · exact b1.set (j := 1) _
theorem Ph.cut {w W : World} {q lb : Nat} {vr va va' : Value} {rs : List (Int × Nat)} {sg sg' : List IC.Seg} {l : IC.Pt} {cs : List Nat} (h : Ph w q lb vr rs va sg l cs W) (hs : Many W 60 7 IC.Seg.cells va' sg') : Ph w q lb vr rs va' sg' l cs W := ⟨h.wr, h.wk, h.rr, hs, h.at'⟩

def PathB (p : IC.Path) : Prop := PtB p.st ∧ (∀ s ∈ p.segs, SegB s) ∧ p.segs.length ≤ 1000000

end Go.Proofs.YtofmbedjbnbjlaaDoor

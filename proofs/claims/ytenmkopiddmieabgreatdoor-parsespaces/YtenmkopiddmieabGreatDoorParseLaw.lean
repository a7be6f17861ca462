/-
  Whole structs: built, stored, read in one step each; what a reader keeps over a store.
-/
import Derived.Laws.Rows
import Derived.Laws.CopyRow
import Derived.Test.YtenmkopiddmieabGreatDoorParseItems
namespace Go.Proofs.YtenmkopiddmieabGreatDoor
open Go.RowKit

theorem wpList_build3 {P : Program} {w : World} {ops : Array Oper} {rest : List Oper} {o : Oper} {a : Act} {Q : Exit → Act → World → Prop} (hgd : o.guard = none) (t : TypeId) (i0 i1 i2 : Nat) (p0 p1 p2 : Operand) (ho : o.op = .build t #[(i0, p0), (i1, p1), (i2, p2)])
    (v0 v1 v2 : Value) (h0 : a.eval p0 = v0) (h1 : a.eval p1 = v1) (h2 : a.eval p2 = v2) (cells : Array Value) (hrun : ∀ W : World, (Instr.build t #[(i0, v0), (i1, v1), (i2, v2)]).run P W = .ok (.agg cells) W) (h : wpList P ops Q rest (a.put o.dst (.agg cells)) w) : wpList P ops Q (o :: rest) a w := by
  refine wpList_plain hgd fun K hK' => ?_
  unfold Oper.wp
  simp [execOp, ho, h0, h1, h2, hrun, Result.andThen]
  exact hK' _ _ h
theorem wpList_build2 {P : Program} {w : World} {ops : Array Oper} {rest : List Oper} {o : Oper} {a : Act} {Q : Exit → Act → World → Prop} (hgd : o.guard = none) (t : TypeId) (i0 i1 : Nat) (p0 p1 : Operand) (ho : o.op = .build t #[(i0, p0), (i1, p1)])
    (v0 v1 : Value) (h0 : a.eval p0 = v0) (h1 : a.eval p1 = v1) (cells : Array Value) (hrun : ∀ W : World, (Instr.build t #[(i0, v0), (i1, v1)]).run P W = .ok (.agg cells) W) (h : wpList P ops Q rest (a.put o.dst (.agg cells)) w) : wpList P ops Q (o :: rest) a w := by
  refine wpList_plain hgd fun K hK' => ?_
  unfold Oper.wp
  simp [execOp, ho, h0, h1, hrun, Result.andThen]
  exact hK' _ _ h

/-- What is elsewhere stays. -/
def Fs (g : Nat) (w w' : World) : Prop := ∀ (c : Nat) (u : TypeId) (b : Array Value), c ≠ g → Blk w c u b → Blk w' c u b

theorem Rd.setRow {x : Cx} {q g : Nat} {w : World} {s : PP.St} {t : TypeId} {old : Array Value} (h : Rd x q w s) (hg : Blk w g t old) (ht : t ≠ 77) (hq : q < g) (cs : Array Value) : Rd x q (w.setRow g cs) s := by
  obtain ⟨h1, h2, h3, ⟨v, ev, h4, h5, h6⟩, h7, h8⟩ := h
  have hb : Below q w (w.setRow g cs) := ⟨rfl, rfl, rfl, by simp, fun k hk => setRow_other w g k cs (by omega)⟩
  refine ⟨(hb.cell (p := ⟨1, 0, none⟩) (by show 1 < q; omega)).trans h1, (hb.cell (p := ⟨0, 0, none⟩) (by show 0 < q; omega)).trans h2, h3, ⟨v, ev, (setRow_other w g q cs (by omega)).trans h4, h5.low hb, ?_⟩, h7, h8⟩
  cases hs : s.er with
  | none => rw [hs] at h6; exact h6
  | some e =>
    rw [hs] at h6
    obtain ⟨k, e1, e2⟩ := h6
    refine ⟨k, e1, (setRow_other w g k cs (fun e => ?_)).trans e2⟩
    unfold Blk at e2 hg
    rw [e, hg] at e2
    simp at e2
    exact ht e2.2

theorem wp_put {x : Cx} {q : Nat} {w0 w : World} {s : PP.St} {ops : Array Oper} {rest : List Oper} {o : Oper} {a : Act} {Q : Exit → Act → World → Prop} (h : Hid (At x q w0 s w)) (ty : TypeId) (px py : Operand) {g : Nat} {t : TypeId} {old cells : Array Value} (hg : Blk w g t old)
    (hgd : o.guard = none) (ho : o.op = .store ty px py) (hx : a.eval px = .pointer (some ⟨g, 0, none⟩)) (hy : a.eval py = .agg cells) (hi : (Tryz.prog.info? ty).map (·.size) = some cells.size)
    (hold : old.size = cells.size) (h1 : cells.all (·.oneCell') = true) (ht : t ≠ 77) (hq : q < g) (h0 : w0.heap.size ≤ g)
    (k : ∀ w', Hid (At x q w0 s w') → Hid (Blk w' g t cells) → Hid (Kt t w w') → Hid (Fs g w w') → w.heap.size = w'.heap.size → wpList Tryz.prog ops Q rest (a.put o.dst undef) w') : wpList Tryz.prog ops Q (o :: rest) a w := by
  refine wpList_store_row hgd ty px py ho g cells hx hy t old hg hi hold h1 ?_
  refine k _ ⟨(At.rd h).setRow hg ht hq cells, ?_⟩ (setRow_heap w g old cells t (0, 0) hg) ?_ (fun c u b hne hb => (setRow_other w g c cells hne).trans hb) (by simp)
  · exact ⟨(At.mk' h).os, (At.mk' h).tape, (At.mk' h).output, by simpa using At.size h, fun j hj hn => (setRow_other w g j cells (by omega)).trans ((At.mk' h).block j hj hn)⟩
  · refine ⟨by simp, fun j cur u h1 _ h3 => (setRow_other w g j cells (fun e => h1 ?_)).trans h3⟩
    subst e
    unfold Blk at hg
    rw [hg] at h3
    simp at h3
    exact h3.2.symm

theorem wpList_build1 {P : Program} {w : World} {ops : Array Oper} {rest : List Oper} {o : Oper} {a : Act} {Q : Exit → Act → World → Prop} (hgd : o.guard = none) (t : TypeId) (i0 : Nat) (p0 : Operand) (ho : o.op = .build t #[(i0, p0)])
    (v0 : Value) (h0 : a.eval p0 = v0) (cells : Array Value) (hrun : ∀ W : World, (Instr.build t #[(i0, v0)]).run P W = .ok (.agg cells) W) (h : wpList P ops Q rest (a.put o.dst (.agg cells)) w) : wpList P ops Q (o :: rest) a w := by
  refine wpList_plain hgd fun K hK' => ?_
  unfold Oper.wp
  simp [execOp, ho, h0, hrun, Result.andThen]
  exact hK' _ _ h

/-- A value is stored into a part of a struct. -/
theorem wp_putv {x : Cx} {q : Nat} {w0 w : World} {s : PP.St} {ops : Array Oper} {rest : List Oper} {o : Oper} {a : Act} {Q : Exit → Act → World → Prop} (h : Hid (At x q w0 s w)) (ty : TypeId) (px py : Operand) {g : Nat} {t : TypeId} {old : Array Value} (hg : Blk w g t old)
    (off : Nat) (v : Value) (cs : Array Value) (new : Array Value) (hv : v.cells = cs)
    (hgd : o.guard = none) (ho : o.op = .store ty px py) (hx : a.eval px = .pointer (some ⟨g, off, none⟩)) (hy : a.eval py = v) (hi : (Tryz.prog.info? ty).map (·.size) = some cs.size)
    (hfit : off + cs.size ≤ old.size) (h1 : cs.all (·.oneCell') = true) (hn : (old.toList.take off ++ cs.toList ++ old.toList.drop (off + cs.size)).toArray = new) (ht : t ≠ 77) (hq : q < g) (h0 : w0.heap.size ≤ g)
    (k : ∀ w', Hid (At x q w0 s w') → Hid (Blk w' g t new) → Hid (Kt t w w') → Hid (Fs g w w') → w.heap.size = w'.heap.size → wpList Tryz.prog ops Q rest (a.put o.dst undef) w') : wpList Tryz.prog ops Q (o :: rest) a w := by
  have hrun : (storeVar ty ⟨g, off, none⟩ v).run Tryz.prog w = .ok () (w.setRow g new) := by
    have := run_storeCells_at Tryz.prog g off t cs.toList 0 old w hg (by simpa using hfit) (fun u hu => (Array.all_eq_true_iff_forall_mem.1 h1) u (by simpa using hu))
    rw [Nat.add_zero, Array.length_toList, hn] at this
    cases hq : Tryz.prog.info? ty with
    | none => simp [hq] at hi
    | some i =>
      have hs : cs.size = i.size := by simp [hq] at hi; omega
      simp [storeVar, sizeOf, typeInfo, hq, hv, hs, this]
  refine wpList_plain hgd fun K hK => ?_
  unfold Oper.wp execOp
  simp only [ho, hx, hy, Instr.storeAt, Instr.sureAddr, Sem.run_bind, Sem.run_pure, Result.andThen_ok, hrun]
  refine hK _ _ (k _ ⟨(At.rd h).setRow hg ht hq new, ?_⟩ (setRow_heap w g old new t (0, 0) hg) ?_ (fun c u b hne hb => (setRow_other w g c new hne).trans hb) (by simp))
  · exact ⟨(At.mk' h).os, (At.mk' h).tape, (At.mk' h).output, by simpa using At.size h, fun j hj hn => (setRow_other w g j new (by omega)).trans ((At.mk' h).block j hj hn)⟩
  · refine ⟨by simp, fun j cur u h1 _ h3 => (setRow_other w g j new (fun e => h1 ?_)).trans h3⟩
    subst e
    unfold Blk at hg
    rw [hg] at h3
    simp at h3
    exact h3.2.symm

theorem step_build3 {P : Program} {ops : Array Oper} {o : Oper} {a : Act} {w : World} {K : Act → World → Prop} {Q : Exit → Act → World → Prop} {E : Prop} (hgd : o.guard = none) (t : TypeId) (i0 i1 i2 : Nat) (p0 p1 p2 : Operand) (ho : o.op = .build t #[(i0, p0), (i1, p1), (i2, p2)])
    (v0 v1 v2 : Value) (h0 : a.eval p0 = v0) (h1 : a.eval p1 = v1) (h2 : a.eval p2 = v2) (cells : Array Value) (hrun : ∀ W : World, (Instr.build t #[(i0, v0), (i1, v1), (i2, v2)]).run P W = .ok (.agg cells) W) (h : K (a.put o.dst (.agg cells)) w) :
    if Region.wanted o (yielded ops a.tmps) = true then Oper.wp P o a w K Q else E := by
  have hw : Region.wanted o (yielded ops a.tmps) = true := by simp [Region.wanted, hgd]
  rw [if_pos hw]
  unfold Oper.wp
  simp [execOp, ho, h0, h1, h2, hrun, Result.andThen]
  exact h
theorem step_put {x : Cx} {q : Nat} {w0 w : World} {s : PP.St} {ops : Array Oper} {o : Oper} {a : Act} {K : Act → World → Prop} {Q : Exit → Act → World → Prop} {E : Prop} (h : Hid (At x q w0 s w)) (ty : TypeId) (px py : Operand) {g : Nat} {t : TypeId} {old cells : Array Value} (hg : Blk w g t old)
    (hgd : o.guard = none) (ho : o.op = .store ty px py) (hx : a.eval px = .pointer (some ⟨g, 0, none⟩)) (hy : a.eval py = .agg cells) (hi : (Tryz.prog.info? ty).map (·.size) = some cells.size)
    (hold : old.size = cells.size) (h1 : cells.all (·.oneCell') = true) (ht : t ≠ 77) (hq : q < g) (h0 : w0.heap.size ≤ g)
    (k : ∀ w', Hid (At x q w0 s w') → Hid (Blk w' g t cells) → Hid (Kt t w w') → Hid (Fs g w w') → w.heap.size = w'.heap.size → K (a.put o.dst undef) w') :
    if Region.wanted o (yielded ops a.tmps) = true then Oper.wp Tryz.prog o a w K Q else E := by
  have hw : Region.wanted o (yielded ops a.tmps) = true := by simp [Region.wanted, hgd]
  rw [if_pos hw]
  refine wp_store_row ty px py ho g cells hx hy t old hg hi hold h1 ?_
  refine k _ ⟨(At.rd h).setRow hg ht hq cells, ?_⟩ (setRow_heap w g old cells t (0, 0) hg) ?_ (fun c u b hne hb => (setRow_other w g c cells hne).trans hb) (by simp)
  · exact ⟨(At.mk' h).os, (At.mk' h).tape, (At.mk' h).output, by simpa using At.size h, fun j hj hn => (setRow_other w g j cells (by omega)).trans ((At.mk' h).block j hj hn)⟩
  · refine ⟨by simp, fun j cur u h1 _ h3 => (setRow_other w g j cells (fun e => h1 ?_)).trans h3⟩
    subst e
    unfold Blk at hg
    rw [hg] at h3
    simp at h3
    exact h3.2.symm

end Go.Proofs.YtenmkopiddmieabGreatDoor

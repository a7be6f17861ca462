/-
  A writer's memory: what it has written so far lies in a list of bytes of its own; what else is there stays.
-/
import Derived.Test.YtcnlkdoifogkbaaGreatDoorMake3
import Derived.Test.YtcnlkdoifogkbaaGreatDoorEncWire
import Derived.Test.YtcnlkdoifogkbaaGreatDoorEncPlain
namespace Go.Proofs.YtcnlkdoifogkbaaGreatDoor
open Go.RowKit

theorem hid' {p : Prop} (h : p) : Hid p := h

/-- The writer at block q, and what it has written. -/
def Wr (w : World) (q : Nat) (bs : List Nat) : Prop := ∃ ad cap, Blk w q 77 #[.slice ad bs.length cap] ∧ w.ownsRow (q + 1) 5 1 (.slice ad bs.length cap) bs.length (vals bs)

theorem Wr.lt {w : World} {q : Nat} {bs : List Nat} (h : Wr w q bs) : q < w.heap.size := by obtain ⟨_, _, h, _⟩ := h; exact h.lt

/-- What writing leaves: all blocks but the writer's and lists of bytes behind it. -/
structure Wk (q : Nat) (w w' : World) : Prop where
  os : w'.os = w.os
  tape : w'.tape = w.tape
  output : w'.output = w.output
  size : w.heap.size ≤ w'.heap.size
  block : ∀ k, k < w.heap.size → k ≠ q → (k < q ∨ ∀ cur, w.heap[k]? ≠ some (.cells cur 5 (0, 0))) → w'.heap[k]? = w.heap[k]?

theorem Wk.refl (q : Nat) (w : World) : Wk q w w := ⟨rfl, rfl, rfl, Nat.le_refl _, fun _ _ _ _ => rfl⟩
theorem Wk.trans {q : Nat} {a b c : World} (h : Wk q a b) (k : Wk q b c) : Wk q a c :=
  ⟨k.os.trans h.os, k.tape.trans h.tape, k.output.trans h.output, Nat.le_trans h.size k.size, fun i hi hq hn => by
    have e := h.block i hi hq hn
    exact (k.block i (Nat.lt_of_lt_of_le hi h.size) hq (by rw [e]; exact hn)).trans e⟩
theorem Wk.below {q : Nat} {w w' : World} (h : Below w.heap.size w w') : Wk q w w' := ⟨h.os, h.tape, h.output, h.size, fun k hk _ _ => h.block k hk⟩
theorem Wk.low {q B : Nat} {w w' : World} (h : Wk q w w') (hB : B ≤ q) (hq : q < w.heap.size) : Below B w w' := ⟨h.os, h.tape, h.output, h.size, fun k hk => h.block k (by omega) (by omega) (.inl (by omega))⟩
theorem Wk.alloc {q : Nat} {w w' : World} (h : Wk q w w') (o : Obj) : Wk q w (w'.alloc o) := h.trans (Wk.below ((Below.refl _ _).alloc (Nat.le_refl _) _))
/-- A store into new memory. -/
theorem Wk.set {q : Nat} {w w' : World} (h : Wk q w w') {p : Addr} (hp : w.heap.size ≤ p.block) (v : Value) : Wk q w (w'.setCell p v) :=
  ⟨h.os, h.tape, h.output, by simpa using h.size, fun k hk hq hn => (Below.heap_setCell _ _ _ _ (by omega)).trans (h.block k hk hq hn)⟩
theorem Wk.drewN {q : Nat} {w w' : World} (h : Wk q w w') (n : Nat) : Wk q w (w'.drewN n) := ⟨h.os, h.tape, h.output, h.size, h.block⟩

theorem Wk.drew {q : Nat} {w w' : World} (h : Wk q w w') : Wk q w w'.drew := ⟨h.os, h.tape, h.output, h.size, h.block⟩

theorem Blk.wk {w w' : World} {b q : Nat} {t : TypeId} {a : Array Value} (h : Blk w b t a) (hm : Wk q w w') (hne : b ≠ q) (ht : t ≠ 5) : Blk w' b t a :=
  (hm.block b h.lt hne (.inr fun cur e => by unfold Blk at h; rw [h] at e; cases e; exact ht rfl)).trans h

theorem Wr.blk {w : World} {q : Nat} {bs : List Nat} (h : Wr w q bs) : ∃ a, Blk w q 77 a := by obtain ⟨_, _, h, _⟩ := h; exact ⟨_, h⟩

theorem Row.wk {w w' : World} {q : Nat} {bs : List Nat} {t : TypeId} {size n : Nat} {v : Value} {xs : List Value} (h : Row w t size v n xs) (hq : Wr w q bs) (hm : Wk q w w') (ht : t ≠ 5) (ht' : t ≠ 77) : Row w' t size v n xs := by
  obtain ⟨a, hq⟩ := hq.blk
  refine ⟨h.1, ?_⟩
  rcases h.2 with h | ⟨g, o, cap, h1, h2, h3, h4, ⟨cur, h5⟩, h6⟩
  · exact .inl h
  · have hgq : g ≠ q := fun e => by unfold Blk at hq; rw [← e, h5] at hq; cases hq; exact ht' rfl
    have e : w'.heap[g]? = w.heap[g]? := hm.block g h4 hgq (.inr fun c e => by rw [h5] at e; cases e; exact ht rfl)
    exact .inr ⟨g, o, cap, h1, h2, h3, Nat.lt_of_lt_of_le h4 hm.size, ⟨cur, e.trans h5⟩, fun j u hj => (World.cell?_of_block (a := ⟨g, o + j, none⟩) e).trans (h6 j u hj)⟩

theorem PathOk.wk {w w' : World} {q : Nat} {bs : List Nat} {p : IC.Path} (h : PathOk w p) (hq : Wr w q bs) (hm : Wk q w w') : PathOk w' p := Row.wk h hq hm (by decide) (by decide)
theorem CmdOk.wk {w w' : World} {q : Nat} {bs : List Nat} {c : IC.Cmd} (h : CmdOk w c) (hq : Wr w q bs) (hm : Wk q w w') : CmdOk w' c := ⟨Row.wk h.1 hq hm (by decide) (by decide), fun p hp => (h.2 p hp).wk hq hm⟩

theorem Wr.keep {w w' : World} {q : Nat} {bs : List Nat} (h : Wr w q bs) (hb : Below w.heap.size w w') : Wr w' q bs := by
  obtain ⟨ad, cap, h1, h2⟩ := h
  exact ⟨ad, cap, h1.below hb h1.lt, h2.kept (row := none) ⟨hb.os, hb.tape, hb.output, hb.size, fun k hk _ => hb.block k hk⟩ (by cases hv : (Value.slice ad bs.length cap).ownBlock <;> simp)⟩
theorem Wr.alloc {w : World} {q : Nat} {bs : List Nat} (h : Wr w q bs) (o : Obj) : Wr (w.alloc o) q bs := h.keep ((Below.refl _ _).alloc (Nat.le_refl _) _)

/-- A block that is no list of bytes. -/
def NotBytes (w : World) (b : Nat) : Prop := ∀ cur, w.heap[b]? ≠ some (.cells cur 5 (0, 0))
theorem Blk.cellsNot {w : World} {b : Nat} {t : TypeId} {a : Array Value} (h : Blk w b t a) (ht : t ≠ 5) : NotBytes w b := fun cur e => by unfold Blk at h; rw [h] at e; cases e; exact ht rfl

/-- A store elsewhere. -/
theorem Wr.far {w : World} {q : Nat} {bs : List Nat} (h : Wr w q bs) {p : Addr} (hp : p.block ≠ q) (hn : NotBytes w p.block) {v : Value} : Wr (w.setCell p v) q bs := by
  obtain ⟨ad, cap, h1, h2⟩ := h
  refine ⟨ad, cap, h1.far (fun e => hp e.symm) v, h2.kept (row := some p.block) ⟨rfl, rfl, rfl, by simp, fun k hk hne => Below.heap_setCell _ _ _ _ (fun e => hne (by rw [e]))⟩ (.inr fun e => ?_)⟩
  rcases h2.2 with ⟨h3, _⟩ | ⟨g, c, cur, h3, _, h4, _⟩
  · rw [h3] at e; simp [Value.ownBlock] at e
  · rw [h3] at e
    simp [Value.ownBlock] at e
    exact hn cur (by rw [← e]; exact h4)

theorem own_shape {w : World} {B : Nat} {e : TypeId} {size : Nat} {v : Value} {n : Nat} {xs : List Value} (h : w.ownsRow B e size v n xs) : ∃ ad cap, v = .slice ad n cap := by
  rcases h.2 with ⟨h1, h2⟩ | ⟨g, cap, cur, h1, _⟩
  · exact ⟨none, 0, by rw [h1, h2]⟩
  · exact ⟨_, _, h1⟩

/-- A writer that has appended, and has laid its list's new word. -/
theorem wr_done {w w1 : World} {q n m : Nat} {ad : Option Addr} {cap : Nat} {bs new : List Nat} {v' : Value} (hn : bs.length = n) (hm : new.length = m) (h : Blk w q 77 #[.slice ad n cap]) (hown : w.ownsRow (q + 1) 5 1 (.slice ad n cap) n (vals bs))
    (hg : w.grownBy w1 (Value.slice ad n cap).ownBlock) (hown1 : w1.ownsRow (q + 1) 5 1 v' (n + m) (vals bs ++ vals new)) : Wr (w1.setCell ⟨q, 0, none⟩ v') q (bs ++ new) ∧ Wk q w (w1.setCell ⟨q, 0, none⟩ v') := by
  have hne : ∀ k, (Value.slice ad n cap).ownBlock = some k → q + 1 ≤ k := fun k hk => (hown.lt k hk).1
  have hB : Blk w1 q 77 #[.slice ad n cap] := (hg.block q h.lt (fun e => by have := hne q e.symm; omega)).trans h
  obtain ⟨ad', cap', rfl⟩ := own_shape hown1
  have hL : (bs ++ new).length = n + m := by rw [List.length_append, hn, hm]
  refine ⟨⟨ad', cap', ?_, ?_⟩, ?_⟩
  · rw [hL]; exact hB.set (j := 0) _
  · rw [hL, vals_append]
    exact hown1.kept (row := some q) ⟨rfl, rfl, rfl, by simp, fun k hk hn => Below.heap_setCell _ _ _ _ (fun e => hn (by rw [e]))⟩ (.inr fun e => by have := (hown1.lt q e).1; omega)
  · refine ⟨hg.os, hg.tape, hg.output, by simpa using hg.size, fun k hk hq hn => ?_⟩
    refine (Below.heap_setCell _ _ _ _ hq).trans (hg.block k hk fun e => ?_)
    have h1 := hne k e.symm
    rcases hn with hn | hn
    · omega
    · rcases hown.2 with ⟨h2, _⟩ | ⟨g, c, cur, h2, _, h3, _⟩
      · rw [h2] at e; simp [Value.ownBlock] at e
      · rw [h2] at e; simp [Value.ownBlock] at e
        exact hn cur (by rw [e]; exact h3)

/-- Bytes appended in a drawn region. -/
theorem step_bytes {P : Program} {ops : Array Oper} {o : Oper} {a : Act} {w : World} {K : Act → World → Prop} {Q : Exit → Act → World → Prop} {E : Prop}
    (hgd : o.guard = none) (s x : Operand) (t : TypeId) (ho : o.op = Op.call { callee := Callee.builtin Builtin.append, args := #[s, x], argTypes := #[t, t] })
    (B : Nat) (ht : P.underlying t = some (.slice 5)) (hi : (P.info? 5).map (fun i => (i.zero, i.size, i.bytes)) = some (some (.int .u8 0), 1, 1))
    (v : Value) (n : Nat) (bs : List Nat) (hs : a.eval s = v) (hown : w.ownsRow B 5 1 v n (vals bs)) (ad : Addr) (m c : Nat) (new : List Nat) (hx : a.eval x = .slice (some ad) m c) (hm : new.length = m)
    (hnews : ∀ j u, (vals new)[j]? = some u → w.cell? (ad.add j) = some u) (hbytes : n + m ≤ 140737488355328) (hB : B ≤ w.heap.size)
    (hK : ∀ v' w', w'.ownsRow B 5 1 v' (n + m) (vals bs ++ vals new) → w.grownBy w' v.ownBlock → K (a.put o.dst v') w') :
    if Region.wanted o (yielded ops a.tmps) = true then Oper.wp P o a w K Q else E := by
  have hw : Region.wanted o (yielded ops a.tmps) = true := by simp [Region.wanted, hgd]
  rw [if_pos hw]
  obtain ⟨i, hi0, hi1⟩ := Option.map_eq_some_iff.1 hi
  have hz : i.zero = some (.int .u8 0) := congrArg (·.1) hi1
  have hz1 : i.size = 1 := congrArg (·.2.1) hi1
  have hz2 : i.bytes = 1 := congrArg (·.2.2) hi1
  exact wp_append_own w s x t ho B 5 i (.int .u8 0) 1 1 ht hi0 hz hz1 hz2 rfl (by decide) v n (vals bs) hs hown ad m c (vals new) hx (by rw [vals_length, hm, Nat.mul_one]) hnews (vals_one _) (by unfold maxLen; omega) (by omega) hB fun v' w' h1 h2 _ => hK v' w' h1 h2

end Go.Proofs.YtcnlkdoifogkbaaGreatDoor

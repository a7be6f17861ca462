import Derived.Test.YtenmkopiddmieabGreatDoorWordErr0
import Derived.Test.YtenmkopiddmieabGreatDoorNumA
import Derived.Test.YtenmkopiddmieabGreatDoorColW4
import Derived.Test.YtenmkopiddmieabGreatDoorParsePlain
/-
  A reader of words in memory: what is left of them, the first that was amiss; all else stays as it was.
-/
namespace Go.Proofs.YtenmkopiddmieabGreatDoor
open Go.RowKit

/-- All but one block is as it was. -/
def Mk (q : Nat) (w w' : World) : Prop := w.grownBy w' (some q)

theorem Mk.refl (q : Nat) (w : World) : Mk q w w := ⟨rfl, rfl, rfl, Nat.le_refl _, fun _ _ _ => rfl⟩
theorem Mk.trans {q : Nat} {a b c : World} (h : Mk q a b) (k : Mk q b c) : Mk q a c :=
  ⟨k.os.trans h.os, k.tape.trans h.tape, k.output.trans h.output, Nat.le_trans h.size k.size, fun i hi hn => (k.block i (Nat.lt_of_lt_of_le hi h.size) hn).trans (h.block i hi hn)⟩
theorem Mk.below {q : Nat} {w w' : World} (h : Below w.heap.size w w') : Mk q w w' := ⟨h.os, h.tape, h.output, h.size, fun k hk _ => h.block k hk⟩
theorem Mk.low {q B : Nat} {w w' : World} (h : Mk q w w') (hB : B ≤ q) (hq : q < w.heap.size) : Below B w w' := ⟨h.os, h.tape, h.output, h.size, fun k hk => h.block k (by omega) (fun e => by cases e; omega)⟩
theorem Mk.alloc {q : Nat} {w w' : World} (h : Mk q w w') (o : Obj) : Mk q w (w'.alloc o) := h.trans (Mk.below ((Below.refl _ _).alloc (Nat.le_refl _) _))
theorem Mk.drewN {q : Nat} {w w' : World} (h : Mk q w w') (n : Nat) : Mk q w (w'.drewN n) := h.trans (Mk.below (below_drewN (Below.refl _ _) n))
theorem Mk.self {q : Nat} {w : World} (j : Nat) (v : Value) : Mk q w (w.setCell ⟨q, j, none⟩ v) :=
  ⟨rfl, rfl, rfl, by simp, fun k _ hn => Below.heap_setCell _ _ _ _ (fun e => hn (by rw [e]))⟩
/-- A store into new memory. -/
theorem Mk.set {q : Nat} {w w' : World} (h : Mk q w w') {p : Addr} (hp : w.heap.size ≤ p.block) (v : Value) : Mk q w (w'.setCell p v) :=
  ⟨h.os, h.tape, h.output, by simpa using h.size, fun k hk hn => (Below.heap_setCell _ _ _ _ (by omega)).trans (h.block k hk hn)⟩
theorem Blk.mk {w w' : World} {b q : Nat} {t : TypeId} {a : Array Value} (h : Blk w b t a) (hm : Mk q w w') (hne : b ≠ q) : Blk w' b t a := (hm.block b h.lt (fun e => hne (by cases e; rfl))).trans h
theorem Own.mk {α : Type} {w w' : World} {B q : Nat} {t : TypeId} {size : Nat} {f : α → List Value} {ad : Option Addr} {cap : Nat} {l : List α} (h : Own w B t size f ad cap l) (hm : Mk q w w') (hq : q < B) : Own w' B t size f ad cap l :=
  h.kept fun a e => hm.block _ (h.lt a e).2 (fun e' => by have := (h.lt a e).1; cases e'; omega)

/-- The errors' places. -/
structure Cx where
  ea : Addr
  el : Addr
def errV (x : Cx) (c : Nat) : Value := .iface 167 (.pointer (some (if c = 0 then x.ea else x.el)))

/-- Words in memory, some way behind their beginning. -/
def WordsAt (q : Nat) (w : World) (v : Value) (ws : List WP.W) : Prop :=
  ∃ ad cap, v = .slice ad ws.length cap ∧ ws.length ≤ cap ∧ cap ≤ maxLen ∧ ∀ k (h : k < ws.length), ∃ g o, ad = some ⟨g, o, none⟩ ∧ g < q ∧
    w.cell? ⟨g, o + k * 3, none⟩ = some (.int .i64 (ws[k].1 : Nat)) ∧ w.cell? ⟨g, o + (k * 3 + 1), none⟩ = some (.int .i64 (ws[k].2.1 : Nat)) ∧ w.cell? ⟨g, o + (k * 3 + 2), none⟩ = some (.string ⟨ws[k].2.2.toArray⟩)

def ErrIs (x : Cx) (w : World) (ev : Value) : Option (Nat × Nat) → Prop
  | none => ev = .nilIface
  | some e => ∃ g, ev = .iface 75 (.pointer (some ⟨g, 0, none⟩)) ∧ Blk w g 77 #[.int .i64 e.2, errV x e.1]

/-- A reader at block q. -/
structure Rd (x : Cx) (q : Nat) (w : World) (s : PP.St) : Prop where
  et : w.cell? ⟨1, 0, none⟩ = some (errV x 0)
  el : w.cell? ⟨0, 0, none⟩ = some (errV x 5)
  q13 : 2 ≤ q
  blk : ∃ v ev, Blk w q 51 #[v, .int .i64 s.fin, ev] ∧ WordsAt q w v s.ws ∧ ErrIs x w ev s.er
  fin : s.fin ≤ 60000
  fit : ∀ u ∈ s.ws, u.2.2.length ≤ 24 ∧ u.2.1 ≤ 60000 ∧ u.1 ≤ 6

theorem Rd.lt {x : Cx} {q : Nat} {w : World} {s : PP.St} (h : Rd x q w s) : q < w.heap.size := by obtain ⟨_, _, h, _⟩ := h.blk; exact h.lt
theorem WordsAt.low {q : Nat} {w w' : World} {v : Value} {ws : List WP.W} (h : WordsAt q w v ws) (hb : Below q w w') : WordsAt q w' v ws := by
  obtain ⟨ad, cap, h1, h2, h3, h4⟩ := h
  refine ⟨ad, cap, h1, h2, h3, fun k hk => ?_⟩
  obtain ⟨g, o, e1, e2, e3, e4, e5⟩ := h4 k hk
  exact ⟨g, o, e1, e2, (hb.cell (p := ⟨g, _, none⟩) e2).trans e3, (hb.cell (p := ⟨g, _, none⟩) e2).trans e4, (hb.cell (p := ⟨g, _, none⟩) e2).trans e5⟩
theorem ErrIs.blk_ne {q : Nat} {w : World} {a : Array Value} (hq : Blk w q 51 a) {g : Nat} {b : Array Value} (h : Blk w g 77 b) : g ≠ q := fun e => by
  unfold Blk at hq h
  rw [e, hq] at h
  simp at h
/-- It stays where what is below stays, and its own block, and its error's. -/
theorem Rd.keep {x : Cx} {q : Nat} {w w' : World} {s : PP.St} (h : Rd x q w s) (hb : Below w.heap.size w w') : Rd x q w' s := by
  have hl := h.lt
  obtain ⟨h1, h2, h3, ⟨v, ev, h4, h5, h6⟩, h7, h8⟩ := h
  have hq : Below q w w' := hb.mono (Nat.le_of_lt hl)
  refine ⟨(hq.cell (p := ⟨1, 0, none⟩) (by show 1 < q; omega)).trans h1, (hq.cell (p := ⟨0, 0, none⟩) (by show 0 < q; omega)).trans h2, h3, ⟨v, ev, h4.below hb hl, h5.low hq, ?_⟩, h7, h8⟩
  cases hs : s.er with
  | none => rw [hs] at h6; exact h6
  | some e =>
    rw [hs] at h6
    obtain ⟨g, e1, e2⟩ := h6
    exact ⟨g, e1, e2.below hb e2.lt⟩

/-- It stays under stores elsewhere: in no block of it. -/
theorem Rd.far {x : Cx} {q : Nat} {w : World} {s : PP.St} (h : Rd x q w s) {p : Addr} {t : TypeId} {a : Array Value} (hp : Blk w p.block t a) (ht' : t ≠ 77) (hq : q < p.block) (u : Value) : Rd x q (w.setCell p u) s := by
  obtain ⟨h1, h2, h3, ⟨v, ev, h4, h5, h6⟩, h7, h8⟩ := h
  have hb : Below q w (w.setCell p u) := (Below.refl _ _).setCell (Nat.le_of_lt hq) u
  refine ⟨(hb.cell (p := ⟨1, 0, none⟩) (by show 1 < q; omega)).trans h1, (hb.cell (p := ⟨0, 0, none⟩) (by show 0 < q; omega)).trans h2, h3, ⟨v, ev, h4.far (by omega) _, h5.low hb, ?_⟩, h7, h8⟩
  cases hs : s.er with
  | none => rw [hs] at h6; exact h6
  | some e =>
    rw [hs] at h6
    obtain ⟨g, e1, e2⟩ := h6
    refine ⟨g, e1, e2.far (fun e => ?_) _⟩
    unfold Blk at e2 hp
    rw [e, hp] at e2
    simp at e2
    exact ht' e2.2

/-- A reader, and that all but its block is as it was at first. -/
def At (x : Cx) (q : Nat) (w0 : World) (s : PP.St) (W : World) : Prop := Rd x q W s ∧ Mk q w0 W

theorem At.rd {x : Cx} {q : Nat} {w0 W : World} {s : PP.St} (h : Hid (At x q w0 s W)) : Rd x q W s := h.out.1
theorem At.mk' {x : Cx} {q : Nat} {w0 W : World} {s : PP.St} (h : Hid (At x q w0 s W)) : Mk q w0 W := h.out.2
theorem At.new {x : Cx} {q : Nat} {w0 W : World} {s : PP.St} (h : Hid (At x q w0 s W)) : Hid (At x q W s W) := ⟨h.out.1, Mk.refl _ _⟩
theorem At.keep {x : Cx} {q : Nat} {w0 W W' : World} {s : PP.St} (h : Hid (At x q w0 s W)) (hb : Below W.heap.size W W') : Hid (At x q w0 s W') := ⟨h.out.1.keep hb, h.out.2.trans (Mk.below hb)⟩
theorem At.drewN {x : Cx} {q : Nat} {w0 W : World} {s : PP.St} (h : Hid (At x q w0 s W)) (n : Nat) : Hid (At x q w0 s (W.drewN n)) := At.keep h (below_drewN (Below.refl _ _) n)
theorem At.alloc {x : Cx} {q : Nat} {w0 W : World} {s : PP.St} (h : Hid (At x q w0 s W)) (o : Obj) : Hid (At x q w0 s (W.alloc o)) := At.keep h ((Below.refl _ _).alloc (Nat.le_refl _) o)
theorem At.onto {x : Cx} {q : Nat} {w0 w1 W : World} {s : PP.St} (h : Mk q w0 w1) (k : Hid (At x q w1 s W)) : Hid (At x q w0 s W) := ⟨k.out.1, h.trans k.out.2⟩

/-- The next word. -/
theorem nx_fit {x : Cx} {q : Nat} {w : World} {s : PP.St} (h : Rd x q w s) : s.nx.2.2.length ≤ 24 ∧ s.nx.2.1 ≤ 60000 ∧ s.nx.1 ≤ 6 := by
  obtain ⟨f, ws, er⟩ := s
  cases ws with
  | nil => exact ⟨Nat.zero_le _, h.fin, Nat.zero_le _⟩
  | cons u t => exact h.fit u (by simp)

/-- Its words are taken. -/
theorem Rd.setTl {x : Cx} {q : Nat} {w : World} {s : PP.St} (h : Rd x q w s) {v : Value} (hv : WordsAt q w v s.ws.tail) : Rd x q (w.setCell ⟨q, 0, none⟩ v) s.tl := by
  obtain ⟨h1, h2, h3, ⟨v0, ev, h4, h5, h6⟩, h7, h8⟩ := h
  have hb : Below q w (w.setCell ⟨q, 0, none⟩ v) := (Below.refl _ _).setCell (p := ⟨q, 0, none⟩) (Nat.le_refl _) _
  refine ⟨(hb.cell (p := ⟨1, 0, none⟩) (by show 1 < q; omega)).trans h1, (hb.cell (p := ⟨0, 0, none⟩) (by show 0 < q; omega)).trans h2, h3, ⟨v, ev, h4.set (j := 0) _, hv.low hb, ?_⟩, h7, fun u hu => h8 u (List.mem_of_mem_tail hu)⟩
  show ErrIs x _ ev s.er
  cases hs : s.er with
  | none => rw [hs] at h6; exact h6
  | some e =>
    rw [hs] at h6
    obtain ⟨g, e1, e2⟩ := h6
    exact ⟨g, e1, e2.far (p := ⟨q, 0, none⟩) (ErrIs.blk_ne h4 e2) _⟩
theorem words_nil (q : Nat) (w : World) : WordsAt q w (.slice none 0 0) [] := ⟨none, 0, rfl, Nat.le_refl _, by unfold maxLen; omega, fun k h => absurd h (by simp)⟩
theorem Rd.setNil {x : Cx} {q : Nat} {w : World} {s : PP.St} (h : Rd x q w s) (e : Nat × Nat) (hs : s.er = some e) : Rd x q (w.setCell ⟨q, 0, none⟩ (.slice none 0 0)) ⟨s.fin, [], some e⟩ := by
  obtain ⟨h1, h2, h3, ⟨v0, ev, h4, h5, h6⟩, h7, h8⟩ := h
  have hb : Below q w (w.setCell ⟨q, 0, none⟩ (.slice none 0 0)) := (Below.refl _ _).setCell (p := ⟨q, 0, none⟩) (Nat.le_refl _) _
  refine ⟨(hb.cell (p := ⟨1, 0, none⟩) (by show 1 < q; omega)).trans h1, (hb.cell (p := ⟨0, 0, none⟩) (by show 0 < q; omega)).trans h2, h3, ⟨_, ev, h4.set (j := 0) _, words_nil _ _, ?_⟩, h7, fun u hu => absurd hu (by simp)⟩
  rw [hs] at h6
  obtain ⟨g, e1, e2⟩ := h6
  exact ⟨g, e1, e2.far (p := ⟨q, 0, none⟩) (ErrIs.blk_ne h4 e2) _⟩
theorem Rd.setErr {x : Cx} {q : Nat} {w : World} {s : PP.St} (h : Rd x q w s) (e : Nat × Nat) (g : Nat) (hg : Blk w g 77 #[.int .i64 e.2, errV x e.1]) : Rd x q (w.setCell ⟨q, 2, none⟩ (.iface 75 (.pointer (some ⟨g, 0, none⟩)))) ⟨s.fin, s.ws, some e⟩ := by
  obtain ⟨h1, h2, h3, ⟨v0, ev, h4, h5, h6⟩, h7, h8⟩ := h
  have hb : ∀ u, Below q w (w.setCell ⟨q, 2, none⟩ u) := fun u => (Below.refl _ _).setCell (p := ⟨q, 2, none⟩) (Nat.le_refl _) _
  exact ⟨((hb _).cell (p := ⟨1, 0, none⟩) (by show 1 < q; omega)).trans h1, ((hb _).cell (p := ⟨0, 0, none⟩) (by show 0 < q; omega)).trans h2, h3, ⟨v0, _, h4.set (j := 2) _, h5.low (hb _), g, rfl, hg.far (p := ⟨q, 2, none⟩) (ErrIs.blk_ne h4 hg) _⟩, h7, h8⟩

end Go.Proofs.YtenmkopiddmieabGreatDoor

/-
  The reader's smallest steps, walked over the program: the next word, whether it is this one, what is amiss.
-/
namespace Go.Proofs.YtenmkopiddmieabGreatDoor
open Go.RowKit

def wagg (u : WP.W) : Value := .agg #[.int .i64 (u.1 : Nat), .int .i64 (u.2.1 : Nat), .string ⟨u.2.2.toArray⟩]

theorem below_s3 {B b : Nat} {a w : World} (h : Below B a w) (hb : B ≤ b) (v0 v1 v2 : Value) : Below B a (((w.setCell ⟨b, 0, none⟩ v0).setCell ⟨b, 1, none⟩ v1).setCell ⟨b, 2, none⟩ v2) :=
  ((h.setCell (p := ⟨b, 0, none⟩) hb v0).setCell (p := ⟨b, 1, none⟩) hb v1).setCell (p := ⟨b, 2, none⟩) hb v2
theorem below_n3 (w : World) (o : Obj) (v0 v1 v2 : Value) : Below w.heap.size w ((((w.alloc o).setCell ⟨w.heap.size, 0, none⟩ v0).setCell ⟨w.heap.size, 1, none⟩ v1).setCell ⟨w.heap.size, 2, none⟩ v2) :=
  below_s3 ((Below.refl _ _).alloc (Nat.le_refl _) _) (Nat.le_refl _) _ _ _

theorem fld_w (a b : Int) (c : ByteArray) : (∀ W : World, (Instr.field 83 (.agg #[.int .i64 a, .int .i64 b, .string c]) 0).run Tryz.prog W = .ok (.int .i64 a) W) ∧ (∀ W : World, (Instr.field 83 (.agg #[.int .i64 a, .int .i64 b, .string c]) 1).run Tryz.prog W = .ok (.int .i64 b) W) ∧ (∀ W : World, (Instr.field 83 (.agg #[.int .i64 a, .int .i64 b, .string c]) 2).run Tryz.prog W = .ok (.string c) W) :=
  ⟨fun _ => by kernel_rfl, fun _ => by kernel_rfl, fun _ => by kernel_rfl⟩

set_option maxRecDepth 20000 in
theorem next_any {x : Cx} {q : Nat} {w0 W : World} {s : PP.St} (h : Hid (At x q w0 s W)) :
    Calls Tryz.prog 49 #[.pointer (some ⟨q, 0, none⟩)] W fun e w' => e = .returned (wagg s.nx) ∧ Hid (At x q w0 s w') ∧ Below W.heap.size W w' := by
  obtain ⟨v, ev, hb, ⟨ad, cap, rfl, hl, hc, hw⟩, -⟩ := (At.rd h).blk
  have hq := hb.lt
  have c0 : W.cell? ⟨q, 0, none⟩ = some (.slice ad s.ws.length cap) := hb.cell 0
  have c1 : W.cell? ⟨q, 1, none⟩ = some (.int .i64 s.fin) := hb.cell 1
  clear hb
  unfold maxLen at hc
  obtain ⟨f, ws, er⟩ := s
  cases ws with
  | nil =>
    have HN : Hid (∀ u, Below W.heap.size W u → (.returned (wagg (0, f, [])) : Ending) = .returned (wagg (PP.St.nx ⟨f, [], er⟩)) ∧ Hid (At x q w0 ⟨f, [], er⟩ u) ∧ Below W.heap.size W u) := fun u hu => ⟨rfl, At.keep h hu, hu⟩
    clear h hw
    simp only [List.length_nil] at c0
    go_enter Tryz.func49, Tryz.ntmps49
    go_wp2
    refine bodyPost_ret (v := wagg (0, f, [])) (by simp [results, Tryz.results49, go_sem, wagg]) rfl (HN.out _ ?_)
    exact (Below.refl _ _).alloc (Nat.le_refl _) _
  | cons u t =>
    obtain ⟨g, o, rfl, hg, e0, e1, e2⟩ := hw 0 (by simp)
    have HN : Hid (∀ w', Below W.heap.size W w' → (.returned (wagg u) : Ending) = .returned (wagg (PP.St.nx ⟨f, u :: t, er⟩)) ∧ Hid (At x q w0 ⟨f, u :: t, er⟩ w') ∧ Below W.heap.size W w') := fun w' hu => ⟨rfl, At.keep h hu, hu⟩
    obtain ⟨n, hn⟩ : ∃ n, (u :: t).length = n := ⟨_, rfl⟩
    have hn0 : 0 < n := by rw [← hn]; simp
    have d0 : ((n : Int) == 0) = false := by simp; omega
    rw [hn] at c0 hl
    simp only [Nat.zero_mul, Nat.zero_add, Nat.add_zero, List.getElem_cons_zero] at e0 e1 e2
    have hg' : g < W.heap.size := by omega
    clear h hw hn hg
    go_enter Tryz.func49, Tryz.ntmps49
    go_wp2
    refine bodyPost_ret (v := wagg u) (by simp [results, Tryz.results49, go_sem, wagg]) rfl (HN.out _ ?_)
    exact (Below.refl _ _).alloc (Nat.le_refl _) _

theorem text_size {t : List UInt8} (h : t.length ≤ 24) : (⟨t.toArray⟩ : ByteArray).size ≤ 24 := by rw [Lib.size_eq]; simpa using h

set_option maxRecDepth 20000 in
theorem is_any {x : Cx} {q : Nat} {w0 W : World} {s : PP.St} (t : List UInt8) (h : Hid (At x q w0 s W)) :
    Calls Tryz.prog 51 #[.pointer (some ⟨q, 0, none⟩), .string ⟨t.toArray⟩] W fun e w' => e = .returned (.bool (s.is t)) ∧ Hid (At x q w0 s w') ∧ Below W.heap.size W w' := by
  have k1 := hid'' (next_any h)
  obtain ⟨u, hu⟩ : ∃ u, s.nx = u := ⟨_, rfl⟩
  have HI : Hid (s.is t = (u.2.2 == t)) := by show _ = _; rw [← hu]; rfl
  obtain ⟨T, hT⟩ : ∃ T : ByteArray, ⟨t.toArray⟩ = T := ⟨_, rfl⟩
  obtain ⟨U, hU⟩ : ∃ U : ByteArray, ⟨u.2.2.toArray⟩ = U := ⟨_, rfl⟩
  have HE : Hid ((U.toList == T.toList) = (u.2.2 == t)) := by
    show _ = _
    rw [← hU, ← hT, Go.ByteArray.toList_mk, Go.ByteArray.toList_mk]
  have h1 : wagg u = .agg #[.int .i64 (u.1 : Nat), .int .i64 (u.2.1 : Nat), .string U] := by unfold wagg; rw [hU]
  rw [hu, h1] at k1
  rw [hT]
  obtain ⟨f0, f1, f2⟩ := fld_w (u.1 : Nat) (u.2.1 : Nat) U
  clear h hu hU hT h1
  go_enter Tryz.func51, Tryz.ntmps51
  go_wp2_with (go_at_call 49; refine k1.out.mono ?_; rintro e w1 ⟨rfl, H1, B1⟩)
  go_ret
  refine ⟨ret_bool ?_, H1, B1⟩
  rw [HI.out, ← HE.out]

set_option maxRecDepth 20000 in
theorem fail_any {x : Cx} {q : Nat} {w0 W : World} {s : PP.St} (c : Nat) (h : Hid (At x q w0 s W)) :
    Calls Tryz.prog 47 #[.pointer (some ⟨q, 0, none⟩), errV x c] W fun e w' => e = .returned (.tuple #[]) ∧ Hid (At x q w0 (s.fail c) w') := by
  have k1 := hid'' (next_any h)
  obtain ⟨v, ev, hb, -, he⟩ := (At.rd h).blk
  have hq := hb.lt
  have c2 : W.cell? ⟨q, 2, none⟩ = some ev := hb.cell 2
  have c0 : W.cell? ⟨q, 0, none⟩ = some v := hb.cell 0
  obtain ⟨a, ha⟩ : ∃ a, (if c = 0 then x.ea else x.el) = a := ⟨_, rfl⟩
  have hE : errV x c = .iface 167 (.pointer (some a)) := by unfold errV; rw [ha]
  have h1 : wagg s.nx = .agg #[.int .i64 (s.nx.1 : Nat), .int .i64 (s.nx.2.1 : Nat), .string ⟨s.nx.2.2.toArray⟩] := rfl
  rw [h1] at k1
  obtain ⟨p, hp⟩ : ∃ p, s.nx.2.1 = p := ⟨_, rfl⟩
  rw [hp] at k1
  have HB := hid'' hb
  cases hs : s.er with
  | none =>
    rw [hs] at he
    have he : ev = .nilIface := he
    subst he
    have HN : Hid (∀ (w1 : World), Hid (At x q w0 s w1) → Hid (At x q w0 (s.fail c) (((w1.setCell ⟨q, 2, none⟩ (.iface 75 (.pointer (some ⟨w1.heap.size, 0, none⟩)))).setCell ⟨q, 0, none⟩ (.slice none 0 0)).alloc (.cells #[.int .i64 (p : Nat), .iface 167 (.pointer (some a))] 77)))) := fun w1 H => by
      have hq1 := (At.rd H).lt
      rw [← World.setCell_alloc_past _ _ _ _ (by simpa using hq1), ← World.setCell_alloc_past _ _ _ _ hq1, ← hE]
      have r := ((At.rd H).keep ((Below.refl _ _).alloc (Nat.le_refl _) (.cells #[.int .i64 (p : Nat), errV x c] 77))).setErr (c, p) w1.heap.size (blk_new _ _ _)
      have r2 := r.setNil (c, p) rfl
      refine ⟨?_, (((At.mk' H).alloc _).trans (Mk.self _ _)).trans (Mk.self _ _)⟩
      unfold PP.St.fail
      rw [hs, hp]
      exact r2
    obtain ⟨g0, g1, g2⟩ := fld_w (s.nx.1 : Nat) p ⟨s.nx.2.2.toArray⟩
    clear h hb h1
    rw [hE]
    go_enter Tryz.func47, Tryz.ntmps47
    go_wp2_with (first
      | go_at_call 49
        refine k1.out.mono ?_
        rintro e w1 ⟨rfl, H1, B1⟩
        have hq1 := (At.rd H1).lt
        have d0 : w1.cell? ⟨q, 0, none⟩ = some v := (HB.out.below B1 hq).cell 0
        have d2 : w1.cell? ⟨q, 2, none⟩ = some .nilIface := (HB.out.below B1 hq).cell 2
        have f0 := (HB.out.below B1 hq).frozen 0
        have f2 := (HB.out.below B1 hq).frozen 2)
    go_end0
    exact ⟨rfl, HN.out _ H1⟩
  | some e0 =>
    rw [hs] at he
    obtain ⟨g, rfl, hg⟩ := he
    have HN : Hid (Hid (At x q w0 (s.fail c) (W.setCell ⟨q, 0, none⟩ (.slice none 0 0)))) := by
      have H := h
      refine ⟨?_, (At.mk' H).trans (Mk.self _ _)⟩
      have r2 := (At.rd H).setNil e0 hs
      unfold PP.St.fail
      rw [hs]
      exact r2
    have f0 := hb.frozen 0
    clear h hb h1 k1
    rw [hE]
    go_enter Tryz.func47, Tryz.ntmps47
    go_wp2
    go_end0
    exact ⟨rfl, HN.out⟩

end Go.Proofs.YtenmkopiddmieabGreatDoor

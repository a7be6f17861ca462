/-
  A reader's memory: what it has read so far, or the first that was amiss; what else is there stays.
-/
import Derived.Test.YtcnlkdoifogkbaaGreatDoorMake1
import Derived.Test.YtcnlkdoifogkbaaGreatDoorEncWire
import Derived.Test.YtcnlkdoifogkbaaGreatDoorErrSee
import Derived.Test.YtcnlkdoifogkbaaGreatDoorDecPlain
import Derived.Deep.AppendLies
namespace Go.Proofs.YtcnlkdoifogkbaaGreatDoor
open Go.RowKit

theorem hid'' {p : Prop} (h : p) : Hid p := h

/-- An error of package api, by its place there. -/
def errD (A : Nat → Addr) (s : Nat) : Value := .iface 173 (.pointer (some (A (perm s))))
/-- What a rule answers. -/
def errO (A : Nat → Addr) : Option Nat → Value
  | none => .nilIface
  | some s => errD A s

/-- What a reader reads, and where its colors lie. -/
structure Src where
  A : Nat → Addr
  ao : Option Addr
  cap : Nat
  bs : List Nat
  adc : Option Addr
  capc : Nat

/-- Below the reader: the errors' variables, and the bytes. -/
structure Base (x : Src) (q : Nat) (w : World) : Prop where
  errs : ∀ i, i < 13 → w.cell? ⟨i, 0, none⟩ = some (.iface 173 (.pointer (some (x.A i))))
  q13 : 13 ≤ q
  qlt : q ≤ w.heap.size
  byt : ∀ j (h : j < x.bs.length), ∃ b o, x.ao = some ⟨b, o, none⟩ ∧ b < q ∧ w.cell? ⟨b, o + j, none⟩ = some (.int .u8 (x.bs[j] : Int))
  lt256 : ∀ c ∈ x.bs, c < 256
  len : x.bs.length ≤ 60000

theorem Base.low {x : Src} {q : Nat} {w w' : World} (h : Base x q w) (hb : Below q w w') : Base x q w' :=
  ⟨fun i hi => (hb.cell (p := ⟨i, 0, none⟩) (Nat.lt_of_lt_of_le hi h.q13)).trans (h.errs i hi), h.q13, Nat.le_trans h.qlt hb.size,
    fun j hj => by
      obtain ⟨b, o, h1, h2, h3⟩ := h.byt j hj
      exact ⟨b, o, h1, h2, (hb.cell (p := ⟨b, o + j, none⟩) h2).trans h3⟩, h.lt256, h.len⟩

theorem Base.err {x : Src} {q : Nat} {w : World} (h : Base x q w) (s : Nat) (hs : s < 13) : w.cell? ⟨perm s, 0, none⟩ = some (errD x.A s) := h.errs (perm s) (perm_lt s hs)

/-- The bounds of what has been read. -/
structure Fit (x : Src) (s : DP.St) : Prop where
  at' : s.at' ≤ x.bs.length
  far0 : 0 ≤ s.far
  far1 : s.far ≤ 1048576
  cols : s.cols.length ≤ 256
  used : s.used ≤ s.cols.length
  pts : s.pts ≤ 4001

def rcells (x : Src) (s : DP.St) : Array Value := #[.slice x.ao x.bs.length x.cap, .int .i64 s.at', .nilIface, .int .i64 s.far, .slice x.adc s.cols.length x.capc, .int .i64 s.used, .int .i64 s.pts, .bool s.cl]

/-- A reader at block q, and what it has read. -/
structure Rd (x : Src) (q : Nat) (w : World) (s : DP.St) : Prop where
  base : Base x q w
  fit : Fit x s
  blk : Blk w q 84 (rcells x s)
  own : Own w (q + 1) 66 4 IC.Col.cells x.adc x.capc s.cols

/-- A reader that has met something amiss. -/
structure Rx (x : Src) (q : Nat) (w : World) (e : DP.Bad) : Prop where
  base : Base x q w
  blk : ∃ (ao : Option Addr) (n cap : Nat) (at' far : Int) (adc : Option Addr) (nc capc : Nat) (used pts : Int) (cl : Bool) (g : Nat), Blk w q 84 #[.slice ao n cap, .int .i64 at', .iface 79 (.pointer (some ⟨g, 0, none⟩)), .int .i64 far, .slice adc nc capc, .int .i64 used, .int .i64 pts, .bool cl] ∧
    Blk w g 81 #[.int .i64 e.2, errD x.A e.1] ∧ g ≠ q
  lt13 : e.1 < 13

def Rs (x : Src) (q : Nat) (w : World) : Except DP.Bad DP.St → Prop
  | .ok s => Rd x q w s
  | .error e => Rx x q w e

/-- What is read next, if nothing was amiss. -/
def run {α : Type} (p : DP.P α) : Except DP.Bad DP.St → Except DP.Bad (α × DP.St)
  | .ok s => p s
  | .error e => .error e
def rest {α : Type} : Except DP.Bad (α × DP.St) → Except DP.Bad DP.St
  | .ok v => .ok v.2
  | .error e => .error e

theorem Rd.lt {x : Src} {q : Nat} {w : World} {s : DP.St} (h : Rd x q w s) : q < w.heap.size := h.blk.lt
theorem Rd.below {x : Src} {q : Nat} {w w' : World} {s : DP.St} (h : Rd x q w s) (hb : Below w.heap.size w w') : Rd x q w' s :=
  ⟨h.base.low (hb.mono (Nat.le_of_lt h.lt)), h.fit, h.blk.below hb h.lt, h.own.below hb (Nat.le_refl _)⟩
theorem Rx.below {x : Src} {q : Nat} {w w' : World} {e : DP.Bad} (h : Rx x q w e) (hb : Below w.heap.size w w') : Rx x q w' e := by
  obtain ⟨h1, ⟨ao, n, cap, at', far, adc, nc, capc, used, pts, cl, g, h2, h3, h4⟩, h5⟩ := h
  exact ⟨h1.low (hb.mono (Nat.le_of_lt h2.lt)), ⟨ao, n, cap, at', far, adc, nc, capc, used, pts, cl, g, h2.below hb h2.lt, h3.below hb h3.lt, h4⟩, h5⟩
theorem Rs.below {x : Src} {q : Nat} {w w' : World} {R : Except DP.Bad DP.St} (h : Rs x q w R) (hb : Below w.heap.size w w') : Rs x q w' R := by
  cases R with
  | ok s => exact Rd.below h hb
  | error e => exact Rx.below h hb
theorem Rs.lt {x : Src} {q : Nat} {w : World} {R : Except DP.Bad DP.St} (h : Rs x q w R) : q < w.heap.size := by
  cases R with
  | ok s => exact Rd.lt h
  | error e => obtain ⟨_, ⟨_, _, _, _, _, _, _, _, _, _, _, _, h, _⟩, _⟩ := h; exact h.lt
theorem Rs.base {x : Src} {q : Nat} {w : World} {R : Except DP.Bad DP.St} (h : Rs x q w R) : Base x q w := by
  cases R with
  | ok s => exact Rd.base h
  | error e => exact Rx.base h

theorem Mk.low' {q : Nat} {w w' : World} (h : Mk q w w') (hq : q < w.heap.size) : Below q w w' := h.low (Nat.le_refl _) hq

/-- A cell of the reader is written. -/
theorem Mk.self {q : Nat} {w : World} (j : Nat) (v : Value) : Mk q w (w.setCell ⟨q, j, none⟩ v) :=
  ⟨rfl, rfl, rfl, by simp, fun k _ hn => Below.heap_setCell _ _ _ _ (fun e => hn (by rw [e]))⟩
theorem below_self {q : Nat} {w : World} (j : Nat) (v : Value) : Below q w (w.setCell ⟨q, j, none⟩ v) := (Below.refl q w).setCell (p := ⟨q, j, none⟩) (Nat.le_refl _) v

theorem Rd.own_set {x : Src} {q : Nat} {w : World} {s : DP.St} (h : Rd x q w s) (j : Nat) (v : Value) : Own (w.setCell ⟨q, j, none⟩ v) (q + 1) 66 4 IC.Col.cells x.adc x.capc s.cols :=
  h.own.setLow (p := ⟨q, j, none⟩) (by simp) v

/-- The reader goes on. -/
theorem Rd.setAt {x : Src} {q : Nat} {w : World} {s : DP.St} (h : Rd x q w s) (n : Nat) (hn : n ≤ x.bs.length) : Rd x q (w.setCell ⟨q, 1, none⟩ (.int .i64 n)) { s with at' := n } :=
  ⟨h.base.low (below_self _ _), ⟨hn, h.fit.far0, h.fit.far1, h.fit.cols, h.fit.used, h.fit.pts⟩, h.blk.set (j := 1) _, h.own_set 1 _⟩
theorem Rd.setUsed {x : Src} {q : Nat} {w : World} {s : DP.St} (h : Rd x q w s) (n : Nat) (hn : n ≤ s.cols.length) : Rd x q (w.setCell ⟨q, 5, none⟩ (.int .i64 n)) { s with used := n } :=
  ⟨h.base.low (below_self _ _), ⟨h.fit.at', h.fit.far0, h.fit.far1, h.fit.cols, hn, h.fit.pts⟩, h.blk.set (j := 5) _, h.own_set 5 _⟩
theorem Rd.setPts {x : Src} {q : Nat} {w : World} {s : DP.St} (h : Rd x q w s) (n : Nat) (hn : n ≤ 4001) : Rd x q (w.setCell ⟨q, 6, none⟩ (.int .i64 n)) { s with pts := n } :=
  ⟨h.base.low (below_self _ _), ⟨h.fit.at', h.fit.far0, h.fit.far1, h.fit.cols, h.fit.used, hn⟩, h.blk.set (j := 6) _, h.own_set 6 _⟩
theorem Rd.setCl {x : Src} {q : Nat} {w : World} {s : DP.St} (h : Rd x q w s) (b : Bool) : Rd x q (w.setCell ⟨q, 7, none⟩ (.bool b)) { s with cl := b } :=
  ⟨h.base.low (below_self _ _), ⟨h.fit.at', h.fit.far0, h.fit.far1, h.fit.cols, h.fit.used, h.fit.pts⟩, h.blk.set (j := 7) _, h.own_set 7 _⟩
theorem Rd.setFar {x : Src} {q : Nat} {w : World} {s : DP.St} (h : Rd x q w s) (n : Int) (hn : 0 ≤ n ∧ n ≤ 1048576) : Rd x q (w.setCell ⟨q, 3, none⟩ (.int .i64 n)) { s with far := n } :=
  ⟨h.base.low (below_self _ _), ⟨h.fit.at', hn.1, hn.2, h.fit.cols, h.fit.used, h.fit.pts⟩, h.blk.set (j := 3) _, h.own_set 3 _⟩

/-- Something amiss is kept. -/
theorem Rd.fail {x : Src} {q : Nat} {w : World} {s : DP.St} (h : Rd x q w s) (e : DP.Bad) (he : e.1 < 13) (g : Nat) (hg : Blk w g 81 #[.int .i64 e.2, errD x.A e.1]) : Rx x q (w.setCell ⟨q, 2, none⟩ (.iface 79 (.pointer (some ⟨g, 0, none⟩)))) e := by
  have hne : g ≠ q := fun he => by
    have h1 := h.blk
    unfold Blk at h1 hg
    rw [he, h1] at hg
    simp at hg
  exact ⟨h.base.low (below_self _ _), ⟨_, _, _, _, _, _, _, _, _, _, _, g, h.blk.set (j := 2) _, hg.far (p := ⟨q, 2, none⟩) hne _, hne⟩, he⟩

/-- A reader that has met something amiss: another field of it is written. -/
theorem Rx.setAny {x : Src} {q : Nat} {w : World} {e : DP.Bad} (h : Rx x q w e) (j : Nat) (z : Int) (hj : j = 1 ∨ j = 3 ∨ j = 5 ∨ j = 6) : Rx x q (w.setCell ⟨q, j, none⟩ (.int .i64 z)) e := by
  obtain ⟨h1, ⟨ao, n, cap, at', far, adc, nc, capc, used, pts, cl, g, h2, h3, h4⟩, h5⟩ := h
  rcases hj with rfl | rfl | rfl | rfl
  · exact ⟨h1.low (below_self _ _), ⟨_, _, _, _, _, _, _, _, _, _, _, g, h2.set (j := 1) _, h3.far (p := ⟨q, 1, none⟩) h4 _, h4⟩, h5⟩
  · exact ⟨h1.low (below_self _ _), ⟨_, _, _, _, _, _, _, _, _, _, _, g, h2.set (j := 3) _, h3.far (p := ⟨q, 3, none⟩) h4 _, h4⟩, h5⟩
  · exact ⟨h1.low (below_self _ _), ⟨_, _, _, _, _, _, _, _, _, _, _, g, h2.set (j := 5) _, h3.far (p := ⟨q, 5, none⟩) h4 _, h4⟩, h5⟩
  · exact ⟨h1.low (below_self _ _), ⟨_, _, _, _, _, _, _, _, _, _, _, g, h2.set (j := 6) _, h3.far (p := ⟨q, 6, none⟩) h4 _, h4⟩, h5⟩
theorem Rx.setCl {x : Src} {q : Nat} {w : World} {e : DP.Bad} (h : Rx x q w e) (b : Bool) : Rx x q (w.setCell ⟨q, 7, none⟩ (.bool b)) e := by
  obtain ⟨h1, ⟨ao, n, cap, at', far, adc, nc, capc, used, pts, cl, g, h2, h3, h4⟩, h5⟩ := h
  exact ⟨h1.low (below_self _ _), ⟨_, _, _, _, _, _, _, _, _, _, _, g, h2.set (j := 7) _, h3.far (p := ⟨q, 7, none⟩) h4 _, h4⟩, h5⟩

theorem Base.cells {x : Src} {q : Nat} {w : World} (h : Base x q w) : Cells w x.ao x.bs := fun j hj => by
  obtain ⟨b, o, h1, h2, h3⟩ := h.byt j hj
  exact ⟨b, o, h1, Nat.lt_of_lt_of_le h2 h.qlt, h3⟩

end Go.Proofs.YtcnlkdoifogkbaaGreatDoor

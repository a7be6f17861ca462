/-
  Stores of whole structs into boxes, and what a reader keeps over them.
-/
import Derived.Test.YtenmkopiddmieabGreatDoorParA
namespace Go.Proofs.YtenmkopiddmieabGreatDoor
open Go.RowKit

/-- Values stored one behind the other. -/
def setRow (w : World) (b : Nat) : Nat → List Value → World
  | _, [] => w
  | i, v :: vs => setRow (w.setCell ⟨b, i, none⟩ v) b (i + 1) vs

def putRow (a : Array Value) : Nat → List Value → Array Value
  | _, [] => a
  | i, v :: vs => putRow (a.setIfInBounds i v) (i + 1) vs

theorem Blk.row {b : Nat} {t : TypeId} : ∀ (vs : List Value) (i : Nat) (w : World) (a : Array Value), Blk w b t a → Blk (setRow w b i vs) b t (putRow a i vs)
  | [], _, _, _, h => h
  | v :: vs, i, _, _, h => Blk.row vs (i + 1) _ _ (h.set (j := i) v)
theorem Blk.rowFar {b c : Nat} {t : TypeId} (hne : c ≠ b) : ∀ (vs : List Value) (i : Nat) (w : World) (a : Array Value), Blk w c t a → Blk (setRow w b i vs) c t a
  | [], _, _, _, h => h
  | v :: vs, i, _, _, h => Blk.rowFar hne vs (i + 1) _ _ (h.far (p := ⟨b, i, none⟩) hne v)
theorem size_row {b : Nat} : ∀ (vs : List Value) (i : Nat) (w : World), (setRow w b i vs).heap.size = w.heap.size
  | [], _, _ => rfl
  | v :: vs, i, w => by show (setRow _ b (i + 1) vs).heap.size = _; rw [size_row vs]; simp
theorem block_row {b k : Nat} (hne : k ≠ b) : ∀ (vs : List Value) (i : Nat) (w : World), (setRow w b i vs).heap[k]? = w.heap[k]?
  | [], _, _ => rfl
  | v :: vs, i, w => by show (setRow _ b (i + 1) vs).heap[k]? = _; rw [block_row hne vs]; exact Below.heap_setCell _ _ _ _ hne
theorem row_os {b : Nat} : ∀ (vs : List Value) (i : Nat) (w : World), (setRow w b i vs).os = w.os ∧ (setRow w b i vs).tape = w.tape ∧ (setRow w b i vs).output = w.output
  | [], _, _ => ⟨rfl, rfl, rfl⟩
  | v :: vs, i, w => row_os vs (i + 1) (w.setCell ⟨b, i, none⟩ v)
theorem Mk.row {q b : Nat} {w0 w : World} (h : Mk q w0 w) (hb : w0.heap.size ≤ b) (i : Nat) (vs : List Value) : Mk q w0 (setRow w b i vs) := by
  obtain ⟨o1, o2, o3⟩ := row_os (b := b) vs i w
  exact ⟨o1.trans h.os, o2.trans h.tape, o3.trans h.output, by rw [size_row]; exact h.size, fun k hk hn => (block_row (by omega) vs i w).trans (h.block k hk hn)⟩
theorem below_row {B b : Nat} {w0 w : World} (h : Below B w0 w) (hb : B ≤ b) (i : Nat) (vs : List Value) : Below B w0 (setRow w b i vs) := by
  obtain ⟨o1, o2, o3⟩ := row_os (b := b) vs i w
  exact ⟨o1.trans h.os, o2.trans h.tape, o3.trans h.output, by rw [size_row]; exact h.size, fun k hk => (block_row (by omega) vs i w).trans (h.block k hk)⟩
theorem Rd.row {x : Cx} {q b : Nat} {s : PP.St} {t : TypeId} (ht : t ≠ 77) (hq : q < b) : ∀ (vs : List Value) (i : Nat) (w : World) (a : Array Value), Blk w b t a → Rd x q w s → Rd x q (setRow w b i vs) s
  | [], _, _, _, _, h => h
  | v :: vs, i, _, _, hb, h => Rd.row ht hq vs (i + 1) _ _ (hb.set (j := i) v) (h.far (p := ⟨b, i, none⟩) hb ht hq v)
/-- A struct is stored into a box of the call's own. -/
theorem At.row {x : Cx} {q b : Nat} {w0 w : World} {s : PP.St} {t : TypeId} {a : Array Value} (h : Hid (At x q w0 s w)) (hb : Blk w b t a) (ht : t ≠ 77) (hq : q < b) (h0 : w0.heap.size ≤ b) (i : Nat) (vs : List Value) : Hid (At x q w0 s (setRow w b i vs)) :=
  ⟨Rd.row ht hq vs i _ _ hb (At.rd h), (At.mk' h).row h0 i vs⟩
theorem At.drew {x : Cx} {q : Nat} {w0 w : World} {s : PP.St} (h : Hid (At x q w0 s w)) : Hid (At x q w0 s w.drew) := At.keep h (Below.refl _ _).drew
theorem At.size {x : Cx} {q : Nat} {w0 w : World} {s : PP.St} (h : Hid (At x q w0 s w)) : w0.heap.size ≤ w.heap.size := (At.mk' h).size
/-- A box that was there first. -/
theorem At.box {x : Cx} {q b : Nat} {w0 w : World} {s : PP.St} {t : TypeId} {a : Array Value} (h : Hid (At x q w0 s w)) (hb : Blk w0 b t a) (hne : b ≠ q) : Blk w b t a := hb.mk (At.mk' h) hne

theorem kind_ne (k : Nat) (n : Nat) : ((k : Int) == (n : Int)) = decide (k = n) := by rw [Bool.eq_iff_iff]; simp; omega

set_option maxRecDepth 20000 in
theorem need_any {x : Cx} {q : Nat} {w0 W : World} {s : PP.St} (k : Nat) (h : Hid (At x q w0 s W)) :
    Calls Tryz.prog 52 #[.pointer (some ⟨q, 0, none⟩), .int .i64 (k : Nat)] W fun e w' => e = .returned (.tuple #[]) ∧ Hid (At x q w0 (s.need k) w') := by
  have k1 := hid'' (next_any h)
  have h1 : wagg s.nx = .agg #[.int .i64 (s.nx.1 : Nat), .int .i64 (s.nx.2.1 : Nat), .string ⟨s.nx.2.2.toArray⟩] := rfl
  rw [h1] at k1
  obtain ⟨z, hz⟩ : ∃ z, s.nx.1 = z := ⟨_, rfl⟩
  have kf : Hid (∀ W, Hid (At x q w0 s W) → Calls Tryz.prog 47 #[.pointer (some ⟨q, 0, none⟩), .iface 167 (.pointer (some x.ea))] W fun e w' => e = .returned (.tuple #[]) ∧ Hid (At x q w0 (s.fail 0) w')) := fun W H => fail_any 0 H
  have HN : Hid (s.need k = if z = k then s else s.fail 0) := by show _ = _; unfold PP.St.need; rw [hz]
  rw [hz] at k1
  obtain ⟨f0, f1, f2⟩ := fld_w (z : Nat) (s.nx.2.1 : Nat) ⟨s.nx.2.2.toArray⟩
  clear h hz h1
  go_enter Tryz.func52, Tryz.ntmps52
  by_cases hk : z = k
  · subst hk
    rw [if_pos rfl] at HN
    go_wp2_with (go_at_call 49; refine k1.out.mono ?_; rintro e w1 ⟨rfl, H1, B1⟩)
    go_end0
    exact ⟨rfl, by rw [HN.out]; exact H1⟩
  · rw [if_neg hk] at HN
    have d0 : ((z : Int) == (k : Int)) = false := by rw [kind_ne]; simpa using hk
    have d1 : ¬ (z : Int) = (k : Int) := by omega
    go_wp2_with (first
      | (go_at_call 47; refine (kf.out _ H1).mono ?_; rintro e w2 ⟨rfl, H2⟩)
      | go_at_call 49
        refine k1.out.mono ?_
        rintro e w1 ⟨rfl, H1, B1⟩
        have c1 : w1.cell? ⟨1, 0, none⟩ = some (.iface 167 (.pointer (some x.ea))) := (At.rd H1).et
        have q1 : 1 < w1.heap.size := by have h1 := (At.rd H1).lt; have h2 := (At.rd H1).q13; omega
        have q0 : 0 < w1.heap.size := by omega)
    go_end0
    exact ⟨rfl, by rw [HN.out]; exact H2⟩

def dropW (a : Option Addr) (cap : Nat) : Option Addr := if cap = 1 then a else a.map (·.add 3)
theorem slice_one (a : Option Addr) (n cap : Nat) (hk : 1 ≤ n) (W : World) : (Instr.slice 46 (.slice a n cap) (some (.int .i64 1)) none none).run Tryz.prog W = .ok (.slice (dropW a cap) (n - 1) (cap - 1)) W := by
  rw [run_slice_l (P := Tryz.prog) W 46 a n cap (by kernel_rfl) .i64 1 (by omega) (by omega)]
  have e : (sizeOf (Tryz.prog.elem 46)).run Tryz.prog W = .ok 3 W := by simp [go_sem]
  rw [e]
  simp [Result.andThen, sliced, dropW]

theorem WordsAt.tail {q : Nat} {w : World} {ad : Option Addr} {n cap : Nat} {u : WP.W} {t : List WP.W} (h : WordsAt q w (.slice ad n cap) (u :: t)) : WordsAt q w (.slice (dropW ad cap) (n - 1) (cap - 1)) t := by
  obtain ⟨ad', c, h1, h2, h3, h4⟩ := h
  simp only [Value.slice.injEq] at h1
  obtain ⟨rfl, rfl, rfl⟩ := h1
  refine ⟨_, _, rfl, by simp at h2; omega, by omega, fun k hk => ?_⟩
  obtain ⟨g, o, e1, e2, e3, e4, e5⟩ := h4 (k + 1) (by simpa using hk)
  have hc : cap ≠ 1 := by simp at h2; omega
  refine ⟨g, o + 3, by unfold dropW; rw [if_neg hc, e1]; simp [Addr.add], e2, ?_, ?_, ?_⟩
  · rw [show o + 3 + k * 3 = o + (k + 1) * 3 by omega]; exact e3
  · rw [show o + 3 + (k * 3 + 1) = o + ((k + 1) * 3 + 1) by omega]; exact e4
  · rw [show o + 3 + (k * 3 + 2) = o + ((k + 1) * 3 + 2) by omega]; exact e5

/-- Three cells of a box of a word. -/
theorem blk3 {W : World} {b : Nat} {t : TypeId} {v0 v1 v2 : Value} (h : Blk W b t #[v0, v1, v2]) : (W.cell? ⟨b, 0, none⟩ = some v0 ∧ W.cell? ⟨b, 1, none⟩ = some v1 ∧ W.cell? ⟨b, 2, none⟩ = some v2) ∧ W.frozen? ⟨b, 0, none⟩ = false ∧ W.frozen? ⟨b, 1, none⟩ = false ∧ W.frozen? ⟨b, 2, none⟩ = false :=
  ⟨⟨h.cell 0, h.cell 1, h.cell 2⟩, h.frozen 0, h.frozen 1, h.frozen 2⟩

set_option maxRecDepth 20000 in
set_option maxHeartbeats 1000000 in
theorem take_any {x : Cx} {q : Nat} {w0 W : World} {s : PP.St} (h : Hid (At x q w0 s W)) :
    Calls Tryz.prog 50 #[.pointer (some ⟨q, 0, none⟩)] W fun e w' => e = .returned (wagg s.nx) ∧ Hid (At x q w0 s.tl w') := by
  have HW := At.alloc (At.new h) (.cells #[.int .i64 0, .int .i64 0, .string ⟨#[]⟩] 83)
  have k1 := hid'' (next_any (At.new HW))
  have hq : q < W.heap.size := (At.rd h).lt
  have hs0 := At.size h
  have h1 : wagg s.nx = .agg #[.int .i64 (s.nx.1 : Nat), .int .i64 (s.nx.2.1 : Nat), .string ⟨s.nx.2.2.toArray⟩] := rfl
  rw [h1] at k1
  obtain ⟨z, hz⟩ : ∃ z, s.nx.1 = z := ⟨_, rfl⟩
  obtain ⟨p, hp⟩ : ∃ p, s.nx.2.1 = p := ⟨_, rfl⟩
  obtain ⟨U, hU⟩ : ∃ U : ByteArray, ⟨s.nx.2.2.toArray⟩ = U := ⟨_, rfl⟩
  have HV : Hid (wagg s.nx = .agg #[.int .i64 (z : Nat), .int .i64 (p : Nat), .string U]) := by show _ = _; rw [h1, hz, hp, hU]
  rw [hz, hp, hU] at k1
  have HM : Hid (Mk q w0 (W.alloc (.cells #[.int .i64 0, .int .i64 0, .string ⟨#[]⟩] 83))) := (At.mk' h).alloc _
  have B0 : Hid (Blk (W.alloc (.cells #[.int .i64 0, .int .i64 0, .string ⟨#[]⟩] 83)) W.heap.size 83 #[.int .i64 0, .int .i64 0, .string ⟨#[]⟩]) := blk_new _ _ _
  clear h1 hz hp hU
  rw [HV.out]
  obtain ⟨f, ws, er⟩ := s
  cases ws with
  | nil =>
    go_enter Tryz.func50, Tryz.ntmps50
    go_wp2_with (first
      | go_at_call 49
        refine k1.out.mono ?_
        rintro e w1 ⟨rfl, H1, B1⟩
        have X1 : Hid (Blk w1 W.heap.size 83 #[.int .i64 0, .int .i64 0, .string ⟨#[]⟩]) := B0.out.below B1 (by simp)
        have hx := X1.out.lt
        obtain ⟨⟨x0, x1, x2⟩, y0, y1, y2⟩ := blk3 X1.out
        obtain ⟨v, ev, hb, ⟨ad, cap, rfl, hl, hc, -⟩, -⟩ := (At.rd H1).blk
        have hq1 := hb.lt
        have c0 : w1.cell? ⟨q, 0, none⟩ = some (.slice ad 0 cap) := hb.cell 0
        clear hb hc hl)
    have R1 := At.alloc (At.row (At.onto HM.out H1) X1.out (by decide) hq hs0 0 [.int .i64 (z : Nat), .int .i64 (p : Nat), .string U]) (.cells #[.int .i64 (z : Nat), .int .i64 (p : Nat), .string U] 83)
    refine bodyPost_ret (v := .agg #[.int .i64 (z : Nat), .int .i64 (p : Nat), .string U]) (by simp [results, Tryz.results50, go_sem, x0, x1, x2, hx]) rfl ⟨rfl, ?_⟩
    exact R1
  | cons u t =>
    obtain ⟨n, hn⟩ : ∃ n, (u :: t).length = n := ⟨_, rfl⟩
    have hn0 : 1 ≤ n := by rw [← hn]; simp
    have d0 : (0 : Int) < (n : Int) := by omega
    go_enter Tryz.func50, Tryz.ntmps50
    go_wp2_with (first
      | go_at_call 49
        refine k1.out.mono ?_
        rintro e w1 ⟨rfl, H1, B1⟩
        have X1 : Hid (Blk w1 W.heap.size 83 #[.int .i64 0, .int .i64 0, .string ⟨#[]⟩]) := B0.out.below B1 (by simp)
        have hx := X1.out.lt
        obtain ⟨⟨x0, x1, x2⟩, y0, y1, y2⟩ := blk3 X1.out
        obtain ⟨v, ev, hb, hwa, -⟩ := (At.rd H1).blk
        obtain ⟨ad, cap, rfl, hl, hc, -⟩ := id hwa
        have HWA := hid'' hwa.tail
        have hq1 := hb.lt
        have c0 : w1.cell? ⟨q, 0, none⟩ = some (.slice ad n cap) := by rw [← hn]; exact hb.cell 0
        have f0 := hb.frozen 0
        have hsl := fun W => slice_one ad n cap hn0 W
        simp only [hn] at hl HWA
        unfold maxLen at hc
        clear hb hwa)
    have R0 : Hid (At x q w0 ⟨f, t, er⟩ (w1.setCell ⟨q, 0, none⟩ (.slice (dropW ad cap) (n - 1) (cap - 1)))) := ⟨(At.rd H1).setTl HWA.out, ((HM.out).trans (At.mk' H1)).trans (Mk.self _ _)⟩
    have R1 := At.alloc (At.row R0 (X1.out.far (p := ⟨q, 0, none⟩) (by show W.heap.size ≠ q; omega) _) (by decide) hq hs0 0 [.int .i64 (z : Nat), .int .i64 (p : Nat), .string U]) (.cells #[.int .i64 (z : Nat), .int .i64 (p : Nat), .string U] 83)
    refine bodyPost_ret (v := .agg #[.int .i64 (z : Nat), .int .i64 (p : Nat), .string U]) (by simp [results, Tryz.results50, go_sem, x0, x1, x2, hx]) rfl ⟨rfl, ?_⟩
    exact R1

end Go.Proofs.YtenmkopiddmieabGreatDoor

/-
  Numbers taken one by one, and what is made of a few of them: walked over the program.
-/
import Derived.Deep.Cut
import Derived.Test.YtcnlkdoifogkbaaGreatDoorMem
import Derived.Test.YtcnlkdoifogkbaaGreatDoorGrow
namespace Go.Proofs.YtcnlkdoifogkbaaGreatDoor
open Go.RowKit

/-- All but one block is as it was. -/
def Mk (q : Nat) (w w' : World) : Prop := w.grownBy w' (some q)

theorem Mk.refl (q : Nat) (w : World) : Mk q w w := ⟨rfl, rfl, rfl, Nat.le_refl _, fun _ _ _ => rfl⟩
theorem Mk.trans {q : Nat} {a b c : World} (h : Mk q a b) (k : Mk q b c) : Mk q a c :=
  ⟨k.os.trans h.os, k.tape.trans h.tape, k.output.trans h.output, Nat.le_trans h.size k.size, fun i hi hn => (k.block i (Nat.lt_of_lt_of_le hi h.size) hn).trans (h.block i hi hn)⟩
theorem Mk.below {q : Nat} {w w' : World} (h : Below w.heap.size w w') : Mk q w w' := ⟨h.os, h.tape, h.output, h.size, fun k hk _ => h.block k hk⟩
theorem Mk.low {q B : Nat} {w w' : World} (h : Mk q w w') (hB : B ≤ q) (hq : q < w.heap.size) : Below B w w' := ⟨h.os, h.tape, h.output, h.size, fun k hk => h.block k (by omega) (fun e => by cases e; omega)⟩
theorem Mk.alloc {q : Nat} {w w' : World} (h : Mk q w w') (o : Obj) : Mk q w (w'.alloc o) := h.trans (Mk.below ((Below.refl _ _).alloc (Nat.le_refl _) _))
/-- A store into new memory. -/
theorem Mk.set {q : Nat} {w w' : World} (h : Mk q w w') {p : Addr} (hp : w.heap.size ≤ p.block) (v : Value) : Mk q w (w'.setCell p v) :=
  ⟨h.os, h.tape, h.output, by simpa using h.size, fun k hk hn => (Below.heap_setCell _ _ _ _ (by omega)).trans (h.block k hk hn)⟩
theorem Blk.mk {w w' : World} {b q : Nat} {t : TypeId} {a : Array Value} (h : Blk w b t a) (hm : Mk q w w') (hne : b ≠ q) : Blk w' b t a := (hm.block b h.lt (fun e => hne (by cases e; rfl))).trans h
theorem Own.mk {α : Type} {w w' : World} {B q : Nat} {t : TypeId} {size : Nat} {f : α → List Value} {ad : Option Addr} {cap : Nat} {l : List α} (h : Own w B t size f ad cap l) (hm : Mk q w w') (hq : q < B) : Own w' B t size f ad cap l :=
  h.kept fun a e => hm.block _ (h.lt a e).2 (fun e' => by have := (h.lt a e).1; cases e'; omega)

/-- Numbers that are taken one by one: where they lie, how many have been taken at most. -/
def SeqOk (w : World) (q m : Nat) : Prop := ∃ (ad : Option Addr) (n cap at' : Nat), Blk w q 31 #[.slice ad n cap, .int .i64 at'] ∧ at' ≤ m ∧ n ≤ cap ∧ cap ≤ maxLen ∧
  ∀ j, j < n → ∃ (x : Addr) (z : Int), ad = some x ∧ x.block < q ∧ w.cell? (x.add j) = some (.int .i64 z) ∧ -9223372036854775808 ≤ z ∧ z ≤ 9223372036854775807

theorem SeqOk.lt {w : World} {q m : Nat} (h : SeqOk w q m) : q < w.heap.size := by obtain ⟨_, _, _, _, h, _⟩ := h; exact h.lt
theorem SeqOk.mono {w : World} {q m m' : Nat} (h : SeqOk w q m) (hm : m ≤ m') : SeqOk w q m' := by
  obtain ⟨ad, n, cap, a, h1, h2, h3⟩ := h
  exact ⟨ad, n, cap, a, h1, by omega, h3⟩
theorem add_block (x : Addr) (j : Nat) : (x.add j).block = x.block := by unfold Addr.add; split <;> rfl
theorem SeqOk.keep {w w' : World} {q m : Nat} (h : SeqOk w q m) (hb : Below (q + 1) w w') : SeqOk w' q m := by
  obtain ⟨ad, n, cap, a, h1, h2, h3, h4, h5⟩ := h
  refine ⟨ad, n, cap, a, h1.below hb (by omega), h2, h3, h4, fun j hj => ?_⟩
  obtain ⟨x, z, e, hx, hc, hz⟩ := h5 j hj
  exact ⟨x, z, e, hx, by rw [hb.cell (p := x.add j) (by rw [add_block]; omega)]; exact hc, hz⟩
theorem SeqOk.alloc {w : World} {q m : Nat} (h : SeqOk w q m) (o : Obj) : SeqOk (w.alloc o) q m := h.keep ((Below.refl _ _).alloc (by have := h.lt; omega) o)
theorem SeqOk.set {w : World} {q m : Nat} (h : SeqOk w q m) {p : Addr} (hp : q < p.block) (v : Value) : SeqOk (w.setCell p v) q m := h.keep ((Below.refl _ _).setCell hp v)

theorem number_any (n b : Int) (w : World) (hb : 1 ≤ b ∧ b ≤ 4611686018427387904) (hn : -9223372036854775808 ≤ n ∧ n ≤ 9223372036854775807) :
    Calls Tryz.prog 10 #[.int .i64 n, .int .i64 b] w fun e w' => (∃ r : Int, e = .returned (.int .i64 r) ∧ 0 ≤ r ∧ r < b) ∧ w' = w := by
  have t : -b < n.tmod b ∧ n.tmod b < b := by
    rcases Int.le_total 0 n with h | h
    · rw [Int.tmod_eq_emod_of_nonneg h]
      have := Int.emod_nonneg n (b := b) (by omega)
      have := Int.emod_lt_of_pos n (b := b) (by omega)
      omega
    · have e : n.tmod b = -((-n).tmod b) := by rw [Int.neg_tmod]; omega
      rw [e, Int.tmod_eq_emod_of_nonneg (by omega)]
      have := Int.emod_nonneg (-n) (b := b) (by omega)
      have := Int.emod_lt_of_pos (-n) (b := b) (by omega)
      omega
  have h0 : (b == 0) = false := by simp; omega
  have h1 : (b == -1) = false := by simp; omega
  obtain ⟨T, hT⟩ : ∃ T, n.tmod b = T := ⟨_, rfl⟩
  rw [hT] at t
  go_enter Tryz.func10, Tryz.ntmps10
  by_cases hneg : T < 0
  · go_wp2
    go_ret
    exact ⟨⟨_, rfl, by omega, by omega⟩, rfl⟩
  · go_wp2
    go_ret
    exact ⟨⟨_, rfl, by omega, by omega⟩, rfl⟩

set_option maxRecDepth 20000 in
theorem next_any (q m : Nat) (b : Int) (w : World) (hs : SeqOk w q m) (hm : m ≤ 1000000000) (hb : 1 ≤ b ∧ b ≤ 4611686018427387904) :
    Calls Tryz.prog 20 #[.pointer (some ⟨q, 0, none⟩), .int .i64 b] w fun e w' => (∃ r : Int, e = .returned (.int .i64 r) ∧ 0 ≤ r ∧ r < b) ∧ SeqOk w' q (m + 1) ∧ Mk q w w' := by
  obtain ⟨ad, n, cap, a, h1, h2, h3, h4, h5⟩ := hs
  have HS : Hid (Blk w q 31 #[.slice ad n cap, .int .i64 a]) := h1
  have H5 : Hid (∀ j, j < n → ∃ (x : Addr) (z : Int), ad = some x ∧ x.block < q ∧ w.cell? (x.add j) = some (.int .i64 z) ∧ -9223372036854775808 ≤ z ∧ z ≤ 9223372036854775807) := h5
  have kn : Hid (∀ z w, -9223372036854775808 ≤ z ∧ z ≤ 9223372036854775807 → Calls Tryz.prog 10 #[.int .i64 z, .int .i64 b] w fun e w' => (∃ r : Int, e = .returned (.int .i64 r) ∧ 0 ≤ r ∧ r < b) ∧ w' = w) := fun z w hz => number_any z b w hb hz
  have c0 : w.cell? ⟨q, 0, none⟩ = some (.slice ad n cap) := h1.cell 0
  have c1 : w.cell? ⟨q, 1, none⟩ = some (.int .i64 a) := h1.cell 1
  have f1 : w.frozen? ⟨q, 1, none⟩ = false := h1.frozen 1
  have HR : Hid (∀ d : Nat, SeqOk ((w.drewN d).setCell ⟨q, 1, none⟩ (.int .i64 (a + 1))) q (m + 1) ∧ Mk q w ((w.drewN d).setCell ⟨q, 1, none⟩ (.int .i64 (a + 1)))) := fun d => by
    refine ⟨⟨ad, n, cap, a + 1, ?_, by omega, h3, h4, fun j hj => ?_⟩, ?_⟩
    · exact (show Blk (w.drewN d) q 31 #[.slice ad n cap, .int .i64 a] from h1).set (j := 1) _
    · obtain ⟨x, z, e, hx, hc, hz⟩ := H5.out j hj
      exact ⟨x, z, e, hx, by rw [World.cell?_setCell_other (h := by intro e'; have := congrArg Addr.block e'; rw [add_block] at this; simp at this; omega)]; exact hc, hz⟩
    · exact ⟨rfl, rfl, rfl, by simp, fun k hk hn => (Below.heap_setCell _ _ _ _ (fun e => hn (by rw [e]))).trans rfl⟩
  unfold maxLen at h4
  clear h1 h5 HS hb
  go_enter Tryz.func20, Tryz.ntmps20
  by_cases ha : a < n
  · obtain ⟨x, z, rfl, hx, hc, hz⟩ := H5.out a ha
    have hz1 := hz.1
    have hz2 := hz.2
    clear hz
    have ha' : (a : Int) < (n : Int) := by omega
    go_wp2
    go_quiet (fail)
    go_wp2
    go_quiet (fail)
    go_wp2_with (go_at_call 10; refine (kn.out z _ ⟨hz1, hz2⟩).mono ?_; rintro e w1 ⟨⟨r, rfl, r0, r1⟩, rfl⟩)
    go_ret
    exact ⟨⟨r, rfl, r0, r1⟩, HR.out _⟩
  · have ha' : ¬ (a : Int) < (n : Int) := by omega
    go_wp2
    go_quiet (fail)
    go_wp2_with (go_at_call 10; refine (kn.out 0 _ (by omega)).mono ?_; rintro e w1 ⟨⟨r, rfl, r0, r1⟩, rfl⟩)
    go_ret
    exact ⟨⟨r, rfl, r0, r1⟩, HR.out _⟩

theorem more_any (q m : Nat) (w : World) (hs : SeqOk w q m) :
    Calls Tryz.prog 21 #[.pointer (some ⟨q, 0, none⟩)] w fun e w' => (∃ b : Bool, e = .returned (.bool b)) ∧ SeqOk w' q m ∧ Below w.heap.size w w' := by
  obtain ⟨ad, n, cap, a, h1, h2, h3, h4, h5⟩ := hs
  have HS : Hid (∀ d, SeqOk (w.drewN d) q m) := fun d => ⟨ad, n, cap, a, h1, h2, h3, h4, h5⟩
  have c0 : w.cell? ⟨q, 0, none⟩ = some (.slice ad n cap) := h1.cell 0
  have c1 : w.cell? ⟨q, 1, none⟩ = some (.int .i64 a) := h1.cell 1
  unfold maxLen at h4
  clear h1 h5
  go_enter Tryz.func21, Tryz.ntmps21
  go_wp2
  go_quiet (fail)
  go_wp2
  go_ret
  exact ⟨⟨_, rfl⟩, HS.out _, below_drewN (Below.refl _ _) _⟩

/-- A color whose parts are bytes. -/
def ColIn (c : IC.Col) : Prop := (0 ≤ c.r ∧ c.r ≤ 255) ∧ (0 ≤ c.g ∧ c.g ≤ 255) ∧ (0 ≤ c.b ∧ c.b ≤ 255) ∧ (0 ≤ c.a ∧ c.a ≤ 255)

def table : Array Value := #[.int .u8 255, .int .u8 0, .int .u8 0, .int .u8 255, .int .u8 0, .int .u8 128, .int .u8 0, .int .u8 255, .int .u8 0, .int .u8 0, .int .u8 200, .int .u8 100, .int .u8 10, .int .u8 20, .int .u8 30, .int .u8 1, .int .u8 255, .int .u8 255, .int .u8 255, .int .u8 255, .int .u8 0, .int .u8 0, .int .u8 0, .int .u8 0, .int .u8 7, .int .u8 0, .int .u8 0, .int .u8 254]

theorem table_at (k : Nat) (hk : k < 7) : ∃ c : IC.Col, ColIn c ∧ table[k * 4]? = some (.int .u8 c.r) ∧ table[k * 4 + 1]? = some (.int .u8 c.g) ∧ table[k * 4 + 2]? = some (.int .u8 c.b) ∧ table[k * 4 + 3]? = some (.int .u8 c.a) := by
  have : k = 0 ∨ k = 1 ∨ k = 2 ∨ k = 3 ∨ k = 4 ∨ k = 5 ∨ k = 6 := by omega
  rcases this with rfl | rfl | rfl | rfl | rfl | rfl | rfl
  · exact ⟨⟨255, 0, 0, 255⟩, by unfold ColIn; decide, rfl, rfl, rfl, rfl⟩
  · exact ⟨⟨0, 128, 0, 255⟩, by unfold ColIn; decide, rfl, rfl, rfl, rfl⟩
  · exact ⟨⟨0, 0, 200, 100⟩, by unfold ColIn; decide, rfl, rfl, rfl, rfl⟩
  · exact ⟨⟨10, 20, 30, 1⟩, by unfold ColIn; decide, rfl, rfl, rfl, rfl⟩
  · exact ⟨⟨255, 255, 255, 255⟩, by unfold ColIn; decide, rfl, rfl, rfl, rfl⟩
  · exact ⟨⟨0, 0, 0, 0⟩, by unfold ColIn; decide, rfl, rfl, rfl, rfl⟩
  · exact ⟨⟨7, 0, 0, 254⟩, by unfold ColIn; decide, rfl, rfl, rfl, rfl⟩

theorem cells_four {w : World} {b : Nat} {a0 a1 a2 a3 : Value} {t : TypeId} (h : Blk w b t #[a0, a1, a2, a3]) : (w.cell? ⟨b, 0, none⟩ = some a0 ∧ w.cell? ⟨b, 1, none⟩ = some a1 ∧ w.cell? ⟨b, 2, none⟩ = some a2 ∧ w.cell? ⟨b, 3, none⟩ = some a3) ∧ w.frozen? ⟨b, 0, none⟩ = false ∧ w.frozen? ⟨b, 1, none⟩ = false ∧ w.frozen? ⟨b, 2, none⟩ = false ∧ w.frozen? ⟨b, 3, none⟩ = false :=
  ⟨⟨h.cell 0, h.cell 1, h.cell 2, h.cell 3⟩, h.frozen 0, h.frozen 1, h.frozen 2, h.frozen 3⟩
theorem cells_two {w : World} {b : Nat} {a0 a1 : Value} {t : TypeId} (h : Blk w b t #[a0, a1]) : (w.cell? ⟨b, 0, none⟩ = some a0 ∧ w.cell? ⟨b, 1, none⟩ = some a1) ∧ w.frozen? ⟨b, 0, none⟩ = false ∧ w.frozen? ⟨b, 1, none⟩ = false :=
  ⟨⟨h.cell 0, h.cell 1⟩, h.frozen 0, h.frozen 1⟩

set_option maxRecDepth 20000 in
set_option maxHeartbeats 1000000 in
theorem color_any (q m : Nat) (w : World) (hs : SeqOk w q m) (hm : m ≤ 1000000) :
    Calls Tryz.prog 23 #[.pointer (some ⟨q, 0, none⟩)] w fun e w' => (∃ c : IC.Col, e = .returned (.agg c.cells.toArray) ∧ ColIn c) ∧ SeqOk w' q (m + 1) ∧ Mk q w w' := by
  have HS : Hid (SeqOk w q m) := hs
  have hq := hs.lt
  have kn : Hid (∀ W, SeqOk W q m → Calls Tryz.prog 20 #[.pointer (some ⟨q, 0, none⟩), .int .i64 7] W fun e w' => (∃ r : Int, e = .returned (.int .i64 r) ∧ 0 ≤ r ∧ r < 7) ∧ SeqOk w' q (m + 1) ∧ Mk q W w') := fun W h => next_any q m 7 W h (by omega) (by omega)
  clear hs
  go_enter Tryz.func23, Tryz.ntmps23
  go_wp2_with (go_at_call 20; refine (kn.out _ ((HS.out.alloc _).alloc _)).mono ?_; rintro e w1 ⟨⟨r, rfl, r0, r1⟩, hs1, hm1⟩
               obtain ⟨k, rfl⟩ : ∃ k : Nat, r = (k : Int) := ⟨r.toNat, by omega⟩
               have hk : k < 7 := by omega
               obtain ⟨⟨cr, cg, cb, ca⟩, hin, t0, t1, t2, t3⟩ := table_at k hk
               have H1 : Hid (SeqOk w1 q (m + 1)) := hs1
               have H2 : Hid (Mk q w w1) := (((Mk.refl q w).alloc _).alloc _).trans hm1
               have H3 : Hid (ColIn ⟨cr, cg, cb, ca⟩) := hin
               have hT : Blk w1 (w.heap.size + 1) 66 table := by
                 have h := blk_new (w.alloc (.cells #[.int .u8 0, .int .u8 0, .int .u8 0, .int .u8 0] 66)) 66 table
                 rw [size_alloc] at h
                 exact h.mk hm1 (by omega)
               have hR : Blk w1 w.heap.size 66 #[.int .u8 0, .int .u8 0, .int .u8 0, .int .u8 0] := ((blk_new w 66 #[.int .u8 0, .int .u8 0, .int .u8 0, .int .u8 0]).alloc _).mk hm1 (by omega)
               obtain ⟨⟨p0, p1, p2, p3⟩, f0, f1, f2, f3⟩ := cells_four hR
               have d0 := (hT.cell (k * 4)).trans t0
               have d1 := (hT.cell (k * 4 + 1)).trans t1
               have d2 := (hT.cell (k * 4 + 2)).trans t2
               have d3 := (hT.cell (k * 4 + 3)).trans t3
               have hz : w.heap.size + 1 < w1.heap.size := hT.lt
               clear t0 t1 t2 t3 hs1 hm1 hin hT hR)
  refine bodyPost_ret (v := .agg #[.int .u8 cr, .int .u8 cg, .int .u8 cb, .int .u8 ca]) (by simp [results, Tryz.results23, go_sem, p0, p1, p2, p3]) rfl ⟨⟨⟨cr, cg, cb, ca⟩, rfl, H3.out⟩, ?_, ?_⟩
  · exact (((H1.out.set hq _).set hq _).set hq _).set hq _
  · exact (((H2.out.set (Nat.le_refl _) _).set (Nat.le_refl _) _).set (Nat.le_refl _) _).set (Nat.le_refl _) _

set_option maxRecDepth 20000 in
set_option maxHeartbeats 1000000 in
theorem point_any (q m : Nat) (far : Int) (w : World) (hs : SeqOk w q m) (hm : m ≤ 2000000) (hf : 0 ≤ far ∧ far ≤ 1000000000) :
    Calls Tryz.prog 24 #[.pointer (some ⟨q, 0, none⟩), .int .i64 far] w fun e w' => (∃ x y : Int, e = .returned (.agg #[.int .i64 x, .int .i64 y]) ∧ (-far ≤ x ∧ x ≤ far) ∧ (-far ≤ y ∧ y ≤ far)) ∧ SeqOk w' q (m + 2) ∧ Mk q w w' := by
  have HS : Hid (SeqOk w q m) := hs
  have hq := hs.lt
  have kn : Hid (∀ W k, k ≤ m + 10 → SeqOk W q k → Calls Tryz.prog 20 #[.pointer (some ⟨q, 0, none⟩), .int .i64 (2 * far + 1)] W fun e w' => (∃ r : Int, e = .returned (.int .i64 r) ∧ 0 ≤ r ∧ r < 2 * far + 1) ∧ SeqOk w' q (k + 1) ∧ Mk q W w') := fun W k hk h => next_any q k (2 * far + 1) W h (by omega) (by omega)
  have f0 := hf.1
  have f1 := hf.2
  clear hs hf
  go_enter Tryz.func24, Tryz.ntmps24
  go_wp2_with (first
    | (go_at_call 20; refine (kn.out w1 (m + 1) (by omega) H1.out).mono ?_; rintro e w2 ⟨⟨r2, rfl, y0, y1⟩, hs2, hm2⟩
       have K1 : Hid (SeqOk w2 q (m + 2)) := hs2
       have K2 : Hid (Mk q w w2) := H2.out.trans hm2
       have hR2 : Blk w2 w.heap.size 57 #[.int .i64 0, .int .i64 0] := H3.out.mk hm2 (by omega)
       obtain ⟨⟨p0, p1⟩, g0, g1⟩ := cells_two hR2
       clear hs2 hm2 hR2)
    | (go_at_call 20; refine (kn.out _ m (by omega) (HS.out.alloc _)).mono ?_; rintro e w1 ⟨⟨r1, rfl, x0, x1⟩, hs1, hm1⟩
       have H1 : Hid (SeqOk w1 q (m + 1)) := hs1
       have H2 : Hid (Mk q w w1) := ((Mk.refl q w).alloc _).trans hm1
       have H3 : Hid (Blk w1 w.heap.size 57 #[.int .i64 0, .int .i64 0]) := (blk_new w 57 #[.int .i64 0, .int .i64 0]).mk hm1 (by omega)
       clear hs1 hm1))
  refine bodyPost_ret (v := .agg #[.int .i64 (r1 - far), .int .i64 (r2 - far)]) (by simp [results, Tryz.results24, go_sem, p0, p1]) rfl ⟨⟨_, _, rfl, by omega, by omega⟩, ?_, ?_⟩
  · exact (K1.out.set hq _).set hq _
  · exact (K2.out.set (Nat.le_refl _) _).set (Nat.le_refl _) _

set_option maxRecDepth 20000 in
set_option maxHeartbeats 1000000 in
theorem inside_any (q m : Nat) (far : Int) (w : World) (hs : SeqOk w q m) (hm : m ≤ 1000000) (hf : 0 ≤ far ∧ far ≤ 1000000000) :
    Calls Tryz.prog 42 #[.pointer (some ⟨q, 0, none⟩), .int .i64 far] w fun e w' => (∃ x y : Int, e = .returned (.agg #[.int .i64 x, .int .i64 y]) ∧ (-far ≤ x ∧ x ≤ far) ∧ (-far ≤ y ∧ y ≤ far)) ∧ SeqOk w' q (m + 3) ∧ Mk q w w' := by
  have HS : Hid (SeqOk w q m) := hs
  have hq := hs.lt
  have k0 : Hid (∀ W, SeqOk W q m → Calls Tryz.prog 20 #[.pointer (some ⟨q, 0, none⟩), .int .i64 12] W fun e w' => (∃ r : Int, e = .returned (.int .i64 r) ∧ 0 ≤ r ∧ r < 12) ∧ SeqOk w' q (m + 1) ∧ Mk q W w') := fun W h => next_any q m 12 W h (by omega) (by omega)
  have kn : Hid (∀ W k, k ≤ m + 10 → SeqOk W q k → Calls Tryz.prog 20 #[.pointer (some ⟨q, 0, none⟩), .int .i64 (far + 1)] W fun e w' => (∃ r : Int, e = .returned (.int .i64 r) ∧ 0 ≤ r ∧ r < far + 1) ∧ SeqOk w' q (k + 1) ∧ Mk q W w') := fun W k hk h => next_any q k (far + 1) W h (by omega) (by omega)
  have kp : Hid (∀ W, SeqOk W q (m + 1) → Calls Tryz.prog 24 #[.pointer (some ⟨q, 0, none⟩), .int .i64 far] W fun e w' => (∃ x y : Int, e = .returned (.agg #[.int .i64 x, .int .i64 y]) ∧ (-far ≤ x ∧ x ≤ far) ∧ (-far ≤ y ∧ y ≤ far)) ∧ SeqOk w' q (m + 1 + 2) ∧ Mk q W w') := fun W h => point_any q (m + 1) far W h (by omega) hf
  have f0 := hf.1
  have f1 := hf.2
  clear hs hf
  go_enter Tryz.func42, Tryz.ntmps42
  go_upto_if 8 with (first
    | (go_at_call 20; refine (k0.out _ (HS.out.alloc _)).mono ?_; rintro e w1 ⟨⟨r, rfl, x0, x1⟩, hs1, hm1⟩
       have H1 : Hid (SeqOk w1 q (m + 1)) := hs1
       have H2 : Hid (Mk q w w1) := ((Mk.refl q w).alloc _).trans hm1
       have H3 : Hid (Blk w1 w.heap.size 57 #[.int .i64 0, .int .i64 0]) := (blk_new w 57 #[.int .i64 0, .int .i64 0]).mk hm1 (by omega)
       clear hs1 hm1))
  cases h0 : (r == 0)
  · go_wp2_with (first
      | (go_at_call 20; refine (kn.out w2 (m + 2) (by omega) K1.out).mono ?_; rintro e w3 ⟨⟨r3, rfl, z0, z1⟩, hs3, hm3⟩
         have L1 : Hid (SeqOk w3 q (m + 3)) := hs3
         have L2 : Hid (Mk q w w3) := K2.out.trans hm3
         have hR3 : Blk w3 w.heap.size 57 #[.int .i64 0, .int .i64 0] := K3.out.mk hm3 (by omega)
         obtain ⟨⟨p0, p1⟩, g0, g1⟩ := cells_two hR3
         clear hs3 hm3 hR3)
      | (go_at_call 20; refine (kn.out w1 (m + 1) (by omega) H1.out).mono ?_; rintro e w2 ⟨⟨r2, rfl, y0, y1⟩, hs2, hm2⟩
         have K1 : Hid (SeqOk w2 q (m + 2)) := hs2
         have K2 : Hid (Mk q w w2) := H2.out.trans hm2
         have K3 : Hid (Blk w2 w.heap.size 57 #[.int .i64 0, .int .i64 0]) := H3.out.mk hm2 (by omega)
         clear hs2 hm2))
    refine bodyPost_ret (v := .agg #[.int .i64 r2, .int .i64 r3]) (by simp [results, Tryz.results42, go_sem, p0, p1]) rfl ⟨⟨_, _, rfl, by omega, by omega⟩, ?_, ?_⟩
    · exact (L1.out.set hq _).set hq _
    · exact (L2.out.set (Nat.le_refl _) _).set (Nat.le_refl _) _
  · go_wp2_with (first
      | (go_at_call 24; refine (kp.out w1 H1.out).mono ?_; rintro e w2 ⟨⟨x, y, rfl, hx, hy⟩, hs2, hm2⟩
         have K1 : Hid (SeqOk w2 q (m + 3)) := hs2
         have K2 : Hid (Mk q w w2) := H2.out.trans hm2
         have hR3 : Blk w2 w.heap.size 57 #[.int .i64 0, .int .i64 0] := H3.out.mk hm2 (by omega)
         obtain ⟨⟨p0, p1⟩, g0, g1⟩ := cells_two hR3
         clear hs2 hm2 hR3))
    refine bodyPost_ret (v := .agg #[.int .i64 x, .int .i64 y]) (by simp [results, Tryz.results42, go_sem, p0, p1]) rfl ⟨⟨_, _, rfl, hx, hy⟩, ?_, ?_⟩
    · exact (K1.out.set hq _).set hq _
    · exact (K2.out.set (Nat.le_refl _) _).set (Nat.le_refl _) _

end Go.Proofs.YtcnlkdoifogkbaaGreatDoor

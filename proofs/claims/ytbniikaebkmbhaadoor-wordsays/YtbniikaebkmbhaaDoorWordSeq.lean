/-
  Numbers taken one by one, and what is made of a few of them: walked over the program.
-/
import Derived.Deep.Cut
import Derived.Test.YtbniikaebkmbhaaDoorWordBase
namespace Go.Proofs.YtbniikaebkmbhaaDoor
open Go.RowKit

/-- All but one block is as it was. -/
def Mk (q : Nat) (w w' : World) : Prop := w.grownBy w' (some q)

theorem Mk.refl (q : Nat) (w : World) : Mk q w w := ⟨rfl, rfl, rfl, Nat.le_refl _, fun _ _ _ => rfl⟩
theorem Mk.trans {q : Nat} {a b c : World} (h : Mk q a b) (k : Mk q b c) : Mk q a c :=
  ⟨k.os.trans h.os, k.tape.trans h.tape, k.output.trans h.output, Nat.le_trans h.size k.size, fun i hi hn => (k.block i (Nat.lt_of_lt_of_le hi h.size) hn).trans (h.block i hi hn)⟩
theorem Mk.below {q : Nat} {w w' : World} (h : Below w.heap.size w w') : Mk q w w' := ⟨h.os, h.tape, h.output, h.size, fun k hk _ => h.block k hk⟩
theorem Mk.low {q B : Nat} {w w' : World} (h : Mk q w w') (hB : B ≤ q) (hq : q < w.heap.size) : Below B w w' := ⟨h.os, h.tape, h.output, h.size, fun k hk => h.block k (by omega) (fun e => by cases e; omega)⟩
theorem Mk.alloc {q : Nat} {w w' : World} (h : Mk q w w') (o : Obj) : Mk q w (w'.alloc o) := h.trans (Mk.below ((Below.refl _ _).alloc (Nat.le_refl _) _))
/-- A store into new memory. -/
theorem Mk.set {q : Nat} {w w' : World} (h : Mk q w w') {p : Addr} (hp : w.heap.size ≤ p.block) (v : Value) : Mk q w (w'.setCell p v) :=
  ⟨h.os, h.tape, h.output, by simpa using h.size, fun k hk hn => (Below.heap_setCell _ _ _ _ (by omega)).trans (h.block k hk hn)⟩
theorem Blk.mk {w w' : World} {b q : Nat} {t : TypeId} {a : Array Value} (h : Blk w b t a) (hm : Mk q w w') (hne : b ≠ q) : Blk w' b t a := (hm.block b h.lt (fun e => hne (by cases e; rfl))).trans h
theorem Own.mk {α : Type} {w w' : World} {B q : Nat} {t : TypeId} {size : Nat} {f : α → List Value} {ad : Option Addr} {cap : Nat} {l : List α} (h : Own w B t size f ad cap l) (hm : Mk q w w') (hq : q < B) : Own w' B t size f ad cap l :=
  h.kept fun a e => hm.block _ (h.lt a e).2 (fun e' => by have := (h.lt a e).1; cases e'; omega)

/-- Numbers that are taken one by one: where they lie, how many have been taken at most. -/
def SeqOk (w : World) (q m : Nat) : Prop := ∃ (ad : Option Addr) (n cap at' : Nat), Blk w q 27 #[.slice ad n cap, .int .i64 at'] ∧ at' ≤ m ∧ n ≤ cap ∧ cap ≤ maxLen ∧
  ∀ j, j < n → ∃ (x : Addr) (z : Int), ad = some x ∧ x.block < q ∧ w.cell? (x.add j) = some (.int .i64 z) ∧ -9223372036854775808 ≤ z ∧ z ≤ 9223372036854775807

theorem SeqOk.lt {w : World} {q m : Nat} (h : SeqOk w q m) : q < w.heap.size := by obtain ⟨_, _, _, _, h, _⟩ := h; exact h.lt
theorem SeqOk.mono {w : World} {q m m' : Nat} (h : SeqOk w q m) (hm : m ≤ m') : SeqOk w q m' := by
  obtain ⟨ad, n, cap, a, h1, h2, h3⟩ := h
  exact ⟨ad, n, cap, a, h1, by omega, h3⟩
theorem add_block (x : Addr) (j : Nat) : (x.add j).block = x.block := by unfold Addr.add; split <;> rfl
theorem SeqOk.keep {w w' : World} {q m : Nat} (h : SeqOk w q m) (hb : Below (q + 1) w w') : SeqOk w' q m := by
  obtain ⟨ad, n, cap, a, h1, h2, h3, h4, h5⟩ := h
  refine ⟨ad, n, cap, a, h1.below hb (by omega), h2, h3, h4, fun j hj => ?_⟩
  obtain ⟨x, z, e, hx, hc, hz⟩ := h5 j hj
  exact ⟨x, z, e, hx, by rw [hb.cell (p := x.add j) (by rw [add_block]; omega)]; exact hc, hz⟩
theorem SeqOk.alloc {w : World} {q m : Nat} (h : SeqOk w q m) (o : Obj) : SeqOk (w.alloc o) q m := h.keep ((Below.refl _ _).alloc (by have := h.lt; omega) o)
theorem SeqOk.set {w : World} {q m : Nat} (h : SeqOk w q m) {p : Addr} (hp : q < p.block) (v : Value) : SeqOk (w.setCell p v) q m := h.keep ((Below.refl _ _).setCell hp v)

theorem number_any (n b : Int) (w : World) (hb : 1 ≤ b ∧ b ≤ 4611686018427387904) (hn : -9223372036854775808 ≤ n ∧ n ≤ 9223372036854775807) :
    Calls Tryd.prog 29 #[.int .i64 n, .int .i64 b] w fun e w' => (∃ r : Int, e = .returned (.int .i64 r) ∧ 0 ≤ r ∧ r < b) ∧ w' = w := by
  have t : -b < n.tmod b ∧ n.tmod b < b := by
    rcases Int.le_total 0 n with h | h
    · rw [Int.tmod_eq_emod_of_nonneg h]
      have := Int.emod_nonneg n (b := b) (by omega)
      have := Int.emod_lt_of_pos n (b := b) (by omega)
      omega
    · have e : n.tmod b = -((-n).tmod b) := by rw [Int.neg_tmod]; omega
      rw [e, Int.tmod_eq_emod_of_nonneg (by omega)]
      have := Int.emod_nonneg (-n) (b := b) (by omega)
      have := Int.emod_lt_of_pos (-n) (b := b) (by omega)
      omega
  have h0 : (b == 0) = false := by simp; omega
  have h1 : (b == -1) = false := by simp; omega
  obtain ⟨T, hT⟩ : ∃ T, n.tmod b = T := ⟨_, rfl⟩
  rw [hT] at t
  go_enter Tryd.func29, Tryd.ntmps29
  by_cases hneg : T < 0
  · go_wp2
    go_ret
    exact ⟨⟨_, rfl, by omega, by omega⟩, rfl⟩
  · go_wp2
    go_ret
    exact ⟨⟨_, rfl, by omega, by omega⟩, rfl⟩

set_option maxRecDepth 20000 in
theorem next_any (q m : Nat) (b : Int) (w : World) (hs : SeqOk w q m) (hm : m ≤ 1000000000) (hb : 1 ≤ b ∧ b ≤ 4611686018427387904) :
    Calls Tryd.prog 12 #[.pointer (some ⟨q, 0, none⟩), .int .i64 b] w fun e w' => (∃ r : Int, e = .returned (.int .i64 r) ∧ 0 ≤ r ∧ r < b) ∧ SeqOk w' q (m + 1) ∧ Mk q w w' := by
  obtain ⟨ad, n, cap, a, h1, h2, h3, h4, h5⟩ := hs
  have HS : Hid (Blk w q 27 #[.slice ad n cap, .int .i64 a]) := h1
  have H5 : Hid (∀ j, j < n → ∃ (x : Addr) (z : Int), ad = some x ∧ x.block < q ∧ w.cell? (x.add j) = some (.int .i64 z) ∧ -9223372036854775808 ≤ z ∧ z ≤ 9223372036854775807) := h5
  have kn : Hid (∀ z w, -9223372036854775808 ≤ z ∧ z ≤ 9223372036854775807 → Calls Tryd.prog 29 #[.int .i64 z, .int .i64 b] w fun e w' => (∃ r : Int, e = .returned (.int .i64 r) ∧ 0 ≤ r ∧ r < b) ∧ w' = w) := fun z w hz => number_any z b w hb hz
  have c0 : w.cell? ⟨q, 0, none⟩ = some (.slice ad n cap) := h1.cell 0
  have c1 : w.cell? ⟨q, 1, none⟩ = some (.int .i64 a) := h1.cell 1
  have f1 : w.frozen? ⟨q, 1, none⟩ = false := h1.frozen 1
  have HR : Hid (∀ d : Nat, SeqOk ((w.drewN d).setCell ⟨q, 1, none⟩ (.int .i64 (a + 1))) q (m + 1) ∧ Mk q w ((w.drewN d).setCell ⟨q, 1, none⟩ (.int .i64 (a + 1)))) := fun d => by
    refine ⟨⟨ad, n, cap, a + 1, ?_, by omega, h3, h4, fun j hj => ?_⟩, ?_⟩
    · exact (show Blk (w.drewN d) q 27 #[.slice ad n cap, .int .i64 a] from h1).set (j := 1) _
    · obtain ⟨x, z, e, hx, hc, hz⟩ := H5.out j hj
      exact ⟨x, z, e, hx, by rw [World.cell?_setCell_other (h := by intro e'; have := congrArg Addr.block e'; rw [add_block] at this; simp at this; omega)]; exact hc, hz⟩
    · exact ⟨rfl, rfl, rfl, by simp, fun k hk hn => (Below.heap_setCell _ _ _ _ (fun e => hn (by rw [e]))).trans rfl⟩
  unfold maxLen at h4
  clear h1 h5 HS hb
  go_enter Tryd.func12, Tryd.ntmps12
  by_cases ha : a < n
  · obtain ⟨x, z, rfl, hx, hc, hz⟩ := H5.out a ha
    have hz1 := hz.1
    have hz2 := hz.2
    clear hz
    have ha' : (a : Int) < (n : Int) := by omega
    go_wp2
    go_quiet (fail)
    go_wp2
    go_quiet (fail)
    go_wp2_with (go_at_call 29; refine (kn.out z _ ⟨hz1, hz2⟩).mono ?_; rintro e w1 ⟨⟨r, rfl, r0, r1⟩, rfl⟩)
    go_ret
    exact ⟨⟨r, rfl, r0, r1⟩, HR.out _⟩
  · have ha' : ¬ (a : Int) < (n : Int) := by omega
    go_wp2
    go_quiet (fail)
    go_wp2_with (go_at_call 29; refine (kn.out 0 _ (by omega)).mono ?_; rintro e w1 ⟨⟨r, rfl, r0, r1⟩, rfl⟩)
    go_ret
    exact ⟨⟨r, rfl, r0, r1⟩, HR.out _⟩

theorem more_any (q m : Nat) (w : World) (hs : SeqOk w q m) :
    Calls Tryd.prog 15 #[.pointer (some ⟨q, 0, none⟩)] w fun e w' => (∃ b : Bool, e = .returned (.bool b)) ∧ SeqOk w' q m ∧ Below w.heap.size w w' := by
  obtain ⟨ad, n, cap, a, h1, h2, h3, h4, h5⟩ := hs
  have HS : Hid (∀ d, SeqOk (w.drewN d) q m) := fun d => ⟨ad, n, cap, a, h1, h2, h3, h4, h5⟩
  have c0 : w.cell? ⟨q, 0, none⟩ = some (.slice ad n cap) := h1.cell 0
  have c1 : w.cell? ⟨q, 1, none⟩ = some (.int .i64 a) := h1.cell 1
  unfold maxLen at h4
  clear h1 h5
  go_enter Tryd.func15, Tryd.ntmps15
  go_wp2
  go_quiet (fail)
  go_wp2
  go_ret
  exact ⟨⟨_, rfl⟩, HS.out _, below_drewN (Below.refl _ _) _⟩

end Go.Proofs.YtbniikaebkmbhaaDoor

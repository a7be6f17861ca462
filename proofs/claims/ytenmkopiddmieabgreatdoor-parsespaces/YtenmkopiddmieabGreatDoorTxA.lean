import Derived.Deep.Cut
import Derived.Test.YtenmkopiddmieabGreatDoorJA
import Derived.Deep.CutBlock
import Derived.Test.YtenmkopiddmieabGreatDoorShelf
import Derived.Test.YtenmkopiddmieabGreatDoorWordErr0
import Derived.Test.YtenmkopiddmieabGreatDoorColorPlain
import Derived.Sort.AtCall
import Derived.Deep.RegionHeld3
/-
  Numbers taken one by one, and what is made of a few of them: walked over the program.
-/
namespace Go.Proofs.YtenmkopiddmieabGreatDoor.TX
open Go.RowKit

/-- All but one block is as it was. -/
def Mk (q : Nat) (w w' : World) : Prop := w.grownBy w' (some q)

theorem Mk.refl (q : Nat) (w : World) : Mk q w w := ⟨rfl, rfl, rfl, Nat.le_refl _, fun _ _ _ => rfl⟩
theorem Mk.trans {q : Nat} {a b c : World} (h : Mk q a b) (k : Mk q b c) : Mk q a c :=
  ⟨k.os.trans h.os, k.tape.trans h.tape, k.output.trans h.output, Nat.le_trans h.size k.size, fun i hi hn => (k.block i (Nat.lt_of_lt_of_le hi h.size) hn).trans (h.block i hi hn)⟩
theorem Mk.below {q : Nat} {w w' : World} (h : Below w.heap.size w w') : Mk q w w' := ⟨h.os, h.tape, h.output, h.size, fun k hk _ => h.block k hk⟩
theorem Mk.low {q B : Nat} {w w' : World} (h : Mk q w w') (hB : B ≤ q) (hq : q < w.heap.size) : Below B w w' := ⟨h.os, h.tape, h.output, h.size, fun k hk => h.block k (by omega) (fun e => by cases e; omega)⟩
theorem Mk.alloc {q : Nat} {w w' : World} (h : Mk q w w') (o : Obj) : Mk q w (w'.alloc o) := h.trans (Mk.below ((Below.refl _ _).alloc (Nat.le_refl _) _))
/-- A store into new memory. -/
theorem Mk.set {q : Nat} {w w' : World} (h : Mk q w w') {p : Addr} (hp : w.heap.size ≤ p.block) (v : Value) : Mk q w (w'.setCell p v) :=
  ⟨h.os, h.tape, h.output, by simpa using h.size, fun k hk hn => (Below.heap_setCell _ _ _ _ (by omega)).trans (h.block k hk hn)⟩
theorem Blk.mk {w w' : World} {b q : Nat} {t : TypeId} {a : Array Value} (h : Blk w b t a) (hm : Mk q w w') (hne : b ≠ q) : Blk w' b t a := (hm.block b h.lt (fun e => hne (by cases e; rfl))).trans h
theorem Own.mk {α : Type} {w w' : World} {B q : Nat} {t : TypeId} {size : Nat} {f : α → List Value} {ad : Option Addr} {cap : Nat} {l : List α} (h : Own w B t size f ad cap l) (hm : Mk q w w') (hq : q < B) : Own w' B t size f ad cap l :=
  h.kept fun a e => hm.block _ (h.lt a e).2 (fun e' => by have := (h.lt a e).1; cases e'; omega)

/-- Numbers that are taken one by one: where they lie, how many have been taken at most. -/
def SeqOk (w : World) (q m : Nat) : Prop := ∃ (ad : Option Addr) (n cap at' : Nat), Blk w q 27 #[.slice ad n cap, .int .i64 at'] ∧ at' ≤ m ∧ n ≤ cap ∧ cap ≤ maxLen ∧
  ∀ j, j < n → ∃ (x : Addr) (z : Int), ad = some x ∧ x.block < q ∧ w.cell? (x.add j) = some (.int .i64 z) ∧ -9223372036854775808 ≤ z ∧ z ≤ 9223372036854775807

theorem SeqOk.lt {w : World} {q m : Nat} (h : SeqOk w q m) : q < w.heap.size := by obtain ⟨_, _, _, _, h, _⟩ := h; exact h.lt
theorem SeqOk.mono {w : World} {q m m' : Nat} (h : SeqOk w q m) (hm : m ≤ m') : SeqOk w q m' := by
  obtain ⟨ad, n, cap, a, h1, h2, h3⟩ := h
  exact ⟨ad, n, cap, a, h1, by omega, h3⟩
theorem add_block (x : Addr) (j : Nat) : (x.add j).block = x.block := by unfold Addr.add; split <;> rfl
theorem SeqOk.keep {w w' : World} {q m : Nat} (h : SeqOk w q m) (hb : Below (q + 1) w w') : SeqOk w' q m := by
  obtain ⟨ad, n, cap, a, h1, h2, h3, h4, h5⟩ := h
  refine ⟨ad, n, cap, a, h1.below hb (by omega), h2, h3, h4, fun j hj => ?_⟩
  obtain ⟨x, z, e, hx, hc, hz⟩ := h5 j hj
  exact ⟨x, z, e, hx, by rw [hb.cell (p := x.add j) (by rw [add_block]; omega)]; exact hc, hz⟩
theorem SeqOk.alloc {w : World} {q m : Nat} (h : SeqOk w q m) (o : Obj) : SeqOk (w.alloc o) q m := h.keep ((Below.refl _ _).alloc (by have := h.lt; omega) o)
theorem SeqOk.set {w : World} {q m : Nat} (h : SeqOk w q m) {p : Addr} (hp : q < p.block) (v : Value) : SeqOk (w.setCell p v) q m := h.keep ((Below.refl _ _).setCell hp v)

theorem number_any (n b : Int) (w : World) (hb : 1 ≤ b ∧ b ≤ 4611686018427387904) (hn : -9223372036854775808 ≤ n ∧ n ≤ 9223372036854775807) :
    Calls Tryz.prog 19 #[.int .i64 n, .int .i64 b] w fun e w' => (∃ r : Int, e = .returned (.int .i64 r) ∧ 0 ≤ r ∧ r < b) ∧ w' = w := by
  have t : -b < n.tmod b ∧ n.tmod b < b := by
    rcases Int.le_total 0 n with h | h
    · rw [Int.tmod_eq_emod_of_nonneg h]
      have := Int.emod_nonneg n (b := b) (by omega)
      have := Int.emod_lt_of_pos n (b := b) (by omega)
      omega
    · have e : n.tmod b = -((-n).tmod b) := by rw [Int.neg_tmod]; omega
      rw [e, Int.tmod_eq_emod_of_nonneg (by omega)]
      have := Int.emod_nonneg (-n) (b := b) (by omega)
      have := Int.emod_lt_of_pos (-n) (b := b) (by omega)
      omega
  have h0 : (b == 0) = false := by simp; omega
  have h1 : (b == -1) = false := by simp; omega
  obtain ⟨T, hT⟩ : ∃ T, n.tmod b = T := ⟨_, rfl⟩
  rw [hT] at t
  go_enter Tryz.func19, Tryz.ntmps19
  by_cases hneg : T < 0
  · go_wp2
    go_ret
    exact ⟨⟨_, rfl, by omega, by omega⟩, rfl⟩
  · go_wp2
    go_ret
    exact ⟨⟨_, rfl, by omega, by omega⟩, rfl⟩

set_option maxRecDepth 20000 in
theorem next_any (q m : Nat) (b : Int) (w : World) (hs : SeqOk w q m) (hm : m ≤ 1000000000) (hb : 1 ≤ b ∧ b ≤ 4611686018427387904) :
    Calls Tryz.prog 8 #[.pointer (some ⟨q, 0, none⟩), .int .i64 b] w fun e w' => (∃ r : Int, e = .returned (.int .i64 r) ∧ 0 ≤ r ∧ r < b) ∧ SeqOk w' q (m + 1) ∧ Mk q w w' := by
  obtain ⟨ad, n, cap, a, h1, h2, h3, h4, h5⟩ := hs
  have HS : Hid (Blk w q 27 #[.slice ad n cap, .int .i64 a]) := h1
  have H5 : Hid (∀ j, j < n → ∃ (x : Addr) (z : Int), ad = some x ∧ x.block < q ∧ w.cell? (x.add j) = some (.int .i64 z) ∧ -9223372036854775808 ≤ z ∧ z ≤ 9223372036854775807) := h5
  have kn : Hid (∀ z w, -9223372036854775808 ≤ z ∧ z ≤ 9223372036854775807 → Calls Tryz.prog 19 #[.int .i64 z, .int .i64 b] w fun e w' => (∃ r : Int, e = .returned (.int .i64 r) ∧ 0 ≤ r ∧ r < b) ∧ w' = w) := fun z w hz => number_any z b w hb hz
  have c0 : w.cell? ⟨q, 0, none⟩ = some (.slice ad n cap) := h1.cell 0
  have c1 : w.cell? ⟨q, 1, none⟩ = some (.int .i64 a) := h1.cell 1
  have f1 : w.frozen? ⟨q, 1, none⟩ = false := h1.frozen 1
  have HR : Hid (∀ d : Nat, SeqOk ((w.drewN d).setCell ⟨q, 1, none⟩ (.int .i64 (a + 1))) q (m + 1) ∧ Mk q w ((w.drewN d).setCell ⟨q, 1, none⟩ (.int .i64 (a + 1)))) := fun d => by
    refine ⟨⟨ad, n, cap, a + 1, ?_, by omega, h3, h4, fun j hj => ?_⟩, ?_⟩
    · exact (show Blk (w.drewN d) q 27 #[.slice ad n cap, .int .i64 a] from h1).set (j := 1) _
    · obtain ⟨x, z, e, hx, hc, hz⟩ := H5.out j hj
      exact ⟨x, z, e, hx, by rw [World.cell?_setCell_other (h := by intro e'; have := congrArg Addr.block e'; rw [add_block] at this; simp at this; omega)]; exact hc, hz⟩
    · exact ⟨rfl, rfl, rfl, by simp, fun k hk hn => (Below.heap_setCell _ _ _ _ (fun e => hn (by rw [e]))).trans rfl⟩
  unfold maxLen at h4
  clear h1 h5 HS hb
  go_enter Tryz.func8, Tryz.ntmps8
  by_cases ha : a < n
  · obtain ⟨x, z, rfl, hx, hc, hz⟩ := H5.out a ha
    have hz1 := hz.1
    have hz2 := hz.2
    clear hz
    have ha' : (a : Int) < (n : Int) := by omega
    go_wp2
    go_quiet (fail)
    go_wp2
    go_quiet (fail)
    go_wp2_with (go_at_call 19; refine (kn.out z _ ⟨hz1, hz2⟩).mono ?_; rintro e w1 ⟨⟨r, rfl, r0, r1⟩, rfl⟩)
    go_ret
    exact ⟨⟨r, rfl, r0, r1⟩, HR.out _⟩
  · have ha' : ¬ (a : Int) < (n : Int) := by omega
    go_wp2
    go_quiet (fail)
    go_wp2_with (go_at_call 19; refine (kn.out 0 _ (by omega)).mono ?_; rintro e w1 ⟨⟨r, rfl, r0, r1⟩, rfl⟩)
    go_ret
    exact ⟨⟨r, rfl, r0, r1⟩, HR.out _⟩

theorem more_any (q m : Nat) (w : World) (hs : SeqOk w q m) :
    Calls Tryz.prog 11 #[.pointer (some ⟨q, 0, none⟩)] w fun e w' => (∃ b : Bool, e = .returned (.bool b)) ∧ SeqOk w' q m ∧ Below w.heap.size w w' := by
  obtain ⟨ad, n, cap, a, h1, h2, h3, h4, h5⟩ := hs
  have HS : Hid (∀ d, SeqOk (w.drewN d) q m) := fun d => ⟨ad, n, cap, a, h1, h2, h3, h4, h5⟩
  have c0 : w.cell? ⟨q, 0, none⟩ = some (.slice ad n cap) := h1.cell 0
  have c1 : w.cell? ⟨q, 1, none⟩ = some (.int .i64 a) := h1.cell 1
  unfold maxLen at h4
  clear h1 h5
  go_enter Tryz.func11, Tryz.ntmps11
  go_wp2
  go_quiet (fail)
  go_wp2
  go_ret
  exact ⟨⟨_, rfl⟩, HS.out _, below_drewN (Below.refl _ _) _⟩

end Go.Proofs.YtenmkopiddmieabGreatDoor.TX

/-
  Texts made of few numbers: small numbers as text: walked over the program.
-/
namespace Go.Proofs.YtenmkopiddmieabGreatDoor.TX
open Go.RowKit

theorem dec_len (i : Nat) (h : i < 100) : (Lib.decDigits i).length ≤ 2 := by
  have : ∀ i : Fin 100, (Lib.decDigits i.val).length ≤ 2 := by decide +kernel
  exact this ⟨i, h⟩

theorem itoa_any (n : Int) (h0 : 0 ≤ n) (h1 : n < 100) (w : World) :
    Calls Tryz.prog 9 #[.int .i64 n] w fun e w' => ∃ T : ByteArray, e = .returned (.string T) ∧ T.size ≤ 2 ∧ w' = w := by
  obtain ⟨i, rfl⟩ := Int.eq_ofNat_of_zero_le h0
  refine (Tryz.strconv_Itoa_small i (by omega) w).mono ?_
  rintro e w' ⟨rfl, rfl⟩
  exact ⟨_, rfl, by rw [size_mk]; exact dec_len i (by omega), rfl⟩

end Go.Proofs.YtenmkopiddmieabGreatDoor.TX

/-
  Texts made of few numbers, no longer than so: a value, a color, walked over the program.
-/
namespace Go.Proofs.YtenmkopiddmieabGreatDoor.TX
open Go.RowKit

/-- Numbers are taken out of block q; all else that was there at w0 is as it was. -/
def St (w0 : World) (q m : Nat) (W : World) : Prop := SeqOk W q m ∧ Mk q w0 W

theorem St.lt {w0 W : World} {q m : Nat} (h : Hid (St w0 q m W)) : q < W.heap.size := h.out.1.lt
theorem St.alloc {w0 W : World} {q m : Nat} (h : Hid (St w0 q m W)) (o : Obj) : Hid (St w0 q m (W.alloc o)) := ⟨SeqOk.alloc h.out.1 o, Mk.alloc h.out.2 o⟩
theorem St.more {w0 W : World} {q m m' : Nat} (h : Hid (St w0 q m W)) (hm : m ≤ m') : Hid (St w0 q m' W) := ⟨SeqOk.mono h.out.1 hm, h.out.2⟩
theorem St.below {w0 W W' : World} {q m : Nat} (h : Hid (St w0 q m W)) (hb : Below W.heap.size W W') : Hid (St w0 q m W') :=
  ⟨SeqOk.keep h.out.1 ⟨hb.os, hb.tape, hb.output, Nat.le_trans (by have := h.out.1.lt; omega) hb.size, fun k hk => hb.block k (by have := h.out.1.lt; omega)⟩, Mk.trans h.out.2 (Mk.below hb)⟩

theorem next_st (w0 : World) (q m : Nat) (b : Int) (W : World) (h : Hid (St w0 q m W)) (hm : m ≤ 1000000) (hb : 1 ≤ b) (hb' : b ≤ 1000) :
    Calls Tryz.prog 8 #[.pointer (some ⟨q, 0, none⟩), .int .i64 b] W fun e w' => ∃ r : Nat, e = .returned (.int .i64 (r : Int)) ∧ (r : Int) < b ∧ Hid (Mk q W w') ∧ Hid (St w0 q (m + 1) w') := by
  refine (next_any q m b W h.out.1 (by omega) ⟨hb, by omega⟩).mono ?_
  rintro e w' ⟨⟨r, rfl, r0, r1⟩, hs, hk⟩
  obtain ⟨n, rfl⟩ := Int.eq_ofNat_of_zero_le r0
  exact ⟨n, rfl, r1, hk, hs, Mk.trans h.out.2 hk⟩

def okT (L : Nat) (T : Array Value) : Bool := T.toList.all fun v => match v with | .string S => decide (S.size ≤ L) | _ => false
theorem okT_at {L : Nat} {T : Array Value} (h : okT L T = true) (k : Nat) (hk : k < T.size) : ∃ S : ByteArray, T[k]? = some (.string S) ∧ S.size ≤ L := by
  have h1 := List.all_eq_true.1 h T[k] (by simp)
  cases hv : T[k] with
  | string S =>
    rw [hv] at h1
    exact ⟨S, by rw [Array.getElem?_eq_getElem hk, hv], of_decide_eq_true h1⟩
  | _ => rw [hv] at h1; cases h1

theorem cells_of {q : Nat} {W w1 : World} {T : Array Value} {t : TypeId} {fr : Nat × Nat} (n L : Nat) (hm : Hid (Mk q (W.alloc (.cells T t fr)) w1)) (hqW : q < W.heap.size) (hn : T.size = n) (hT : okT L T = true) :
    Hid (∀ k : Nat, (k : Int) < (n : Int) → ∃ S : ByteArray, S.size ≤ L ∧ w1.cell? ⟨W.heap.size, k, none⟩ = some (.string S)) := fun k hk => by
  obtain ⟨S, h1, h2⟩ := okT_at hT k (by omega)
  refine ⟨S, h2, ?_⟩
  have hb : w1.heap[W.heap.size]? = (W.alloc (.cells T t fr)).heap[W.heap.size]? := hm.out.block _ (by simp) (fun e => by cases e; omega)
  rw [World.cell?_of_block (a := ⟨W.heap.size, k, none⟩) hb, cell_new]
  exact h1
theorem cells_lt {q : Nat} {W w1 : World} {o : Obj} (hm : Hid (Mk q (W.alloc o) w1)) : W.heap.size < w1.heap.size := Nat.lt_of_lt_of_le (by simp) (show (W.alloc o).heap.size ≤ w1.heap.size from World.grownBy.size hm.out)
theorem cells_on {q b n L : Nat} {w1 w2 : World} (h : Hid (∀ k : Nat, (k : Int) < (n : Int) → ∃ S : ByteArray, S.size ≤ L ∧ w1.cell? ⟨b, k, none⟩ = some (.string S))) (hm : Hid (Mk q w1 w2)) (hq : q ≠ b) (hb : b < w1.heap.size) :
    Hid (∀ k : Nat, (k : Int) < (n : Int) → ∃ S : ByteArray, S.size ≤ L ∧ w2.cell? ⟨b, k, none⟩ = some (.string S)) := fun k hk => by
  obtain ⟨S, h1, h2⟩ := h.out k hk
  refine ⟨S, h1, ?_⟩
  rw [World.cell?_of_block (a := ⟨b, k, none⟩) (hm.out.block b hb (fun e => by cases e; exact hq rfl))]
  exact h2
theorem cells_new (W : World) (T : Array Value) (t : TypeId) (n L : Nat) (hn : T.size = n) (hT : okT L T = true) (k : Nat) (hk : (k : Int) < (n : Int)) : ∃ S : ByteArray, S.size ≤ L ∧ (W.alloc (.cells T t)).cell? ⟨W.heap.size, k, none⟩ = some (.string S) := by
  obtain ⟨S, h1, h2⟩ := okT_at hT k (by omega)
  exact ⟨S, h2, by rw [cell_new]; exact h1⟩
theorem min_nat (a b : Nat) : ∃ r : Nat, min (a : Int) (b : Int) = (r : Int) ∧ r ≤ a ∧ r ≤ b := ⟨min a b, by omega, by omega, by omega⟩

theorem one_size (c : UInt8) : (⟨#[c]⟩ : ByteArray).size = 1 := rfl

set_option maxRecDepth 20000 in
set_option maxHeartbeats 1000000 in
theorem val_st (w0 : World) (q m far : Nat) (W : World) (h : Hid (St w0 q m W)) (hm : m ≤ 900000) (hf : far ≤ 24) :
    Calls Tryz.prog 13 #[.pointer (some ⟨q, 0, none⟩), .int .i64 far] W fun e w' => ∃ S : ByteArray, e = .returned (.string S) ∧ S.size ≤ 12 ∧ Hid (St w0 q (m + 3) w') := by
  have k8 := Lib.hid (next_st w0 q m 8 W h (by omega) (by omega) (by omega))
  have ki : Hid (∀ r : Nat, r < 100 → ∀ W, Calls Tryz.prog 9 #[.int .i64 r] W fun e w' => ∃ T : ByteArray, e = .returned (.string T) ∧ T.size ≤ 2 ∧ w' = W) := fun r hr W => itoa_any r (by omega) (by omega) W
  go_enter Tryz.func13, Tryz.ntmps13
  go_wp2_with (first
    | (have v2 := u2; go_at_call 8; with_reducible refine (next_st w0 q (m + 2) 5 _ (St.alloc h2 _) (by omega) (by omega) (by omega)).mono ?_; rintro e w4 ⟨r5, rfl, hr5, hk4, h4⟩; obtain ⟨S, hS, hc⟩ := (cells_of 5 6 hk4 (St.lt h2) rfl rfl).out r5 (by omega))
    | (have v1 := u1; go_at_call 8; with_reducible refine (next_st w0 q (m + 1) 3 _ (St.alloc h1 _) (by omega) (by omega) (by omega)).mono ?_; rintro e w4 ⟨r3, rfl, hr3, hk4, h4⟩; obtain ⟨S, hS, hc⟩ := (cells_of 3 6 hk4 (St.lt h1) rfl rfl).out r3 (by omega))
    | (have v1 := u1; go_at_call 8; with_reducible refine (next_st w0 q (m + 1) ((far : Int) + 1) _ h1 (by omega) (by omega) (by omega)).mono ?_; rintro e w2 ⟨r, rfl, hr, hk2, h2⟩; have u2 : True := trivial)
    | (go_at_call 8; refine k8.out.mono ?_; rintro e w1 ⟨n, rfl, hn, hk1, h1⟩; have u1 : True := trivial)
    | (go_at_call 9; refine (ki.out r (by omega) _).mono ?_; rintro e w3 ⟨T, rfl, hT, rfl⟩))
  · go_ret
    exact ⟨S, rfl, by omega, St.more h4 (by omega)⟩
  · go_ret
    exact ⟨_, rfl, by rw [ByteArray.size_append, one_size]; omega, St.more h2 (by omega)⟩
  · go_ret
    exact ⟨_, rfl, by rw [ByteArray.size_append, ByteArray.size_append, one_size]; omega, St.more h4 (by omega)⟩
  · go_ret
    exact ⟨_, rfl, by omega, St.more h2 (by omega)⟩

end Go.Proofs.YtenmkopiddmieabGreatDoor.TX

/-
  The document's text of a color; a color made of a number; a reference made of few: walked over the statements' helpers.
-/
namespace Go.Proofs.YtenmkopiddmieabGreatDoor.TX
open Go.RowKit

theorem digits_at (n : Nat) (h : n < 16) (h' : n < (ByteArray.mk #[48, 49, 50, 51, 52, 53, 54, 55, 56, 57, 97, 98, 99, 100, 101, 102]).size) :
    ((ByteArray.mk #[48, 49, 50, 51, 52, 53, 54, 55, 56, 57, 97, 98, 99, 100, 101, 102])[n]'h').toNat = CP.hx n := by
  have : ∀ i : Fin 16, ((ByteArray.mk #[48, 49, 50, 51, 52, 53, 54, 55, 56, 57, 97, 98, 99, 100, 101, 102])[i.val]'(i.2)).toNat = CP.hx i.val := by decide +kernel
  exact this ⟨n, h⟩

theorem conv_str {w : World} {ad : Addr} {cap : Nat} {l : List Nat} (h256 : ∀ c ∈ l, c < 256) (hc : ∀ j (hj : j < l.length), w.cell? (ad.add j) = some (.int .u8 (l[j] : Int))) :
    (convert 28 9 (.slice (some ad) l.length cap)).run Tryz.prog w = .ok (.string (CP.str l)) w := by
  have := run_convert_bytes_back (P := Tryz.prog) w 28 9 5 ad cap (l.map UInt8.ofNat) Tryz.underlying28 Tryz.underlying5 Tryz.underlying9 (fun j hj => by
    have hj' : j < l.length := by simpa using hj
    rw [hc j hj']
    simp [Nat.mod_eq_of_lt (h256 l[j] (List.getElem_mem _))])
  rw [List.length_map] at this
  exact this

def Four (w : World) (b : Nat) (v0 v1 v2 v3 : Value) : Prop := b < w.heap.size ∧ w.cell? ⟨b, 0, none⟩ = some v0 ∧ w.cell? ⟨b, 1, none⟩ = some v1 ∧ w.cell? ⟨b, 2, none⟩ = some v2 ∧ w.cell? ⟨b, 3, none⟩ = some v3

theorem Four.below {w w' : World} {b : Nat} {v0 v1 v2 v3 : Value} (h : Four w b v0 v1 v2 v3) (hb : Below w.heap.size w w') : Four w' b v0 v1 v2 v3 := by
  obtain ⟨hl, h0, h1, h2, h3⟩ := h
  exact ⟨Nat.lt_of_lt_of_le hl hb.size, (hb.cell (p := ⟨b, 0, none⟩) hl).trans h0, (hb.cell (p := ⟨b, 1, none⟩) hl).trans h1, (hb.cell (p := ⟨b, 2, none⟩) hl).trans h2, (hb.cell (p := ⟨b, 3, none⟩) hl).trans h3⟩

theorem four_new (w : World) (v0 v1 v2 v3 : Value) (t : TypeId) (fr : Nat × Nat) : Four (w.alloc (.cells #[v0, v1, v2, v3] t fr)) w.heap.size v0 v1 v2 v3 := by
  refine ⟨by simp, ?_, ?_, ?_, ?_⟩ <;> (rw [World.cell?_alloc_mark]; rfl)



theorem conv_two (w : World) (x y : Nat) (hx : x < 256) (hy : y < 256) (cap : Nat) : (convert 28 9 (.slice (some ⟨w.heap.size, 0, none⟩) 2 cap)).run Tryz.prog (w.alloc (.cells #[.int .u8 x, .int .u8 y] 5)).drew = .ok (.string (CP.str [x, y])) (w.alloc (.cells #[.int .u8 x, .int .u8 y] 5)).drew := by
  refine conv_str (l := [x, y]) (by intro c hc; simp only [List.mem_cons, List.not_mem_nil, or_false] at hc; omega) (fun j hj => ?_)
  have : ∀ j, (w.alloc (.cells #[.int .u8 x, .int .u8 y] 5)).drew.cell? ⟨w.heap.size, j, none⟩ = (#[Value.int .u8 x, .int .u8 y])[j]? := fun j => World.cell?_alloc_mark w _ _ _ j
  rw [Addr.add_lit, Nat.zero_add, this]
  match j, hj with
  | 0, _ => rfl
  | 1, _ => rfl

set_option maxRecDepth 20000 in
set_option maxHeartbeats 1000000 in
theorem hex_any (p : Nat) (w : World) (hp : p < 256) : Calls Tryz.prog 34 #[.int .u8 p] w fun e w' => e = .returned (.string (CP.str (CP.two p))) ∧ Below w.heap.size w w' := by
  have d1 := digits_at (p / 16) (by omega)
  have d2 := digits_at (p % 16) (by omega)
  have x256 := CP.hx_lt (p / 16) (by omega)
  have y256 := CP.hx_lt (p % 16) (by omega)
  obtain ⟨x, hx⟩ : ∃ x, CP.hx (p / 16) = x := ⟨_, rfl⟩
  obtain ⟨y, hy⟩ : ∃ y, CP.hx (p % 16) = y := ⟨_, rfl⟩
  have HT : Hid (CP.two p = [x, y]) := by show _ = _; rw [CP.two, hx, hy]
  rw [hx] at d1 x256
  rw [hy] at d2 y256
  clear hx hy
  obtain ⟨q, hq⟩ : ∃ q, p % 16 = q := ⟨_, rfl⟩
  have hq16 : q < 16 := by omega
  rw [hq] at d2
  obtain ⟨r, hr⟩ : ∃ r, p / 16 = r := ⟨_, rfl⟩
  have hr16 : r < 16 := by omega
  rw [hr] at d1
  have hr' : (p : Int) / 16 = (r : Int) := by omega
  have hq' : (p : Int) % 16 = (q : Int) := by omega
  have hr2 : (p : Int).tdiv 16 = (r : Int) := by rw [Int.tdiv_eq_ediv_of_nonneg (by omega)]; exact hr'
  have hq2 : (p : Int).tmod 16 = (q : Int) := by rw [Int.tmod_eq_emod_of_nonneg (by omega)]; exact hq'
  clear hq hr
  have hri : (r : Int) < 16 := by omega
  have hqi : (q : Int) < 16 := by omega
  have hcv := conv_two w x y x256 y256 2
  go_enter Tryz.func34, Tryz.ntmps34
  go_wp2
  go_region
  all_goals go_wp2
  all_goals
    go_ret
    rw [HT.out]
    exact ⟨rfl, ((Below.refl _ _).alloc (Nat.le_refl _) _).drew⟩

theorem four_three {W : World} {A : Nat} {v0 v1 v2 v3 : Value} (h : Four W A v0 v1 v2 v3) : W.cell? ⟨A, 0, none⟩ = some v0 ∧ W.cell? ⟨A, 1, none⟩ = some v1 ∧ W.cell? ⟨A, 2, none⟩ = some v2 := ⟨h.2.1, h.2.2.1, h.2.2.2.1⟩

theorem str_join (r g b : Nat) : (⟨#[35]⟩ : ByteArray) ++ CP.str (CP.two r) ++ CP.str (CP.two g) ++ CP.str (CP.two b) = CP.str (CP.text r g b 255) := by
  apply ByteArray.ext
  simp [ByteArray.data_append, CP.str, CP.text]

theorem str_join4 (r g b a : Nat) (h : a ≠ 255) : CP.str (CP.text r g b 255) ++ CP.str (CP.two a) = CP.str (CP.text r g b a) := by
  apply ByteArray.ext
  simp [ByteArray.data_append, CP.str, CP.text, h]

set_option maxRecDepth 20000 in
set_option maxHeartbeats 1000000 in
theorem rcolor_any (r g b a : Nat) (w : World) (hr : r < 256) (hg : g < 256) (hb : b < 256) (ha : a < 256) :
    Calls Tryz.prog 21 #[.agg #[.int .u8 r, .int .u8 g, .int .u8 b, .int .u8 a]] w fun e w' => e = .returned (.string (CP.str (CP.text r g b a))) ∧ Below w.heap.size w w' := by
  have kr : Hid (∀ w, Calls Tryz.prog 34 #[.int .u8 r] w fun e w' => e = .returned (.string (CP.str (CP.two r))) ∧ Below w.heap.size w w') := fun w => hex_any r w hr
  have kg : Hid (∀ w, Calls Tryz.prog 34 #[.int .u8 g] w fun e w' => e = .returned (.string (CP.str (CP.two g))) ∧ Below w.heap.size w w') := fun w => hex_any g w hg
  have kb : Hid (∀ w, Calls Tryz.prog 34 #[.int .u8 b] w fun e w' => e = .returned (.string (CP.str (CP.two b))) ∧ Below w.heap.size w w') := fun w => hex_any b w hb
  have ka : Hid (∀ w, Calls Tryz.prog 34 #[.int .u8 a] w fun e w' => e = .returned (.string (CP.str (CP.two a))) ∧ Below w.heap.size w w') := fun w => hex_any a w ha
  have J3 : (⟨#[35]⟩ : ByteArray) ++ CP.str (CP.two r) ++ CP.str (CP.two g) ++ CP.str (CP.two b) = CP.str (CP.text r g b 255) := str_join r g b
  have J4 : Hid (a ≠ 255 → CP.str (CP.text r g b 255) ++ CP.str (CP.two a) = CP.str (CP.text r g b a)) := str_join4 r g b a
  have sr : (CP.str (CP.two r)).size = 2 := CP.str_size _
  have sg : (CP.str (CP.two g)).size = 2 := CP.str_size _
  have sb : (CP.str (CP.two b)).size = 2 := CP.str_size _
  have sa : (CP.str (CP.two a)).size = 2 := CP.str_size _
  have s3 : (CP.str (CP.text r g b 255)).size = 7 := by rw [CP.str_size, CP.text_len]; rfl
  obtain ⟨X, hX⟩ : ∃ X, CP.str (CP.two r) = X := ⟨_, rfl⟩
  obtain ⟨Y, hY⟩ : ∃ X, CP.str (CP.two g) = X := ⟨_, rfl⟩
  obtain ⟨Z, hZ⟩ : ∃ X, CP.str (CP.two b) = X := ⟨_, rfl⟩
  obtain ⟨U, hU⟩ : ∃ X, CP.str (CP.two a) = X := ⟨_, rfl⟩
  obtain ⟨T, hT⟩ : ∃ X, CP.str (CP.text r g b 255) = X := ⟨_, rfl⟩
  have HT : Hid (CP.str (CP.text r g b 255) = T) := hT
  rw [hX] at kr J3 sr
  rw [hY] at kg J3 sg
  rw [hZ] at kb J3 sb
  rw [hU] at ka J4 sa
  rw [hT] at J3 J4 s3
  clear hX hY hZ hU hT
  go_enter Tryz.func21, Tryz.ntmps21
  go_wp2
  have F0 : Hid (Four (w.alloc (.cells #[.int .u8 r, .int .u8 g, .int .u8 b, .int .u8 a] 56)) w.heap.size (.int .u8 r) (.int .u8 g) (.int .u8 b) (.int .u8 a)) := four_new w _ _ _ _ _ _
  go_region_held3 (fun W => W.cell? ⟨w.heap.size, 0, none⟩ = some (.int .u8 r) ∧ W.cell? ⟨w.heap.size, 1, none⟩ = some (.int .u8 g) ∧ W.cell? ⟨w.heap.size, 2, none⟩ = some (.int .u8 b))
    (first | exact four_three (F0.out.below B3.out) | exact four_three (F0.out.below B2.out) | exact four_three (F0.out.below B1.out) | exact four_three F0.out)
    (first
    | (go_at_call_has 34 (Value.int IntKind.u8 (b : Int)); refine (kb.out w2).mono ?_; rintro e w3 ⟨rfl, hb3⟩; have B3 : Hid (Below (w.alloc (.cells #[.int .u8 r, .int .u8 g, .int .u8 b, .int .u8 a] 56)).heap.size (w.alloc (.cells #[.int .u8 r, .int .u8 g, .int .u8 b, .int .u8 a] 56)) w3) := B2.out.trans (hb3.mono B2.out.size); clear hb3)
    | (go_at_call_has 34 (Value.int IntKind.u8 (g : Int)); refine (kg.out w1).mono ?_; rintro e w2 ⟨rfl, hb2⟩; have B2 : Hid (Below (w.alloc (.cells #[.int .u8 r, .int .u8 g, .int .u8 b, .int .u8 a] 56)).heap.size (w.alloc (.cells #[.int .u8 r, .int .u8 g, .int .u8 b, .int .u8 a] 56)) w2) := B1.out.trans (hb2.mono B1.out.size); clear hb2)
    | (go_at_call_has 34 (Value.int IntKind.u8 (r : Int)); refine (kr.out _).mono ?_; rintro e w1 ⟨rfl, hb1⟩; have B1 : Hid (Below (w.alloc (.cells #[.int .u8 r, .int .u8 g, .int .u8 b, .int .u8 a] 56)).heap.size (w.alloc (.cells #[.int .u8 r, .int .u8 g, .int .u8 b, .int .u8 a] 56)) w1) := below_of_drew hb1; clear hb1))
  obtain ⟨_, _, _, _, a3⟩ := F0.out.below B3.out
  have B : Hid (Below w.heap.size w w3) := ((Below.refl _ _).alloc (Nat.le_refl _) _).trans (B3.out.mono (by simp))
  clear J3
  by_cases h255 : a = 255
  · have e255 : ((a : Int) == 255) = true := by simp; omega
    have H255 : Hid (a = 255) := h255
    clear h255
    go_wp2
    go_ret
    exact ⟨by rw [H255.out, HT.out]; rfl, B.out⟩
  · have e255 : ((a : Int) == 255) = false := by simp; omega
    have J := J4.out h255
    go_wp2_with (go_at_call 34; refine (ka.out w3).mono ?_; rintro e w4 ⟨rfl, hb4⟩)
    go_ret
    exact ⟨rfl, B.out.trans (hb4.mono B.out.size)⟩

def table : Array Value := #[.int .u8 255, .int .u8 0, .int .u8 0, .int .u8 255, .int .u8 0, .int .u8 128, .int .u8 0, .int .u8 255, .int .u8 0, .int .u8 0, .int .u8 200, .int .u8 100, .int .u8 10, .int .u8 20, .int .u8 30, .int .u8 1, .int .u8 255, .int .u8 255, .int .u8 255, .int .u8 255, .int .u8 0, .int .u8 0, .int .u8 0, .int .u8 0, .int .u8 7, .int .u8 0, .int .u8 0, .int .u8 254]


theorem table_at (k : Nat) (hk : k < 7) : ∃ r g b a : Nat, (r < 256 ∧ g < 256 ∧ b < 256 ∧ a < 256) ∧ table[k * 4]? = some (.int .u8 r) ∧ table[k * 4 + 1]? = some (.int .u8 g) ∧ table[k * 4 + 2]? = some (.int .u8 b) ∧ table[k * 4 + 3]? = some (.int .u8 a) := by
  have : k = 0 ∨ k = 1 ∨ k = 2 ∨ k = 3 ∨ k = 4 ∨ k = 5 ∨ k = 6 := by omega
  rcases this with rfl | rfl | rfl | rfl | rfl | rfl | rfl
  · exact ⟨255, 0, 0, 255, by decide, rfl, rfl, rfl, rfl⟩
  · exact ⟨0, 128, 0, 255, by decide, rfl, rfl, rfl, rfl⟩
  · exact ⟨0, 0, 200, 100, by decide, rfl, rfl, rfl, rfl⟩
  · exact ⟨10, 20, 30, 1, by decide, rfl, rfl, rfl, rfl⟩
  · exact ⟨255, 255, 255, 255, by decide, rfl, rfl, rfl, rfl⟩
  · exact ⟨0, 0, 0, 0, by decide, rfl, rfl, rfl, rfl⟩
  · exact ⟨7, 0, 0, 254, by decide, rfl, rfl, rfl, rfl⟩

theorem cells_four {w : World} {b : Nat} {a0 a1 a2 a3 : Value} {t : TypeId} (h : Blk w b t #[a0, a1, a2, a3]) : (w.cell? ⟨b, 0, none⟩ = some a0 ∧ w.cell? ⟨b, 1, none⟩ = some a1 ∧ w.cell? ⟨b, 2, none⟩ = some a2 ∧ w.cell? ⟨b, 3, none⟩ = some a3) ∧ w.frozen? ⟨b, 0, none⟩ = false ∧ w.frozen? ⟨b, 1, none⟩ = false ∧ w.frozen? ⟨b, 2, none⟩ = false ∧ w.frozen? ⟨b, 3, none⟩ = false :=
  ⟨⟨h.cell 0, h.cell 1, h.cell 2, h.cell 3⟩, h.frozen 0, h.frozen 1, h.frozen 2, h.frozen 3⟩
theorem cells_two {w : World} {b : Nat} {a0 a1 : Value} {t : TypeId} (h : Blk w b t #[a0, a1]) : (w.cell? ⟨b, 0, none⟩ = some a0 ∧ w.cell? ⟨b, 1, none⟩ = some a1) ∧ w.frozen? ⟨b, 0, none⟩ = false ∧ w.frozen? ⟨b, 1, none⟩ = false :=
  ⟨⟨h.cell 0, h.cell 1⟩, h.frozen 0, h.frozen 1⟩

set_option maxRecDepth 20000 in
set_option maxHeartbeats 1000000 in
theorem color_any (q m : Nat) (w : World) (hs : SeqOk w q m) (hm : m ≤ 1000000) :
    Calls Tryz.prog 22 #[.pointer (some ⟨q, 0, none⟩)] w fun e w' => (∃ r g b a : Nat, e = .returned (.agg #[.int .u8 r, .int .u8 g, .int .u8 b, .int .u8 a]) ∧ Hid (r < 256 ∧ g < 256 ∧ b < 256 ∧ a < 256)) ∧ SeqOk w' q (m + 1) ∧ Mk q w w' := by
  have HS : Hid (SeqOk w q m) := hs
  have hq := hs.lt
  have kn : Hid (∀ W, SeqOk W q m → Calls Tryz.prog 8 #[.pointer (some ⟨q, 0, none⟩), .int .i64 7] W fun e w' => (∃ r : Int, e = .returned (.int .i64 r) ∧ 0 ≤ r ∧ r < 7) ∧ SeqOk w' q (m + 1) ∧ Mk q W w') := fun W h => next_any q m 7 W h (by omega) (by omega)
  clear hs
  go_enter Tryz.func22, Tryz.ntmps22
  go_wp2_with (go_at_call 8; refine (kn.out _ ((HS.out.alloc _).alloc _)).mono ?_; rintro e w1 ⟨⟨r, rfl, r0, r1⟩, hs1, hm1⟩
               obtain ⟨k, rfl⟩ : ∃ k : Nat, r = (k : Int) := ⟨r.toNat, by omega⟩
               have hk : k < 7 := by omega
               obtain ⟨cr, cg, cb, ca, hin, t0, t1, t2, t3⟩ := table_at k hk
               have H1 : Hid (SeqOk w1 q (m + 1)) := hs1
               have H2 : Hid (Mk q w w1) := (((Mk.refl q w).alloc _).alloc _).trans hm1
               have H3 : Hid (cr < 256 ∧ cg < 256 ∧ cb < 256 ∧ ca < 256) := hin
               have hT : Blk w1 (w.heap.size + 1) 56 table := by
                 have h := blk_new (w.alloc (.cells #[.int .u8 0, .int .u8 0, .int .u8 0, .int .u8 0] 56)) 56 table
                 rw [size_alloc] at h
                 exact Blk.mk h hm1 (by omega)
               have hR : Blk w1 w.heap.size 56 #[.int .u8 0, .int .u8 0, .int .u8 0, .int .u8 0] := Blk.mk ((blk_new w 56 #[.int .u8 0, .int .u8 0, .int .u8 0, .int .u8 0]).alloc _) hm1 (by omega)
               obtain ⟨⟨p0, p1, p2, p3⟩, f0, f1, f2, f3⟩ := cells_four hR
               have d0 := (hT.cell (k * 4)).trans t0
               have d1 := (hT.cell (k * 4 + 1)).trans t1
               have d2 := (hT.cell (k * 4 + 2)).trans t2
               have d3 := (hT.cell (k * 4 + 3)).trans t3
               have hz : w.heap.size + 1 < w1.heap.size := hT.lt
               clear t0 t1 t2 t3 hs1 hm1 hin hT hR)
  refine bodyPost_ret (v := .agg #[.int .u8 cr, .int .u8 cg, .int .u8 cb, .int .u8 ca]) (by simp [results, Tryz.results22, go_sem, p0, p1, p2, p3]) rfl ⟨⟨cr, cg, cb, ca, rfl, H3⟩, ?_, ?_⟩
  · exact (((H1.out.set hq _).set hq _).set hq _).set hq _
  · exact (((H2.out.set (Nat.le_refl _) _).set (Nat.le_refl _) _).set (Nat.le_refl _) _).set (Nat.le_refl _) _


set_option maxRecDepth 20000 in
set_option maxHeartbeats 1000000 in
theorem ref_st (w0 : World) (q m : Nat) (W : World) (h : Hid (St w0 q m W)) (hm : m ≤ 900000) :
    Calls Tryz.prog 12 #[.pointer (some ⟨q, 0, none⟩)] W fun e w' => ∃ S : ByteArray, e = .returned (.string S) ∧ S.size ≤ 12 ∧ Hid (St w0 q (m + 3) w') := by
  have k3 := Lib.hid (next_st w0 q m 3 W h (by omega) (by omega) (by omega))
  have kc : Hid (∀ W1, Hid (St w0 q (m + 1) W1) → Calls Tryz.prog 22 #[.pointer (some ⟨q, 0, none⟩)] W1 fun e w' => (∃ r g b a : Nat, e = .returned (.agg #[.int .u8 r, .int .u8 g, .int .u8 b, .int .u8 a]) ∧ Hid (r < 256 ∧ g < 256 ∧ b < 256 ∧ a < 256)) ∧ Hid (St w0 q (m + 2) w')) := fun W1 h1 => by
    refine (color_any q (m + 1) W1 h1.out.1 (by omega)).mono ?_
    rintro e w' ⟨h2, h3, h4⟩
    exact ⟨h2, h3, Mk.trans h1.out.2 h4⟩
  have kx : Hid (∀ (r g b a : Nat) W1, Hid (r < 256 ∧ g < 256 ∧ b < 256 ∧ a < 256) → Hid (St w0 q (m + 2) W1) → Calls Tryz.prog 21 #[.agg #[.int .u8 r, .int .u8 g, .int .u8 b, .int .u8 a]] W1 fun e w' => ∃ S : ByteArray, e = .returned (.string S) ∧ S.size ≤ 12 ∧ Hid (St w0 q (m + 2) w')) := fun r g b a W1 hr h1 => by
    refine (rcolor_any r g b a W1 hr.out.1 hr.out.2.1 hr.out.2.2.1 hr.out.2.2.2).mono ?_
    rintro e w' ⟨rfl, hb⟩
    refine ⟨_, rfl, ?_, St.below h1 hb⟩
    rw [CP.str_size, CP.text_len]
    split <;> omega
  go_enter Tryz.func12, Tryz.ntmps12
  go_wp2_with (first
    | (have v2 := HG; go_at_call 8; with_reducible refine (next_st w0 q (m + 2) 9 _ h2 (by omega) (by omega) (by omega)).mono ?_; rintro e w3 ⟨r9, rfl, hr9, hk3, h3⟩; obtain ⟨r, hr, hra, hrb⟩ := min_nat r3 r9; obtain ⟨S, hS, hc⟩ := (cells_on HG hk3 (Nat.ne_of_lt (St.lt h1)) (cells_lt hk2)).out r (by omega))
    | (have v1 := u1; go_at_call 8; with_reducible refine (next_st w0 q (m + 1) 3 _ (St.alloc h1 _) (by omega) (by omega) (by omega)).mono ?_; rintro e w2 ⟨r3, rfl, hr3, hk2, h2⟩; have HG := cells_of 3 6 hk2 (St.lt h1) rfl rfl)
    | (go_at_call 8; refine k3.out.mono ?_; rintro e w1 ⟨n, rfl, hn, hk1, h1⟩; have u1 : True := trivial)
    | (go_at_call 22; refine (kc.out _ h1).mono ?_; rintro e w4 ⟨⟨cr, cg, cb, ca, rfl, hcol⟩, h4⟩)
    | (go_at_call 21; refine (kx.out _ _ _ _ _ hcol h4).mono ?_; rintro e w5 ⟨S, rfl, hS, h5⟩))
  · go_ret
    exact ⟨S, rfl, by omega, St.more h3 (by omega)⟩
  · go_ret
    exact ⟨S, rfl, hS, St.more h5 (by omega)⟩

end Go.Proofs.YtenmkopiddmieabGreatDoor.TX

/-
  Texts made of few numbers, no longer than so: a value, a color, walked over the program.
-/
import Derived.Test.YtbniikaebkmbhaaDoorWordText1
namespace Go.Proofs.YtbniikaebkmbhaaDoor
open Go.RowKit

/-- Numbers are taken out of block q; all else that was there at w0 is as it was. -/
def St (w0 : World) (q m : Nat) (W : World) : Prop := SeqOk W q m ∧ Mk q w0 W

theorem St.lt {w0 W : World} {q m : Nat} (h : Hid (St w0 q m W)) : q < W.heap.size := h.out.1.lt
theorem St.alloc {w0 W : World} {q m : Nat} (h : Hid (St w0 q m W)) (o : Obj) : Hid (St w0 q m (W.alloc o)) := ⟨SeqOk.alloc h.out.1 o, Mk.alloc h.out.2 o⟩
theorem St.more {w0 W : World} {q m m' : Nat} (h : Hid (St w0 q m W)) (hm : m ≤ m') : Hid (St w0 q m' W) := ⟨SeqOk.mono h.out.1 hm, h.out.2⟩
theorem St.below {w0 W W' : World} {q m : Nat} (h : Hid (St w0 q m W)) (hb : Below W.heap.size W W') : Hid (St w0 q m W') :=
  ⟨SeqOk.keep h.out.1 ⟨hb.os, hb.tape, hb.output, Nat.le_trans (by have := h.out.1.lt; omega) hb.size, fun k hk => hb.block k (by have := h.out.1.lt; omega)⟩, Mk.trans h.out.2 (Mk.below hb)⟩

theorem next_st (w0 : World) (q m : Nat) (b : Int) (W : World) (h : Hid (St w0 q m W)) (hm : m ≤ 1000000) (hb : 1 ≤ b) (hb' : b ≤ 1000) :
    Calls Tryd.prog 12 #[.pointer (some ⟨q, 0, none⟩), .int .i64 b] W fun e w' => ∃ r : Nat, e = .returned (.int .i64 (r : Int)) ∧ (r : Int) < b ∧ Hid (Mk q W w') ∧ Hid (St w0 q (m + 1) w') := by
  refine (next_any q m b W h.out.1 (by omega) ⟨hb, by omega⟩).mono ?_
  rintro e w' ⟨⟨r, rfl, r0, r1⟩, hs, hk⟩
  obtain ⟨n, rfl⟩ := Int.eq_ofNat_of_zero_le r0
  exact ⟨n, rfl, r1, hk, hs, Mk.trans h.out.2 hk⟩

def okT (L : Nat) (T : Array Value) : Bool := T.toList.all fun v => match v with | .string S => decide (S.size ≤ L) | _ => false
theorem okT_at {L : Nat} {T : Array Value} (h : okT L T = true) (k : Nat) (hk : k < T.size) : ∃ S : ByteArray, T[k]? = some (.string S) ∧ S.size ≤ L := by
  have h1 := List.all_eq_true.1 h T[k] (by simp)
  cases hv : T[k] with
  | string S =>
    rw [hv] at h1
    exact ⟨S, by rw [Array.getElem?_eq_getElem hk, hv], of_decide_eq_true h1⟩
  | _ => rw [hv] at h1; cases h1

theorem cells_of {q : Nat} {W w1 : World} {T : Array Value} {t : TypeId} {fr : Nat × Nat} (n L : Nat) (hm : Hid (Mk q (W.alloc (.cells T t fr)) w1)) (hqW : q < W.heap.size) (hn : T.size = n) (hT : okT L T = true) :
    Hid (∀ k : Nat, (k : Int) < (n : Int) → ∃ S : ByteArray, S.size ≤ L ∧ w1.cell? ⟨W.heap.size, k, none⟩ = some (.string S)) := fun k hk => by
  obtain ⟨S, h1, h2⟩ := okT_at hT k (by omega)
  refine ⟨S, h2, ?_⟩
  have hb : w1.heap[W.heap.size]? = (W.alloc (.cells T t fr)).heap[W.heap.size]? := hm.out.block _ (by simp) (fun e => by cases e; omega)
  rw [World.cell?_of_block (a := ⟨W.heap.size, k, none⟩) hb, cell_new]
  exact h1
theorem cells_lt {q : Nat} {W w1 : World} {o : Obj} (hm : Hid (Mk q (W.alloc o) w1)) : W.heap.size < w1.heap.size := Nat.lt_of_lt_of_le (by simp) (show (W.alloc o).heap.size ≤ w1.heap.size from World.grownBy.size hm.out)
theorem cells_on {q b n L : Nat} {w1 w2 : World} (h : Hid (∀ k : Nat, (k : Int) < (n : Int) → ∃ S : ByteArray, S.size ≤ L ∧ w1.cell? ⟨b, k, none⟩ = some (.string S))) (hm : Hid (Mk q w1 w2)) (hq : q ≠ b) (hb : b < w1.heap.size) :
    Hid (∀ k : Nat, (k : Int) < (n : Int) → ∃ S : ByteArray, S.size ≤ L ∧ w2.cell? ⟨b, k, none⟩ = some (.string S)) := fun k hk => by
  obtain ⟨S, h1, h2⟩ := h.out k hk
  refine ⟨S, h1, ?_⟩
  rw [World.cell?_of_block (a := ⟨b, k, none⟩) (hm.out.block b hb (fun e => by cases e; exact hq rfl))]
  exact h2
theorem cells_new (W : World) (T : Array Value) (t : TypeId) (n L : Nat) (hn : T.size = n) (hT : okT L T = true) (k : Nat) (hk : (k : Int) < (n : Int)) : ∃ S : ByteArray, S.size ≤ L ∧ (W.alloc (.cells T t)).cell? ⟨W.heap.size, k, none⟩ = some (.string S) := by
  obtain ⟨S, h1, h2⟩ := okT_at hT k (by omega)
  exact ⟨S, h2, by rw [cell_new]; exact h1⟩
theorem min_nat (a b : Nat) : ∃ r : Nat, min (a : Int) (b : Int) = (r : Int) ∧ r ≤ a ∧ r ≤ b := ⟨min a b, by omega, by omega, by omega⟩

theorem one_size (c : UInt8) : (⟨#[c]⟩ : ByteArray).size = 1 := rfl

set_option maxRecDepth 20000 in
set_option maxHeartbeats 1000000 in
theorem val_st (w0 : World) (q m far : Nat) (W : World) (h : Hid (St w0 q m W)) (hm : m ≤ 900000) (hf : far ≤ 24) :
    Calls Tryd.prog 17 #[.pointer (some ⟨q, 0, none⟩), .int .i64 far] W fun e w' => ∃ S : ByteArray, e = .returned (.string S) ∧ S.size ≤ 12 ∧ Hid (St w0 q (m + 3) w') := by
  have k8 := Lib.hid (next_st w0 q m 8 W h (by omega) (by omega) (by omega))
  have ki : Hid (∀ r : Nat, r < 100 → ∀ W, Calls Tryd.prog 13 #[.int .i64 r] W fun e w' => ∃ T : ByteArray, e = .returned (.string T) ∧ T.size ≤ 2 ∧ w' = W) := fun r hr W => itoa_any r (by omega) (by omega) W
  go_enter Tryd.func17, Tryd.ntmps17
  go_wp2_with (first
    | (have v2 := u2; go_at_call 12; with_reducible refine (next_st w0 q (m + 2) 5 _ (St.alloc h2 _) (by omega) (by omega) (by omega)).mono ?_; rintro e w4 ⟨r5, rfl, hr5, hk4, h4⟩; obtain ⟨S, hS, hc⟩ := (cells_of 5 6 hk4 (St.lt h2) rfl rfl).out r5 (by omega))
    | (have v1 := u1; go_at_call 12; with_reducible refine (next_st w0 q (m + 1) 3 _ (St.alloc h1 _) (by omega) (by omega) (by omega)).mono ?_; rintro e w4 ⟨r3, rfl, hr3, hk4, h4⟩; obtain ⟨S, hS, hc⟩ := (cells_of 3 6 hk4 (St.lt h1) rfl rfl).out r3 (by omega))
    | (have v1 := u1; go_at_call 12; with_reducible refine (next_st w0 q (m + 1) ((far : Int) + 1) _ h1 (by omega) (by omega) (by omega)).mono ?_; rintro e w2 ⟨r, rfl, hr, hk2, h2⟩; have u2 : True := trivial)
    | (go_at_call 12; refine k8.out.mono ?_; rintro e w1 ⟨n, rfl, hn, hk1, h1⟩; have u1 : True := trivial)
    | (go_at_call 13; refine (ki.out r (by omega) _).mono ?_; rintro e w3 ⟨T, rfl, hT, rfl⟩))
  · go_ret
    exact ⟨S, rfl, by omega, St.more h4 (by omega)⟩
  · go_ret
    exact ⟨_, rfl, by rw [ByteArray.size_append, one_size]; omega, St.more h2 (by omega)⟩
  · go_ret
    exact ⟨_, rfl, by rw [ByteArray.size_append, ByteArray.size_append, one_size]; omega, St.more h4 (by omega)⟩
  · go_ret
    exact ⟨_, rfl, by omega, St.more h2 (by omega)⟩

end Go.Proofs.YtbniikaebkmbhaaDoor

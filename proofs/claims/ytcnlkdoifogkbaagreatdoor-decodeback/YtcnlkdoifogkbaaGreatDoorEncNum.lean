/-
  A writer writes numbers, points and colors: walked over the program.
-/
import Derived.Test.YtcnlkdoifogkbaaGreatDoorEncMem
namespace Go.Proofs.YtcnlkdoifogkbaaGreatDoor
open Go.RowKit

theorem zig_nat (z : Int) : zig z = (EP.zig z : Int) := by unfold zig EP.zig; split <;> omega
theorem zig_lt {z : Int} (h0 : -9223372036854775808 ≤ z) (h1 : z ≤ 9223372036854775807) : EP.zig z < 18446744073709551616 := by unfold EP.zig; split <;> omega

theorem own_below {w w' : World} {B : Nat} {e : TypeId} {size : Nat} {v : Value} {n : Nat} {xs : List Value} (h : w.ownsRow B e size v n xs) (hb : Below w.heap.size w w') : w'.ownsRow B e size v n xs :=
  h.kept (row := none) ⟨hb.os, hb.tape, hb.output, hb.size, fun k hk _ => hb.block k hk⟩ (by cases hv : v.ownBlock <;> simp)

theorem row_cells {w : World} {g : Nat} {e : TypeId} {bs : List Nat} (h : w.heap[g]? = some (.cells (vals bs).toArray e (0, 0))) : ∀ j u, (vals bs)[j]? = some u → w.cell? ((⟨g, 0, none⟩ : Addr).add j) = some u := by
  intro j u hj
  rw [Addr.add_lit, cell_of_row w g (0 + j) _ e _ h]
  simpa using hj

theorem grown_own {w w' : World} {q n : Nat} {ad : Option Addr} {cap : Nat} {xs : List Value} (h : Blk w q 77 #[.slice ad n cap]) (ho : w.ownsRow (q + 1) 5 1 (.slice ad n cap) n xs) (hg : w.grownBy w' (Value.slice ad n cap).ownBlock) :
    w'.cell? ⟨q, 0, none⟩ = some (.slice ad n cap) ∧ w'.frozen? ⟨q, 0, none⟩ = false := by
  have hb : Blk w' q 77 #[.slice ad n cap] := (hg.block q h.lt (fun e => by have := (ho.lt q e.symm).1; omega)).trans h
  exact ⟨hb.cell 0, hb.frozen 0⟩

set_option maxRecDepth 20000 in
set_option maxHeartbeats 1000000 in
theorem wnum_any (q : Nat) (bs : List Nat) (n : Nat) (w : World) (h : Wr w q bs) (hn : n < 18446744073709551616) (hl : bs.length ≤ 100000000000000) :
    Calls Tryz.prog 77 #[.pointer (some ⟨q, 0, none⟩), .int .u64 n] w fun e w' => e = .returned (.tuple #[]) ∧ Wr w' q (bs ++ WP.enc n) ∧ Wk q w w' := by
  obtain ⟨ad, cap, hb, ho⟩ := h
  have s10 := WP.sz_le10 hn
  have hp : Hid (∀ W, Calls Tryz.prog 103 #[.slice none 0 0, .int .u64 n] W fun e w' => ∃ g, e = .returned (.slice (some ⟨g, 0, none⟩) (WP.sz n) (WP.sz n)) ∧ W.heap.size ≤ g ∧ w'.heap[g]? = some (.cells (vals (WP.enc n)).toArray 5 (0, 0)) ∧ Below W.heap.size W w') := fun W => by
    have := put_any none 0 [] n W hn (cells_nil _ _) (by simp)
    simpa using this
  obtain ⟨S, hS⟩ : ∃ S, WP.sz n = S := ⟨_, rfl⟩
  have HS : Hid ((WP.enc n).length = S) := hS
  rw [hS] at hp s10
  clear hS
  obtain ⟨L, hL⟩ : ∃ L, bs.length = L := ⟨_, rfl⟩
  have HL : Hid (bs.length = L) := hL
  rw [hL] at hb ho hl
  clear hL
  have HB : Hid (Blk w q 77 #[.slice ad L cap]) := hb
  have HO : Hid (w.ownsRow (q + 1) 5 1 (.slice ad L cap) L (vals bs)) := ho
  have c0 : w.cell? ⟨q, 0, none⟩ = some (.slice ad L cap) := hb.cell 0
  have f0 : w.frozen? ⟨q, 0, none⟩ = false := hb.frozen 0
  have hq := hb.lt
  clear hb ho
  go_enter Tryz.func77, Tryz.ntmps77
  go_wp2
  go_region_law (first
    | (go_simp; go_at_call 103; refine (hp.out _).mono ?_; rintro e w1 ⟨g, rfl, hg, hrow, hb1⟩
       have B1 : Hid (Below w.heap.size w w1) := (by first | exact hb1 | exact below_of_drew hb1)
       have HB1 : Hid (Blk w1 q 77 #[.slice ad L cap]) := HB.out.below B1.out hq
       have HO1 : Hid (w1.ownsRow (q + 1) 5 1 (.slice ad L cap) L (vals bs)) := own_below HO.out B1.out
       have HR1 : Hid (∀ j u, (vals (WP.enc n))[j]? = some u → w1.cell? ((⟨g, 0, none⟩ : Addr).add j) = some u) := row_cells hrow
       have z1 : q + 1 ≤ w1.heap.size := HB1.out.lt
       have d0 : w1.cell? ⟨q, 0, none⟩ = some (.slice ad L cap) := HB1.out.cell 0
       have e0 : w1.frozen? ⟨q, 0, none⟩ = false := HB1.out.frozen 0
       clear hb1 hrow)
    | (refine step_bytes rfl (.tmp 8) (.tmp 10) 32 rfl (q + 1) Tryz.underlying32 infoByte (.slice ad L cap) L bs (by simp [Act.eval]) HO1.out ⟨g, 0, none⟩ S S (WP.enc n) (by simp [Act.eval]) HS.out HR1.out (by omega) z1 ?_
       intro v' w2 ho2 hg2
       obtain ⟨ad', cap', rfl⟩ := own_shape ho2
       have HD : Hid (Wr (w2.setCell ⟨q, 0, none⟩ (.slice ad' (L + S) cap')) q (bs ++ WP.enc n) ∧ Wk q w1 (w2.setCell ⟨q, 0, none⟩ (.slice ad' (L + S) cap'))) := wr_done HL.out HS.out HB1.out HO1.out hg2 ho2
       obtain ⟨k0, k1⟩ : w2.cell? ⟨q, 0, none⟩ = some (.slice ad L cap) ∧ w2.frozen? ⟨q, 0, none⟩ = false := grown_own HB1.out HO1.out hg2
       clear ho2 hg2))
  all_goals
    go_end0
    exact ⟨rfl, HD.out.1, (Wk.below B1.out).trans HD.out.2⟩

end Go.Proofs.YtcnlkdoifogkbaaGreatDoor

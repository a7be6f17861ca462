/-
  The document's own numbers as bytes: Zig, a copy of bytes, Put; walked over the program.
-/
import Derived.Test.YtbfhehdinkbioaaDoorEncNum
namespace Go.Proofs.YtbfhehdinkbioaaDoor
open Go.RowKit

def bf (b : Nat) : List Value := [.int .u8 (b : Int)]
theorem bf_len (b : Nat) : (bf b).length = 1 := rfl
theorem bf_one (b : Nat) : ∀ u ∈ bf b, u.oneCell' = true := by
  intro u hu
  simp only [bf, List.mem_singleton] at hu
  subst hu
  rfl
theorem bf_vals (bs : List Nat) : bs.flatMap bf = vals bs := by
  unfold vals bf
  induction bs with
  | nil => rfl
  | cons x r ih => rw [List.flatMap_cons, ih]; rfl

theorem rzig_any (x : Int) (w : World) (h : -9223372036854775808 ≤ x ∧ x < 9223372036854775808) :
    Calls Tryd.prog 96 #[.int .i64 x] w fun e w' => e = .returned (.int .u64 (EP.zig x)) ∧ w' = w := by
  rw [← zig_nat]
  unfold zig
  go_enter Tryd.func96, Tryd.ntmps96
  by_cases h0 : x < 0
  · rw [if_pos h0]
    go_wp2
    go_ret
    exact ⟨ret_int (by omega), rfl⟩
  · rw [if_neg h0]
    go_wp2
    go_ret
    exact ⟨ret_int (by omega), rfl⟩

set_option maxRecDepth 20000 in
set_option maxHeartbeats 1000000 in
theorem copy_bytes (v : Value) (l : List Nat) (w : World) (hm : Many w 5 1 bf v l) (hl : l.length ≤ 900000) :
    Calls Tryd.prog 95 #[v] w fun e w' => (∃ ad cap, e = .returned (.slice ad l.length cap) ∧ Own w' w.heap.size 5 1 bf ad cap l) ∧ Below w.heap.size w w' := by
  have HM : Hid (Many w 5 1 bf v l) := hm
  obtain ⟨ad, cap, hv, hl1, hl2⟩ := HM.out.len
  unfold maxLen at hl2
  obtain ⟨L, hL⟩ : ∃ L, l.length = L := ⟨_, rfl⟩
  have HL : Hid (l.length = L) := hL
  rw [hL] at hv hl1 hl ⊢
  subst hv
  clear hm hL
  obtain ⟨i0, hi, hz0, hz1, hz2⟩ := info_parts infoByte
  obtain ⟨B, hB⟩ : ∃ B, w.heap.size = B := ⟨_, rfl⟩
  have hBw : B ≤ w.heap.size := by omega
  go_enter Tryd.func95, Tryd.ntmps95
  go_wp2_with (at_make; refine wpList_make_own _ rfl (.const (.int .i64 0)) (.tmp 6) 23 rfl B 5 i0 _ 1 Tryd.underlying23 hi hz0 hz1 .i64 .i64 (L : Int) L rfl rfl rfl (by rw [hz2]; omega) (by unfold maxLen; omega) hBw ?_; intro w1 hown1 hg1
               have HB1 : Hid (Below B w w1) := (by rw [← hB]; exact (Below.refl _ _).grown hg1 (Nat.le_refl _) (fun k e => by cases e))
               have HO1 : Hid (Own w1 B 5 1 bf (some ⟨B, 0, none⟩) L []) := (by have h := hown1; rw [hB] at h; exact h)
               have hz1' : B ≤ w1.heap.size := (by have := hg1.size; omega)
               clear hown1 hg1)
  go_loopw [3, 4] (fun s i wr => ∃ (k : Nat) (ad' : Option Addr) (cap' : Nat), k ≤ L ∧ i = .int .i64 k ∧ s = .slice ad' k cap' ∧ Hid (Own wr B 5 1 bf ad' cap' (l.take k)) ∧ Hid (Below B w wr) ∧ B ≤ wr.heap.size) (fun _ i _ => L - (intOf i).toNat)
  case atStart => exact ⟨0, _, _, by omega, rfl, rfl, HO1, HB1, hz1'⟩
  case round =>
    clear HO1 HB1 hz1'
    obtain ⟨k, ad', cap', hk, rfl, rfl, HO, HB, hBr⟩ := hrel
    have HT : Hid ((l.take k).length = k) := by show _ = _; rw [List.length_take, HL.out]; omega
    by_cases hkL : k < L
    · have hks : k < l.length := by rw [HL.out]; exact hkL
      obtain ⟨g, o, cap2, hv', hg, -, -, hc⟩ := HM.out.at bf_len k hks
      obtain ⟨rfl, -⟩ : ad = some ⟨g, o, none⟩ ∧ _ := by simpa using hv'
      clear hv'
      have r : ∀ j, wr.cell? ⟨g, j, none⟩ = w.cell? ⟨g, j, none⟩ := fun j => HB.out.cell (p := ⟨g, j, none⟩) (by show g < B; omega)
      have hgr : g < wr.heap.size := by omega
      have hA : l.take (k + 1) = l.take k ++ [l[k]] := List.take_succ_eq_append_getElem hks
      obtain ⟨x, hx⟩ : ∃ x, l[k] = x := ⟨_, rfl⟩
      rw [hx] at hc hA
      have HA := hid' hA
      have c0 : wr.cell? ⟨g, o + k, none⟩ = some (.int .u8 (x : Int)) := by rw [r]; have := hc 0 _ rfl; simpa using this
      have hki : (k : Int) < (L : Int) := by omega
      clear hc hx r hA
      go_wp2_with (at_builtin; refine wpList_push _ rfl (.tmp 14) (.tmp 19) 23 rfl B 5 _ 1 1 Tryd.underlying23 infoByte rfl (by decide) bf bf_len (l.take k) x k HT.out rfl (HO.out.alloc _) _ rfl (new_cells _ _ _) (bf_one _) (by omega) (by omega) (by simp; omega) ?_
                   intro ad2 cap2 w2 hown2 hg2
                   have HB2 : Hid (Below B w w2) := below_grown (HB.out.alloc hBr _) hg2 (by simp; omega) (fun x hx => (HO.out.lt x hx).1)
                   have hB2 : B ≤ w2.heap.size := by have := hg2.size; simp at this; omega
                   have HO2 := hid' hown2
                   clear hown2 hg2)
      go_roundw
      case rel => exact ⟨k + 1, ad2, cap2, by omega, by go_num, rfl, by rw [HA.out]; exact HO2, HB2, hB2⟩
      case measure => simp [intOf]; omega
    · obtain rfl : k = L := by omega
      have e1 : l.take k = l := List.take_of_length_le (by rw [HL.out]; omega)
      rw [e1] at HO
      go_wp2
      go_ret
      exact ⟨⟨ad', cap', rfl, by rw [hB]; exact HO.out⟩, by rw [hB]; exact HB.out⟩

end Go.Proofs.YtbfhehdinkbioaaDoor

/-
  The document's own Put; walked over the program.
-/
import Derived.Test.YtbfhehdinkbioaaDoorRefPut
namespace Go.Proofs.YtbfhehdinkbioaaDoor
open Go.RowKit

set_option maxRecDepth 20000 in
set_option maxHeartbeats 1000000 in
theorem rput_any (v : Value) (bs : List Nat) (n : Nat) (w : World) (hn : n < 18446744073709551616) (hm : Many w 5 1 bf v bs) (hl : bs.length ≤ 900000) :
    Calls Tryd.prog 70 #[v, .int .u64 n] w fun e w' => (∃ ad cap, e = .returned (.slice ad (bs ++ WP.enc n).length cap) ∧ Own w' w.heap.size 5 1 bf ad cap (bs ++ WP.enc n)) ∧ Below w.heap.size w w' := by
  have s10 := WP.sz_le10 hn
  have kc : Hid (∀ W, Below w.heap.size w W → Calls Tryd.prog 95 #[v] W fun e w' => (∃ ad cap, e = .returned (.slice ad bs.length cap) ∧ Own w' W.heap.size 5 1 bf ad cap bs) ∧ Below W.heap.size W w') := fun W hb => copy_bytes v bs W (Row.below hm hb) hl
  clear hm
  obtain ⟨L, hL⟩ : ∃ L, bs.length = L := ⟨_, rfl⟩
  have HL : Hid (bs.length = L) := hL
  rw [hL] at kc hl
  clear hL
  obtain ⟨B, hB⟩ : ∃ B, w.heap.size = B := ⟨_, rfl⟩
  rw [hB]
  go_enter Tryd.func70, Tryd.ntmps70
  go_wp2_with (go_at_call 95; refine (kc.out _ (Below.refl _ _)).mono ?_; rintro e w1 ⟨⟨ad1, cap1, rfl, ho1⟩, hb1⟩
               have HO1 : Hid (Own w1 B 5 1 bf ad1 cap1 bs) := (by rw [← hB]; exact ho1)
               have HB1 : Hid (Below B w w1) := (by rw [← hB]; exact hb1)
               have hz1 : B ≤ w1.heap.size := (by have := hb1.size; omega)
               clear ho1 hb1)
  go_loopw [5, 1] (fun out x wr => ∃ (pre : List Nat) (y : Nat) (ad' : Option Addr) (cap' : Nat) (m : Nat), x = .int .u64 y ∧ y < 18446744073709551616 ∧ Hid (pre ++ WP.enc y = WP.enc n) ∧ Hid ((bs ++ pre).length = m) ∧ m ≤ 900010 ∧ out = .slice ad' m cap' ∧
      Hid (Own wr B 5 1 bf ad' cap' (bs ++ pre)) ∧ Hid (Below B w wr) ∧ B ≤ wr.heap.size) (fun _ x _ => (intOf x).toNat)
  case atStart => exact ⟨[], n, ad1, cap1, L, rfl, hn, rfl, by show _ = _; rw [List.append_nil]; exact HL.out, by omega, rfl, by rw [List.append_nil]; exact HO1, HB1, hz1⟩
  case round =>
    clear HO1 HB1 hz1
    obtain ⟨pre, y, ad', cap', m, rfl, hy, hpre, HM, hm, rfl, HO, HB, hBr⟩ := hrel
    have hor := or_128 y
    obtain ⟨c, hc⟩ : ∃ c, y % 128 + 128 = c := ⟨_, rfl⟩
    rw [hc] at hor
    have HC : Hid (y % 128 + 128 = c) := hc
    clear hc
    have hlen : Hid (pre.length + WP.sz y = WP.sz n) := by
      have := congrArg List.length hpre.out
      rw [List.length_append] at this
      exact this
    by_cases hlt : y < 128
    · have he : Hid _ := WP.enc_lt hlt
      clear hor
      go_wp2_with (at_builtin; refine wpList_push _ rfl (.tmp 18) (.tmp 21) 23 rfl B 5 _ 1 1 Tryd.underlying23 infoByte rfl (by decide) bf bf_len (bs ++ pre) y m HM.out rfl (HO.out.alloc _) _ rfl (new_cells _ _ _) (bf_one _) (by omega) (by omega) (by simp; omega) ?_
                   intro ad2 cap2 w2 hown2 hg2
                   have HB2 : Hid (Below B w w2) := below_grown (HB.out.alloc hBr _) hg2 (by simp; omega) (fun x hx => (HO.out.lt x hx).1)
                   have HO2 := hid' hown2
                   clear hown2 hg2)
      go_ret
      have E : bs ++ WP.enc n = bs ++ pre ++ [y] := by rw [← hpre.out, he.out, List.append_assoc]
      refine ⟨⟨ad2, cap2, ?_, by rw [E]; exact HO2.out⟩, HB2.out⟩
      rw [E, List.length_append, HM.out]
      rfl
    · have he : Hid _ := WP.enc_ge hlt
      have hs : Hid _ := WP.sz_ge hlt
      have hs1 : 1 ≤ WP.sz (y / 128) := WP.sz_pos _
      have hm' : m + 1 ≤ 900010 := by
        have h1 := HM.out
        have h2 := HL.out
        have h3 := hlen.out
        rw [hs.out] at h3
        rw [List.length_append] at h1
        omega
      clear hs1
      go_wp2_with (at_builtin; refine wpList_push _ rfl (.tmp 10) (.tmp 14) 23 rfl B 5 _ 1 1 Tryd.underlying23 infoByte rfl (by decide) bf bf_len (bs ++ pre) c m HM.out rfl (HO.out.alloc _) _ rfl (new_cells _ _ _) (bf_one _) (by omega) (by omega) (by simp; omega) ?_
                   intro ad2 cap2 w2 hown2 hg2
                   have HB2 : Hid (Below B w w2) := below_grown (HB.out.alloc hBr _) hg2 (by simp; omega) (fun x hx => (HO.out.lt x hx).1)
                   have hB2 : B ≤ w2.heap.size := by have := hg2.size; simp at this; omega
                   have HO2 := hid' hown2
                   clear hown2 hg2)
      go_roundw
      case rel => exact ⟨pre ++ [c], y / 128, ad2, cap2, m + 1, by go_num, by omega, by show _ = _; rw [← hpre.out, he.out, HC.out]; simp, by show _ = _; rw [← List.append_assoc, List.length_append, HM.out]; rfl, hm', rfl, by rw [← List.append_assoc]; exact HO2, HB2, hB2⟩
      case measure => simp [intOf]; omega

end Go.Proofs.YtbfhehdinkbioaaDoor

/-
  A writer writes colors: walked over the program.
-/
import Derived.Test.YtcnlkdoifogkbaaGreatDoorEncNum
namespace Go.Proofs.YtcnlkdoifogkbaaGreatDoor
open Go.RowKit

set_option maxRecDepth 20000 in
set_option maxHeartbeats 4000000 in
theorem wcol_any (q : Nat) (bs : List Nat) (r g b a : Nat) (w : World) (h : Wr w q bs) (hl : bs.length ≤ 100000000000000) :
    Calls Tryz.prog 51 #[.pointer (some ⟨q, 0, none⟩), .agg #[.int .u8 r, .int .u8 g, .int .u8 b, .int .u8 a]] w fun e w' => e = .returned (.tuple #[]) ∧ Wr w' q (bs ++ [r, g, b, a]) ∧ Wk q w w' := by
  obtain ⟨ad, cap, hb, ho⟩ := h
  obtain ⟨L, hL⟩ : ∃ L, bs.length = L := ⟨_, rfl⟩
  have HL : Hid (bs.length = L) := hL
  rw [hL] at hb ho hl
  clear hL
  have hq := hb.lt
  go_enter Tryz.func51, Tryz.ntmps51
  go_wp2
  have hbx := blk_new w 66 #[.int .u8 r, .int .u8 g, .int .u8 b, .int .u8 a]
  have HBV0 := hb.alloc (.cells #[.int .u8 r, .int .u8 g, .int .u8 b, .int .u8 a] 66)
  have HOV0 := ho.alloc (.cells #[.int .u8 r, .int .u8 g, .int .u8 b, .int .u8 a] 66)
  have HKV0 := (Wk.refl q w).alloc (.cells #[.int .u8 r, .int .u8 g, .int .u8 b, .int .u8 a] 66)
  have hz : (w.alloc (.cells #[.int .u8 r, .int .u8 g, .int .u8 b, .int .u8 a] 66)).heap.size = w.heap.size + 1 := by simp
  generalize w.alloc (.cells #[.int .u8 r, .int .u8 g, .int .u8 b, .int .u8 a] 66) = V at hbx HBV0 HOV0 HKV0 hz ⊢
  have HBV : Hid (Blk V q 77 #[.slice ad L cap]) := HBV0
  have HOV : Hid (V.ownsRow (q + 1) 5 1 (.slice ad L cap) L (vals bs)) := HOV0
  have HKV : Hid (Wk q w V) := HKV0
  obtain ⟨⟨d0, d1, d2, d3⟩, -⟩ := cells_four hbx
  have c0 : V.cell? ⟨q, 0, none⟩ = some (.slice ad L cap) := HBV.out.cell 0
  have f0 : V.frozen? ⟨q, 0, none⟩ = false := HBV.out.frozen 0
  have zq := HBV.out.lt
  clear hb ho HBV0 HOV0 HKV0 hbx
  go_region_law (
     refine step_bytes rfl (.tmp 8) (.tmp 17) 32 rfl (q + 1) Tryz.underlying32 infoByte (.slice ad L cap) L bs (by simp [Act.eval]) (by first | exact (HOV.out.drew).alloc _ | exact (HOV.out.alloc _).drew) ⟨V.heap.size, 0, none⟩ 4 4 [r, g, b, a] (by simp [Act.eval]) rfl (new_cells _ _ _) (by omega) (by simp; omega) ?_
     intro v' w2 ho2 hg2
     obtain ⟨ad', cap', rfl⟩ := own_shape ho2
     have HD : Hid (Wr (w2.setCell ⟨q, 0, none⟩ (.slice ad' (L + 4) cap')) q (bs ++ [r, g, b, a]) ∧ Wk q w (w2.setCell ⟨q, 0, none⟩ (.slice ad' (L + 4) cap'))) := by
       have hd := wr_done (bs := bs) (new := [r, g, b, a]) HL.out rfl (by first | exact (HBV.out.drew).alloc _ | exact (HBV.out.alloc _).drew) (by first | exact (HOV.out.drew).alloc _ | exact (HOV.out.alloc _).drew) hg2 ho2
       exact ⟨hd.1, by first | exact (HKV.out.drew.alloc _).trans hd.2 | exact (HKV.out.alloc _).drew.trans hd.2⟩
     obtain ⟨k0, k1⟩ : w2.cell? ⟨q, 0, none⟩ = some (.slice ad L cap) ∧ w2.frozen? ⟨q, 0, none⟩ = false := grown_own (by first | exact (HBV.out.drew).alloc _ | exact (HBV.out.alloc _).drew) (by first | exact (HOV.out.drew).alloc _ | exact (HOV.out.alloc _).drew) hg2
     clear ho2 hg2)
  all_goals
    go_end0
    exact ⟨rfl, HD.out⟩

end Go.Proofs.YtcnlkdoifogkbaaGreatDoor

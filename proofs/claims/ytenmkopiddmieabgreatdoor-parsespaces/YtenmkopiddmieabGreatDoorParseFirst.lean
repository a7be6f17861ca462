/-
  The chapter's first example, walked over the program.
-/
import Derived.Test.YtenmkopiddmieabGreatDoorParseSrc
namespace Go.Proofs.YtenmkopiddmieabGreatDoor
open Go.RowKit

theorem src_first : PP.src [105, 99, 111, 110, 32, 49, 32, 49, 59] = .ok ⟨1, 1, 0, [], [], [], []⟩ := by kernel_rfl

set_option maxRecDepth 20000 in
set_option maxHeartbeats 1000000 in
theorem first10_any (x : Cx) (w : World) (hE : Hid (ErrP w x)) :
    Calls Tryz.prog 4 #[] w fun e w' => e = .returned (.bool true) ∧ Below w.heap.size w w' := by
  have k1 := hid'' (src_any ⟨#[105, 99, 111, 110, 32, 49, 32, 49, 59]⟩ x w (by decide) hE)
  rw [show (⟨#[105, 99, 111, 110, 32, 49, 32, 49, 59]⟩ : ByteArray).data.toList = [105, 99, 111, 110, 32, 49, 32, 49, 59] from rfl, src_first] at k1
  clear hE
  go_enter Tryz.func4, Tryz.ntmps4
  go_wp2_with (go_at_call 6; refine k1.out.mono ?_; rintro e w1 ⟨hb, a1, a2, a3, a4, c1, c2, c3, c4, he, -⟩
               have he2 : e = .returned (.tuple #[.agg #[.int .i64 1, .int .i64 1, .int .i64 0, .slice a1 0 c1, .slice a2 0 c2, .slice a3 0 c3, .slice a4 0 c4], .nilIface]) := he
               subst he2
               have HB := hid'' hb
               clear hb he)
  go_ret
  exact ⟨rfl, HB.out.alloc HB.out.size _⟩

end Go.Proofs.YtenmkopiddmieabGreatDoor

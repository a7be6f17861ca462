/-
  The chapter's examples of encode, walked over the program.
-/
import Derived.Test.YtofmbedjbnbjlaaDoorEncBytes
namespace Go.Proofs.YtofmbedjbnbjlaaDoor
open Go.RowKit

set_option maxRecDepth 20000 in
theorem efirst_any (A : Nat → Addr) (w : World) (hE : Errs3 w A) :
    Calls Tryd.prog 9 #[] w fun e w' => e = .returned (.bool true) ∧ Below w.heap.size w w' := by
  have k1 : Hid (∀ W, Below w.heap.size w W → Calls Tryd.prog 12 #[.agg #[.int .i64 1, .int .i64 1, .int .i64 0, .slice none 0 0, .slice none 0 0]] W fun e w' => (∃ ad cap, e = .returned (.tuple #[.slice ad 9 cap, .nilIface])) ∧ Below W.heap.size W w') := fun W hb => by
    refine (bytes_ok A ⟨1, 1, 0, .slice none 0 0, [], .slice none 0 0, []⟩ W (hE.below hb) (icon_bare W 1 1 0) (fun _ h => absurd h (by simp)) (by decide)).mono ?_
    rintro e w' ⟨⟨ad, cap, rfl, -⟩, hb⟩
    exact ⟨⟨ad, cap, rfl⟩, hb⟩
  have k2 : Hid (∀ W, Calls Tryd.prog 15 #[.slice none 0 0] W fun e w' => (∃ ad cap, e = .returned (.slice ad 0 cap)) ∧ Below W.heap.size W w') := fun W => by
    refine (runs_any (.slice none 0 0) [] W (many_nil _ _ _ _) (by simp)).mono ?_
    rintro e w' ⟨⟨ad, cap, rfl, -⟩, hb⟩
    exact ⟨⟨ad, cap, rfl⟩, hb⟩
  clear hE
  go_enter Tryd.func9, Tryd.ntmps9
  go_wp2_with (first
    | (go_at_call 12; refine (k1.out _ (Below.refl _ _)).mono ?_; rintro e w1 ⟨⟨ad, cap, rfl⟩, hb1⟩)
    | (go_at_call 15; refine (k2.out _).mono ?_; rintro e w2 ⟨⟨ad2, cap2, rfl⟩, hb2⟩))
  go_ret
  exact ⟨rfl, chain hb1 hb2⟩

end Go.Proofs.YtofmbedjbnbjlaaDoor

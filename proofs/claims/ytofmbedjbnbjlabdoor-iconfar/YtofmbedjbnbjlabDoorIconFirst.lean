/-
  The chapter's examples, walked over the program.
-/
import Derived.Test.YtofmbedjbnbjlabDoorIconCheck
namespace Go.Proofs.YtofmbedjbnbjlabDoor
open Go.RowKit

theorem many_nil {α : Type} (w : World) (t : TypeId) (size : Nat) (f : α → List Value) : Many w t size f (.slice none 0 0) [] := ⟨by simp, .inl ⟨rfl, rfl⟩⟩

theorem icon_bare (w : World) (a b c : Int) : IconOk w ⟨a, b, c, .slice none 0 0, [], .slice none 0 0, []⟩ := ⟨many_nil _ _ _ _, many_nil _ _ _ _, fun _ h => absurd h (by simp)⟩

set_option maxRecDepth 20000 in
theorem first_any (A : Nat → Addr) (w : World) (hE : Errs3 w A) :
    Calls Tryd.prog 4 #[] w fun e w' => e = .returned (.bool true) ∧ Below w.heap.size w w' := by
  have k1 : Hid (∀ W, Below w.heap.size w W → Calls Tryd.prog 10 #[.agg #[.int .i64 0, .int .i64 0, .int .i64 0, .slice none 0 0, .slice none 0 0]] W fun e w' => e = .returned (.iface 104 (.pointer (some (A 0)))) ∧ Below W.heap.size W w') := fun W hb => check_any A _ W (hE.below hb) (icon_bare W 0 0 0)
  have k2 : Hid (∀ W, Below w.heap.size w W → Calls Tryd.prog 10 #[.agg #[.int .i64 1, .int .i64 1, .int .i64 0, .slice none 0 0, .slice none 0 0]] W fun e w' => e = .returned .nilIface ∧ Below W.heap.size W w') := fun W hb => check_any A _ W (hE.below hb) (icon_bare W 1 1 0)
  have k3 : Hid (∀ W, Calls Tryd.prog 6 #[.agg #[.int .i64 1, .int .i64 2, .int .i64 1, .slice none 0 0, .slice none 0 0]] W fun e w' => e = .returned (.int .i64 16) ∧ Below W.heap.size W w') := fun W => greatest_any ⟨1, 2, 1, .slice none 0 0, [], .slice none 0 0, []⟩ W
  go_enter Tryd.func4, Tryd.ntmps4
  go_wp2_with (first
    | (go_at_call 10; (with_reducible refine (k1.out _ (Below.refl _ _)).mono ?_); rintro e w1 ⟨rfl, hb1⟩)
    | (go_at_call 10; (with_reducible refine (k2.out _ hb1).mono ?_); rintro e w2 ⟨rfl, hb2⟩)
    | (go_at_call 6; (with_reducible refine (k3.out _).mono ?_); rintro e w3 ⟨rfl, hb3⟩))
  go_ret
  exact ⟨rfl, chain (chain hb1 hb2) hb3⟩

end Go.Proofs.YtofmbedjbnbjlabDoor

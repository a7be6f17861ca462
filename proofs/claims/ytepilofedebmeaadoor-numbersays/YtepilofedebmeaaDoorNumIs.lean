/-
  How the statements see a bare error, or none.
-/
import Derived.Test.YtepilofedebmeaaDoorErrsSee
namespace Go.Proofs.YtepilofedebmeaaDoor
open Go.RowKit

theorem is_at (x : Value) (c : Int) (w : World) (hx : ∀ W, Below w.heap.size w W → Calls Tryd.prog 30 #[x] W fun e w' => e = .returned (.agg #[.int .i64 c, .bool false, .int .i64 0]) ∧ Below W.heap.size W w') :
    Calls Tryd.prog 12 #[x, .int .i64 c] w fun e w' => e = .returned (.bool true) ∧ Below w.heap.size w w' := by
  have KF : Hid (∀ W, Below w.heap.size w W → Calls Tryd.prog 22 #[x, .agg #[.int .i64 c, .bool false, .int .i64 0]] W fun e w' => e = .returned (.bool true) ∧ Below W.heap.size W w') := fun W hb => same_bare x c 0 false W (fun W' hb' => hx W' (hb.trans (hb'.mono hb.size)))
  clear hx
  go_enter Tryd.func12, Tryd.ntmps12
  go_wp2_with (first
    | (go_at_call 23; refine (bare_any _ w).mono ?_; rintro e w1 ⟨rfl, hb1⟩)
    | (go_at_call 22; refine (KF.out w1 hb1).mono ?_; rintro e w2 ⟨rfl, hb2⟩))
  go_ret
  exact ⟨rfl, hb1.trans (hb2.mono hb1.size)⟩

/-- One of the program's own errors, bare, is seen as what it is. -/
theorem is_bare (A : Nat → Addr) (w : World) (hE : Errs13 w A) (s : Nat) (hs : s < 13) (a : Addr) (ha : A (perm s) = a) (c : Int) (hc : c = 101 + (s : Int)) :
    Calls Tryd.prog 12 #[.iface 105 (.pointer (some a)), .int .i64 c] w fun e w' => e = .returned (.bool true) ∧ Below w.heap.size w w' :=
  is_at _ c w (fun W hb => by rw [hc]; exact fault_bare A W (hE.below hb) s hs a ha)

/-- No error is seen as none. -/
theorem is_nil (w : World) : Calls Tryd.prog 12 #[.nilIface, .int .i64 0] w fun e w' => e = .returned (.bool true) ∧ Below w.heap.size w w' :=
  is_at _ 0 w (fun W _ => fault_nil W)

end Go.Proofs.YtepilofedebmeaaDoor

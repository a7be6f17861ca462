/-
  Greatest of package icon, and what Check says of a command's head and paint, walked over the program.
-/
import Derived.Test.YtcnlkdoifogkbaaGreatDoorIconLeaf
namespace Go.Proofs.YtcnlkdoifogkbaaGreatDoor
open Go.RowKit

theorem greatest_any (i : IC.Icon) (w : World) :
    Calls Tryz.prog 44 #[.agg i.cells.toArray] w fun e w' => e = .returned (.int .i64 (IC.greatest i)) ∧ Below w.heap.size w w' := by
  have k : Hid (∀ w, Calls Tryz.prog 43 #[.agg i.cells.toArray] w fun e w' => e = .returned (.bool (IC.sized i)) ∧ Below w.heap.size w w') := fun w => sized_any i w
  obtain ⟨W, H, S, vc, cols, vm, cmds⟩ := i
  cases hs : IC.sized ⟨W, H, S, vc, cols, vm, cmds⟩
  · have e : IC.greatest ⟨W, H, S, vc, cols, vm, cmds⟩ = 0 := by unfold IC.greatest; rw [if_neg (by rw [hs]; decide)]
    rw [e]; rw [hs] at k; clear hs e
    simp only [IC.Icon.cells] at k ⊢
    go_enter Tryz.func44, Tryz.ntmps44
    go_wp2_with (go_at_call 43; refine (k.out _).mono ?_; rintro e w1 ⟨rfl, hb1⟩; obtain ⟨hc1, hf1⟩ := bcell hb1)
    go_ret
    exact ⟨rfl, chain ((Below.refl _ _).alloc (by omega) _) hb1⟩
  · have e : IC.greatest ⟨W, H, S, vc, cols, vm, cmds⟩ = 4 * max W H * 2 ^ S.toNat := by unfold IC.greatest; rw [if_pos hs]
    rw [e]; rw [hs] at k; clear e
    simp [IC.sized, IC.within] at hs
    obtain ⟨⟨w1, w2⟩, ⟨h1, h2⟩, s1, s2⟩ := hs
    simp only [IC.Icon.cells] at k ⊢
    have hS : S = 0 ∨ S = 1 ∨ S = 2 ∨ S = 3 ∨ S = 4 ∨ S = 5 ∨ S = 6 := by omega
    go_enter Tryz.func44, Tryz.ntmps44
    rcases hS with rfl | rfl | rfl | rfl | rfl | rfl | rfl <;>
    · go_wp2_with (go_at_call 43; refine (k.out _).mono ?_; rintro e w1 ⟨rfl, hb1⟩; obtain ⟨hc1, hf1⟩ := bcell hb1)
      all_goals
        go_ret
        exact ⟨ret_int (by rw [Int.max_def]; split <;> omega), chain ((Below.refl _ _).alloc (by omega) _) hb1⟩

set_option maxRecDepth 20000 in
theorem headed_any (far n : Int) (c : IC.Cmd) (w : World) :
    Calls Tryz.prog 72 #[.agg #[.int .i64 far, .int .i64 n], .agg c.cells.toArray] w fun e w' => e = .returned (.bool (IC.headed far c)) ∧ Below w.heap.size w w' := by
  obtain ⟨k, r, wd, pn, vp, paths⟩ := c
  have kw : Hid (∀ w, Calls Tryz.prog 95 #[.int .i64 wd, .int .i64 1, .int .i64 far] w fun e w' => e = .returned (.bool (IC.within wd 1 far)) ∧ w' = w) := fun w => within64_any wd 1 far w
  have e : IC.headed far ⟨k, r, wd, pn, vp, paths⟩ = (if k == 1 then ((r == 0) || (r == 1)) && (wd == 0) else if k == 2 then (r == 0) && IC.within wd 1 far else false) := rfl
  rw [e]; clear e
  generalize IC.within wd 1 far = b at kw ⊢
  simp only [IC.Cmd.cells]
  go_enter Tryz.func72, Tryz.ntmps72
  cases h1 : (k == 1) <;> cases h2 : (k == 2) <;> cases h3 : (r == 0) <;> cases h4 : (r == 1) <;>
  · go_wp2_with (go_at_call 95; refine (kw.out _).mono ?_; rintro e w1 ⟨rfl, rfl⟩)
    all_goals
      go_ret
      exact ⟨ret_bool (by simp), ((Below.refl _ _).alloc (by omega) _).alloc (by simp) _⟩

theorem errv0 (A : Nat → Addr) : errv A 0 = .nilIface := rfl
theorem errv1 (A : Nat → Addr) : errv A 1 = .iface 173 (.pointer (some (A 0))) := rfl
theorem errv2 (A : Nat → Addr) : errv A 2 = .iface 173 (.pointer (some (A 1))) := rfl
theorem errv3 (A : Nat → Addr) : errv A 3 = .iface 173 (.pointer (some (A 2))) := rfl

set_option maxRecDepth 20000 in
theorem flat_any (A : Nat → Addr) (far n : Int) (p : IC.Paint) (w : World) (hE : Errs3 w A) (hn : 0 ≤ n ∧ n ≤ 1000000) :
    Calls Tryz.prog 96 #[.agg #[.int .i64 far, .int .i64 n], .agg p.cells.toArray] w fun e w' => e = .returned (errv A (IC.chkFlat n p)) ∧ Below w.heap.size w w' := by
  obtain ⟨k, a, b, ⟨px, py⟩, ⟨qx, qy⟩⟩ := p
  have kp : Hid (∀ w, Calls Tryz.prog 114 #[.agg #[.int .i64 far, .int .i64 n], .int .i64 a] w fun e w' => e = .returned (.bool (IC.within a 0 (n - 1))) ∧ Below w.heap.size w w') := fun w => isplace_any far n a w hn
  have e : IC.chkFlat n ⟨k, a, b, ⟨px, py⟩, ⟨qx, qy⟩⟩ = (if !IC.within a 0 (n - 1) then 1 else if (b != 0) || !((px == 0) && (py == 0)) || !((qx == 0) && (qy == 0)) then 3 else 0) := rfl
  rw [e]; clear e
  generalize IC.within a 0 (n - 1) = t at kp ⊢
  have e0 := hE.c0
  have e2 := hE.c2
  have s0 := hE.s0
  have p0 := hE.pos
  have s2 := hE.s2
  clear hE hn
  simp only [IC.Paint.cells]
  go_enter Tryz.func96, Tryz.ntmps96
  cases t
  · go_wp2_with (go_at_call 114; refine (kp.out _).mono ?_; rintro e w1 ⟨rfl, hb1⟩; obtain ⟨hc1, hf1⟩ := bcell hb1)
    go_ret
    exact ⟨rfl, chain (((Below.refl _ _).alloc (by omega) _).alloc (by simp) _) hb1⟩
  · go_wp2_with (go_at_call 114; refine (kp.out _).mono ?_; rintro e w1 ⟨rfl, hb1⟩; obtain ⟨hc1, hf1⟩ := bcell hb1)
    all_goals
      go_ret
      exact ⟨ret_v (by simp [errv, *]), chain (((Below.refl _ _).alloc (by omega) _).alloc (by simp) _) hb1⟩

end Go.Proofs.YtcnlkdoifogkbaaGreatDoor

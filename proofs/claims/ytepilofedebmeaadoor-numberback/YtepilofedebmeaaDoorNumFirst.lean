/-
  The chapter's examples; remainders; what the statements over numbers share.
-/
import Derived.Test.YtepilofedebmeaaDoorNumShow
import Derived.Test.YtepilofedebmeaaDoorNumRead
namespace Go.Proofs.YtepilofedebmeaaDoor
open Go.RowKit

theorem text_15 : NP.text 1500000 = [49, 46, 53] := by
  unfold NP.text NP.frac; simp [Lib.decDigits, NP.sg, Lib.trimRightB]
theorem text_m1 : NP.text (-1) = [45, 48, 46, 48, 48, 48, 48, 48, 49] := by
  unfold NP.text NP.frac; simp [Lib.decDigits, NP.sg, Lib.trimRightB]

theorem first9_any (w : World) (htab : Lib.TabIs Tryd.prog w "internal/strconv.uint64pow10" .u64 Lib.pow10Tab) :
    Calls Tryd.prog 7 #[] w fun e w' => e = .returned (.bool true) ∧ Below w.heap.size w w' := by
  have k1 : Hid (Calls Tryd.prog 13 #[.int .i64 1500000] w fun e w' => e = .returned (.string ⟨#[49, 46, 53]⟩) ∧ Below w.heap.size w w') := by
    have := show_any 1500000 (by decide) (by decide) w htab
    rw [text_15] at this
    exact this
  have HTB := Lib.hid htab
  have k2 : Hid (∀ W, Below w.heap.size w W → Calls Tryd.prog 13 #[.int .i64 (-1)] W fun e w' => e = .returned (.string ⟨#[45, 48, 46, 48, 48, 48, 48, 48, 49]⟩) ∧ Below W.heap.size W w') := fun W hb => by
    have := show_any (-1) (by decide) (by decide) W (tab_below HTB.out hb)
    rw [text_m1] at this
    exact this
  clear htab
  go_enter Tryd.func7, Tryd.ntmps7
  go_wp2_with (first
    | (have v1 := u1; go_at_call 13; refine (k2.out _ hb1).mono ?_; rintro e w2 ⟨rfl, hb2⟩)
    | (go_at_call 13; refine k1.out.mono ?_; rintro e w1 ⟨rfl, hb1⟩; have u1 : True := trivial))
  go_ret
  exact ⟨rfl, chain hb1 hb2⟩

theorem rem_bound (a : Int) (m : Int) (hm : 0 < m) : -(m - 1) ≤ a.tmod m ∧ a.tmod m ≤ m - 1 := by
  rcases Int.le_total 0 a with h | h
  · rw [Int.tmod_eq_emod_of_nonneg h]
    have := Int.emod_nonneg a (Int.ne_of_gt hm)
    have := Int.emod_lt_of_pos a hm
    omega
  · have e : a.tmod m = -((-a).tmod m) := by rw [Int.neg_tmod]; omega
    rw [e, Int.tmod_eq_emod_of_nonneg (by omega)]
    have := Int.emod_nonneg (-a) (Int.ne_of_gt hm)
    have := Int.emod_lt_of_pos (-a) hm
    omega
theorem rem_down (n b : Int) (hb : 0 < b) : ∃ T, n.tmod b = T ∧ -b < T ∧ T < b := ⟨_, rfl, by have := rem_bound n b hb; omega, by have := rem_bound n b hb; omega⟩
theorem rem_up (n b : Int) (hn : 0 ≤ n) (hb : 0 < b) : ∃ T : Nat, n.tmod b = T ∧ (T : Int) < b := by
  have h := rem_bound n b hb
  have h0 : 0 ≤ n.tmod b := by rw [Int.tmod_eq_emod_of_nonneg hn]; exact Int.emod_nonneg n (Int.ne_of_gt hb)
  exact ⟨(n.tmod b).toNat, by omega, by omega⟩

end Go.Proofs.YtepilofedebmeaaDoor

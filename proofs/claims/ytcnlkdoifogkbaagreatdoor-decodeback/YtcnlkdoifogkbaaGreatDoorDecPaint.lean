/-
  A reader reads points, places of colors, lengths, a paint: walked over the program.
-/
import Derived.Test.YtcnlkdoifogkbaaGreatDoorDecPart
import Derived.Deep.RegionHeld3
namespace Go.Proofs.YtcnlkdoifogkbaaGreatDoor
open Go.RowKit

/-- What is read next of what was read. -/
theorem run_rest {α β : Type} (p : DP.P α) (f : α → DP.P β) (R : Except DP.Bad DP.St) : run (DP.andThen p f) R = match run p R with
    | .ok v => f v.1 v.2
    | .error e => .error e := by
  cases R with
  | error e => rfl
  | ok s =>
    show DP.andThen p f s = match p s with
      | .ok v => f v.1 v.2
      | .error e => .error e
    unfold DP.andThen
    cases p s <;> rfl

/-- A number as an int. -/
def lenV (R : Except DP.Bad (Nat × DP.St)) : Nat := valOf R

theorem length_any (x : Src) (q : Nat) (R : Except DP.Bad DP.St) (w : World) (h : Rs x q w R) :
    Calls Tryz.prog 56 #[.pointer (some ⟨q, 0, none⟩), .func (.func 86) #[.pointer (some ⟨q, 0, none⟩)] #[]] w fun e w' => e = .returned (.int .u64 (valOf (run (DP.length x.bs) R))) ∧ Rs x q w' (rest (run (DP.length x.bs) R)) ∧ Mk q w w' := by
  cases R with
  | error b => exact (number_bad x q b _ w h).mono fun e w' ⟨a, c⟩ => by subst c; exact ⟨a, h, Mk.refl _ _⟩
  | ok s => exact number_ok x q s (DP.between 1 s.far.toNat) 86 #[.pointer (some ⟨q, 0, none⟩)] #[] w h (rule_length x q s w h) (b13 _ _)

theorem length_le (x : Src) (q : Nat) (R : Except DP.Bad DP.St) (w : World) (h : Rs x q w R) : valOf (run (DP.length x.bs) R) ≤ 1048576 := by
  cases R with
  | error b => show 0 ≤ _; omega
  | ok s =>
    have hf := (show Rd x q w s from h).fit
    have f0 := hf.far0
    have f1 := hf.far1
    show valOf (DP.num x.bs (DP.between 1 s.far.toNat) s) ≤ _
    cases hN : DP.num x.bs (DP.between 1 s.far.toNat) s with
    | error b => show 0 ≤ _; omega
    | ok v =>
      obtain ⟨n, s'⟩ := v
      obtain ⟨-, h2, -⟩ := num_facts hN (show Rd x q w s from h).base.lt256
      unfold DP.between at h2
      split at h2
      · cases h2
      · show n ≤ _; omega

/-- A color's place. -/
def placeOr : Except DP.Bad (Nat × DP.St) → Nat := valOf

set_option maxRecDepth 20000 in
set_option maxHeartbeats 1000000 in
theorem place_ok (x : Src) (q : Nat) (s : DP.St) (w : World) (h : Rd x q w s) :
    Calls Tryz.prog 108 #[.pointer (some ⟨q, 0, none⟩)] w fun e w' => e = .returned (.int .i64 (valOf (DP.place x.bs s))) ∧ Rs x q w' (rest (DP.place x.bs s)) ∧ Mk q w w' := by
  obtain ⟨N, hN⟩ : ∃ N, DP.num x.bs (DP.placeRule s.cols.length s.used) s = N := ⟨_, rfl⟩
  have kn := hid'' (number_ok x q s (DP.placeRule s.cols.length s.used) 117 #[.pointer (some ⟨q, 0, none⟩)] #[] w h (rule_place x q s w h) (l13 _ _))
  have hb256 := h.base.lt256
  have hc := h.fit.cols
  rw [hN] at kn
  cases N with
  | error b =>
    have hP : DP.place x.bs s = .error b := DP.andThen_err hN
    rw [hP]
    obtain ⟨z, hz⟩ : ∃ z : Nat, valOf (.error b) = z ∧ z = 0 := ⟨_, rfl, rfl⟩
    rw [hz.1, hz.2] at kn
    rw [hz.1, hz.2]
    clear hN hP hz h
    go_enter Tryz.func108, Tryz.ntmps108
    go_upto_if 14 with (go_at_call 56; refine kn.out.mono ?_; rintro e w1 ⟨rfl, h1⟩
                        obtain ⟨hB, ⟨ao', n', cap', at', far, adc, nc, capc, used, pts, cl, g, h2, h3, h4⟩, h5⟩ := h1.1
                        have H1 := hid'' h1
                        have c5 := h2.cell 5
                        simp at c5
                        have f5 := h2.frozen 5
                        clear h1 h2 h3 h4 hB)
    by_cases hu : used = 0
    · subst hu
      go_wp2
      go_ret
      exact ⟨rfl, Rx.setAny H1.out.1 5 1 (by omega), H1.out.2.trans (Mk.self 5 _)⟩
    · have hu' : ((0 : Int) == used) = false := by simp; omega
      go_wp2
      go_ret
      exact ⟨rfl, H1.out⟩
  | ok v =>
    obtain ⟨n, s1⟩ := v
    obtain ⟨hn, hr, k, hs1, -⟩ := num_facts hN hb256
    have hP : DP.place x.bs s = .ok (n, { s1 with used := if n = s1.used then s1.used + 1 else s1.used }) := DP.andThen_ok hN
    rw [hP]
    have hu : s1.used = s.used := by rw [hs1]
    have hcl : s1.cols = s.cols := by rw [hs1]
    have hr' : n < s.cols.length ∧ n ≤ s.used := by
      unfold DP.placeRule at hr
      split at hr
      · cases hr
      · split at hr
        · cases hr
        · omega
    rw [← hcl] at hr' hc
    rw [← hu] at hr'
    have HR' : Hid (n < s1.cols.length ∧ n ≤ s1.used) := hr'
    have hn256 : n < 256 := by omega
    obtain ⟨U, hU⟩ : ∃ U, s1.used = U := ⟨_, rfl⟩
    have hUs : Hid (∀ W, Rs x q W (rest (.ok (n, s1))) → Rd x q W s1) := fun W h => h
    have kn2 : Hid (Calls Tryz.prog 56 #[.pointer (some ⟨q, 0, none⟩), .func (.func 117) #[.pointer (some ⟨q, 0, none⟩)] #[]] w fun e w' => e = .returned (.int .u64 n) ∧ Rd x q w' s1 ∧ Mk q w w') := kn.out
    have HV : Hid (∀ u, (valOf (Except.ok (n, ({ s1 with used := u } : DP.St))) = n)) := fun u => rfl
    have HU : Hid (s1.used = U) := hU
    obtain ⟨T, hT⟩ : ∃ T, (Except.ok (n, ({ s1 with used := if n = s1.used then s1.used + 1 else s1.used } : DP.St)) : Except DP.Bad (Nat × DP.St)) = T := ⟨_, rfl⟩
    have HT : Hid (T = Except.ok (n, ({ s1 with used := if n = s1.used then s1.used + 1 else s1.used } : DP.St))) := hT.symm
    rw [hT]
    clear hN hP hs1 hu hcl hr hr' hU kn h hT hUs HV
    go_enter Tryz.func108, Tryz.ntmps108
    go_upto_if 14 with (go_at_call 56; refine kn2.out.mono ?_; rintro e w1 ⟨rfl, h1⟩
                        have c5 : w1.cell? ⟨q, 5, none⟩ = some (.int .i64 U) := by rw [← HU.out]; exact h1.1.blk.cell 5
                        have f5 : w1.frozen? ⟨q, 5, none⟩ = false := h1.1.blk.frozen 5
                        have H1 := hid'' h1
                        clear h1)
    by_cases e : n = U
    · subst e
      go_wp2
      go_ret
      rw [HT.out, if_pos HU.out.symm, HU.out]
      have := H1.out.1.setUsed (n + 1) HR'.out.1
      rw [Int.natCast_add] at this
      exact ⟨rfl, this, H1.out.2.trans (Mk.self 5 _)⟩
    · have e' : ((n : Int) == (U : Int)) = false := by simp; omega
      go_wp2
      go_ret
      have e2 : ¬ n = s1.used := by rw [HU.out]; exact e
      rw [HT.out, if_neg e2]
      exact ⟨rfl, H1.out⟩

theorem place_any (x : Src) (q : Nat) (R : Except DP.Bad DP.St) (w : World) (h : Rs x q w R) :
    Calls Tryz.prog 108 #[.pointer (some ⟨q, 0, none⟩)] w fun e w' => e = .returned (.int .i64 (valOf (run (DP.place x.bs) R))) ∧ Rs x q w' (rest (run (DP.place x.bs) R)) ∧ Mk q w w' := by
  cases R with
  | ok s => exact place_ok x q s w h
  | error b =>
    have kn : Hid (Calls Tryz.prog 56 #[.pointer (some ⟨q, 0, none⟩), .func (.func 117) #[.pointer (some ⟨q, 0, none⟩)] #[]] w fun e w' => e = .returned (.int .u64 0) ∧ w' = w) := number_bad x q b _ w h
    obtain ⟨hB, ⟨ao', n', cap', at', far, adc, nc, capc, used, pts, cl, g, h2, h3, h4⟩, h5⟩ := id h
    have c5 := h2.cell 5
    simp at c5
    have f5 := h2.frozen 5
    have H1 : Hid (Rx x q w b) := h
    show Calls Tryz.prog 108 #[.pointer (some ⟨q, 0, none⟩)] w fun e w' => e = .returned (.int .i64 0) ∧ Rx x q w' b ∧ Mk q w w'
    clear h2 h3 h4 hB h
    go_enter Tryz.func108, Tryz.ntmps108
    go_upto_if 14 with (go_at_call 56; refine kn.out.mono ?_; rintro e w1 ⟨rfl, rfl⟩)
    by_cases hu : used = 0
    · subst hu
      go_wp2
      go_ret
      exact ⟨rfl, Rx.setAny H1.out 5 1 (by omega), Mk.self 5 _⟩
    · have hu' : ((0 : Int) == used) = false := by simp; omega
      go_wp2
      go_ret
      exact ⟨rfl, H1.out, Mk.refl _ _⟩

end Go.Proofs.YtcnlkdoifogkbaaGreatDoor

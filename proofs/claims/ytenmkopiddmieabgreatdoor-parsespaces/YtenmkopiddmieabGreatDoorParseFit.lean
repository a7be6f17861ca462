/-
  The words of a text are few, short, and within it.
-/
import Derived.Test.YtenmkopiddmieabGreatDoorJA
namespace Go.Proofs.YtenmkopiddmieabGreatDoor
namespace WP

theorem digits_six (l : List UInt8) : digits l ≤ 6 := by unfold digits; split <;> omega
theorem name_24 (l : List UInt8) : nameSize l ≤ 24 := by unfold nameSize; split <;> omega
theorem trim_ge (l : List UInt8) (c : UInt8) : l.length ≤ (Lib.trimPrefix l [c]).length + 1 := by
  unfold Lib.trimPrefix
  split
  · rw [List.length_drop]; simp; omega
  · omega
theorem numRest_ge (l r : List UInt8) (h : numRest l = some r) : l.length ≤ r.length + 14 := by
  unfold numRest at h
  have t1 := trim_ge l 45
  have d1 := digits_six (Lib.trimPrefix l [45])
  simp only at h
  split at h
  · cases h
  split at h
  · have t2 := trim_ge ((Lib.trimPrefix l [45]).drop (digits (Lib.trimPrefix l [45]))) 46
    have d2 := digits_six (Lib.trimPrefix ((Lib.trimPrefix l [45]).drop (digits (Lib.trimPrefix l [45]))) [46])
    rw [List.length_drop] at t2
    split at h
    · cases h
    split at h
    · cases h
    · cases h
      rw [List.length_drop]
      omega
  · split at h
    · cases h
    · cases h
      rw [List.length_drop]
      omega
theorem num_14 (l : List UInt8) : numSize l ≤ 14 := by
  unfold numSize
  split
  · omega
  · rename_i r hr
    have := numRest_ge l r hr
    omega
theorem col_9 (l : List UInt8) : colSize l ≤ 9 := by
  unfold colSize
  simp only
  split
  · omega
  · rename_i h
    simp only [not_or] at h
    have := h.1
    omega
theorem first_fit (l : List UInt8) : (first l).1 ≤ 6 ∧ (first l).2 ≤ 24 := by
  unfold first
  cases l with
  | nil => exact ⟨Nat.zero_le _, Nat.zero_le _⟩
  | cons c t =>
    have h1 := name_24 (c :: t)
    have h2 := num_14 (c :: t)
    have h3 := col_9 (c :: t)
    simp only
    split
    · split <;> exact ⟨by omega, h1⟩
    split
    · exact ⟨by omega, by omega⟩
    split
    · exact ⟨by omega, by omega⟩
    split
    · exact ⟨by omega, by omega⟩
    split <;> exact ⟨by omega, by omega⟩

theorem go_fit : ∀ (f n : Nat) (d : List UInt8) (N : Nat) (ws : List W), n + d.length ≤ N → go f n d = .ok ws → ws.length ≤ d.length ∧ ∀ u ∈ ws, u.2.2.length ≤ 24 ∧ u.2.1 ≤ N ∧ u.1 ≤ 6
  | 0, n, d, N, ws, _, h => by
    cases h
    exact ⟨Nat.zero_le _, fun u hu => absurd hu (by simp)⟩
  | f + 1, n, d, N, ws, hN, h => by
    unfold go at h
    split at h
    · cases h
      exact ⟨Nat.zero_le _, fun u hu => absurd hu (by simp)⟩
    split at h
    · cases h
    rename_i h0 h1
    have hf := first_fit d
    have hl := first_le d
    cases hr : go f (n + ((first d).2 + gap (d.drop (first d).2))) (d.drop ((first d).2 + gap (d.drop (first d).2))) with
    | error e => rw [hr] at h; cases h
    | ok l =>
      rw [hr] at h
      have hg := gap_le (d.drop (first d).2)
      rw [List.length_drop] at hg
      have := go_fit f _ _ N l (by rw [List.length_drop]; omega) hr
      rw [List.length_drop] at this
      have hw : ws = [((first d).1, n, d.take (first d).2)] ++ l := by
        unfold pre at h
        cases h
        rfl
      rw [hw]
      refine ⟨by rw [List.length_append, List.length_singleton]; omega, fun u hu => ?_⟩
      rcases List.mem_append.1 hu with hu | hu
      · rw [List.mem_singleton.1 hu]
        exact ⟨by rw [List.length_take]; omega, by show n ≤ N; omega, hf.1⟩
      · exact this.2 u hu
theorem split_fit {l : List UInt8} {ws : List W} (h : split l = .ok ws) : ws.length ≤ l.length ∧ ∀ u ∈ ws, u.2.2.length ≤ 24 ∧ u.2.1 ≤ l.length ∧ u.1 ≤ 6 := by
  have hg := gap_le l
  have := go_fit _ _ _ l.length ws (by rw [List.length_drop]; omega) h
  rw [List.length_drop] at this
  exact ⟨by omega, this.2⟩

end WP
end Go.Proofs.YtenmkopiddmieabGreatDoor

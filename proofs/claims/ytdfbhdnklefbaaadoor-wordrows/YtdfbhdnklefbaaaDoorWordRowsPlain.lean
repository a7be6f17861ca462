/-
  Words with blanks, lines, remarks between them, said plainly: they are read as these words.
-/
import Derived.Test.YtdfbhdnklefbaaaDoorWordSplit
namespace Go.Proofs.YtdfbhdnklefbaaaDoor
open Go.RowKit
namespace WP

def rts : List (List UInt8) := [[97, 98, 99], [120, 95, 49], [105, 99, 111, 110], [116, 117, 114, 110], [49, 50], [45, 48, 46, 53], [57, 57, 57, 57, 57, 57, 46, 57, 57, 57, 57, 57, 57], [35, 48, 48, 102, 102, 48, 48], [35, 49, 50, 51, 52, 53, 54, 55, 56], [123], [125], [59], [61], [77], [76], [81], [67], [65], [66], [90]]
def rgs : List (List UInt8) := [[32], [10], [9, 13, 32], [32, 47, 47, 32, 77, 32, 123, 10], [47, 47, 10]]
def rks : List Nat := [1, 1, 2, 2, 3, 3, 3, 4, 4, 5, 5, 5, 5, 6, 6, 6, 6, 6, 6, 6]
def rtext (k : Nat) : List UInt8 := rts.getD k []
def rgap (g : Nat) : List UInt8 := rgs.getD g []
def rkind (k : Nat) : Nat := rks.getD k 0

def rows : List (Nat × Nat) → List UInt8
  | [] => []
  | p :: ps => rtext p.1 ++ rgap p.2 ++ rows ps
def rwords (n : Nat) : List (Nat × Nat) → List W
  | [] => []
  | p :: ps => (rkind p.1, n, rtext p.1) :: rwords (n + ((rtext p.1).length + (rgap p.2).length)) ps

theorem rows_snoc (ps : List (Nat × Nat)) (p : Nat × Nat) : rows (ps ++ [p]) = rows ps ++ rtext p.1 ++ rgap p.2 := by
  induction ps with
  | nil => simp [rows]
  | cons q ps ih => simp only [List.cons_append, rows, ih, List.append_assoc]

theorem first_num (c : UInt8) (t r : List UInt8) (h1 : small c = false) (h2 : c.toNat = 45 ∨ digit c = true) (h : numRest (c :: t) = some r) (n : Nat) (hn : (c :: t).length = n + r.length) : first (c :: t) = (3, n) := by
  unfold first
  simp only [h1, if_neg Bool.false_ne_true, if_pos h2, numSize, h, hn]
  rw [Nat.add_sub_cancel]

theorem gap_step (g : Nat) (hg : g < 5) (r : List UInt8) : gap (rgap g ++ r) = gap r + (rgap g).length := by
  have : g = 0 ∨ g = 1 ∨ g = 2 ∨ g = 3 ∨ g = 4 := by omega
  rcases this with rfl | rfl | rfl | rfl | rfl <;> rfl

/-- A word ahead of a sign that ends each. -/
def ends (c : UInt8) : Prop := c = 32 ∨ c = 10 ∨ c = 9 ∨ c = 47

theorem gap_head (g : Nat) (hg : g < 5) : ∃ c t, rgap g = c :: t ∧ ends c := by
  have : g = 0 ∨ g = 1 ∨ g = 2 ∨ g = 3 ∨ g = 4 := by omega
  rcases this with rfl | rfl | rfl | rfl | rfl
  · exact ⟨_, _, rfl, .inl rfl⟩
  · exact ⟨_, _, rfl, .inr (.inl rfl)⟩
  · exact ⟨_, _, rfl, .inr (.inr (.inl rfl))⟩
  · exact ⟨_, _, rfl, .inl rfl⟩
  · exact ⟨_, _, rfl, .inr (.inr (.inr rfl))⟩

set_option maxRecDepth 20000 in
theorem first_step (k : Nat) (hk : k < 20) (c : UInt8) (hc : ends c) (r : List UInt8) : first (rtext k ++ c :: r) = (rkind k, (rtext k).length) := by
  have : k = 0 ∨ k = 1 ∨ k = 2 ∨ k = 3 ∨ k = 4 ∨ k = 5 ∨ k = 6 ∨ k = 7 ∨ k = 8 ∨ k = 9 ∨ k = 10 ∨ k = 11 ∨ k = 12 ∨ k = 13 ∨ k = 14 ∨ k = 15 ∨ k = 16 ∨ k = 17 ∨ k = 18 ∨ k = 19 := by omega
  rcases this with rfl | rfl | rfl | rfl | rfl | rfl | rfl | rfl | rfl | rfl | rfl | rfl | rfl | rfl | rfl | rfl | rfl | rfl | rfl | rfl
  · rcases hc with rfl | rfl | rfl | rfl
    all_goals rfl
  · rcases hc with rfl | rfl | rfl | rfl
    all_goals rfl
  · rcases hc with rfl | rfl | rfl | rfl
    all_goals rfl
  · rcases hc with rfl | rfl | rfl | rfl
    all_goals rfl
  · rcases hc with rfl | rfl | rfl | rfl
    · exact first_num 49 (50 :: 32 :: r) (32 :: r) (by decide) (by decide) (by rfl) 2 (by simp only [List.length_cons]; omega)
    · exact first_num 49 (50 :: 10 :: r) (10 :: r) (by decide) (by decide) (by rfl) 2 (by simp only [List.length_cons]; omega)
    · exact first_num 49 (50 :: 9 :: r) (9 :: r) (by decide) (by decide) (by rfl) 2 (by simp only [List.length_cons]; omega)
    · exact first_num 49 (50 :: 47 :: r) (47 :: r) (by decide) (by decide) (by rfl) 2 (by simp only [List.length_cons]; omega)
  · rcases hc with rfl | rfl | rfl | rfl
    · exact first_num 45 (48 :: 46 :: 53 :: 32 :: r) (32 :: r) (by decide) (by decide) (by rfl) 4 (by simp only [List.length_cons]; omega)
    · exact first_num 45 (48 :: 46 :: 53 :: 10 :: r) (10 :: r) (by decide) (by decide) (by rfl) 4 (by simp only [List.length_cons]; omega)
    · exact first_num 45 (48 :: 46 :: 53 :: 9 :: r) (9 :: r) (by decide) (by decide) (by rfl) 4 (by simp only [List.length_cons]; omega)
    · exact first_num 45 (48 :: 46 :: 53 :: 47 :: r) (47 :: r) (by decide) (by decide) (by rfl) 4 (by simp only [List.length_cons]; omega)
  · rcases hc with rfl | rfl | rfl | rfl
    · exact first_num 57 (57 :: 57 :: 57 :: 57 :: 57 :: 46 :: 57 :: 57 :: 57 :: 57 :: 57 :: 57 :: 32 :: r) (32 :: r) (by decide) (by decide) (by rfl) 13 (by simp only [List.length_cons]; omega)
    · exact first_num 57 (57 :: 57 :: 57 :: 57 :: 57 :: 46 :: 57 :: 57 :: 57 :: 57 :: 57 :: 57 :: 10 :: r) (10 :: r) (by decide) (by decide) (by rfl) 13 (by simp only [List.length_cons]; omega)
    · exact first_num 57 (57 :: 57 :: 57 :: 57 :: 57 :: 46 :: 57 :: 57 :: 57 :: 57 :: 57 :: 57 :: 9 :: r) (9 :: r) (by decide) (by decide) (by rfl) 13 (by simp only [List.length_cons]; omega)
    · exact first_num 57 (57 :: 57 :: 57 :: 57 :: 57 :: 46 :: 57 :: 57 :: 57 :: 57 :: 57 :: 57 :: 47 :: r) (47 :: r) (by decide) (by decide) (by rfl) 13 (by simp only [List.length_cons]; omega)
  · rcases hc with rfl | rfl | rfl | rfl
    all_goals rfl
  · rcases hc with rfl | rfl | rfl | rfl
    all_goals rfl
  · rcases hc with rfl | rfl | rfl | rfl
    all_goals rfl
  · rcases hc with rfl | rfl | rfl | rfl
    all_goals rfl
  · rcases hc with rfl | rfl | rfl | rfl
    all_goals rfl
  · rcases hc with rfl | rfl | rfl | rfl
    all_goals rfl
  · rcases hc with rfl | rfl | rfl | rfl
    all_goals rfl
  · rcases hc with rfl | rfl | rfl | rfl
    all_goals rfl
  · rcases hc with rfl | rfl | rfl | rfl
    all_goals rfl
  · rcases hc with rfl | rfl | rfl | rfl
    all_goals rfl
  · rcases hc with rfl | rfl | rfl | rfl
    all_goals rfl
  · rcases hc with rfl | rfl | rfl | rfl
    all_goals rfl
  · rcases hc with rfl | rfl | rfl | rfl
    all_goals rfl

theorem text_head (k : Nat) (hk : k < 20) : ∃ c t, rtext k = c :: t ∧ blank c = false ∧ c ≠ 47 := by
  have : ∀ i : Fin 20, (match rtext i.val with | [] => false | c :: _ => !blank c && decide (c ≠ 47)) = true := by decide +kernel
  have h := this ⟨k, hk⟩
  simp only at h
  cases e : rtext k with
  | nil => rw [e] at h; cases h
  | cons c t =>
    rw [e] at h
    simp only [Bool.and_eq_true, Bool.not_eq_true', decide_eq_true_eq] at h
    exact ⟨c, t, rfl, h.1, h.2⟩

theorem gap_rows (ps : List (Nat × Nat)) (h : ∀ p ∈ ps, p.1 < 20 ∧ p.2 < 5) : gap (rows ps) = 0 := by
  cases ps with
  | nil => rfl
  | cons p ps =>
    obtain ⟨c, t, e, h1, h2⟩ := text_head p.1 (h p (by simp)).1
    rw [rows, e, List.cons_append, List.cons_append]
    refine gap_none _ c h1 ?_
    simp only [Lib.hasPrefix, List.isPrefixOf]
    have : ((47 : UInt8) == c) = false := by simpa using fun e => h2 e.symm
    rw [this]
    rfl

theorem go_rows : ∀ (ps : List (Nat × Nat)) (f n : Nat), (∀ p ∈ ps, p.1 < 20 ∧ p.2 < 5) → (rows ps).length < f → go f n (rows ps) = .ok (rwords n ps) := by
  intro ps
  induction ps with
  | nil =>
    intro f n _ hf
    cases f with
    | zero => simp at hf
    | succ f => simp [go, rows, rwords]
  | cons p ps ih =>
    intro f n h hf
    obtain ⟨k, g⟩ := p
    have hk := (h (k, g) (by simp)).1
    have hg := (h (k, g) (by simp)).2
    have hps : ∀ p ∈ ps, p.1 < 20 ∧ p.2 < 5 := fun p hp => h p (by simp [hp])
    obtain ⟨c, t, e, hc⟩ := gap_head g hg
    obtain ⟨c0, t0, e0, -, -⟩ := text_head k hk
    cases f with
    | zero => simp at hf
    | succ f =>
      have hl : (rows ((k, g) :: ps)).length = (rtext k).length + ((rgap g).length + (rows ps).length) := by simp [rows]
      have hF : first (rows ((k, g) :: ps)) = (rkind k, (rtext k).length) := by
        show first (rtext k ++ rgap g ++ rows ps) = _
        rw [e, List.append_assoc, List.cons_append]
        exact first_step k hk c hc _
      have hd : (rows ((k, g) :: ps)).drop (rtext k).length = rgap g ++ rows ps := by
        show (rtext k ++ rgap g ++ rows ps).drop _ = _
        rw [List.append_assoc, List.drop_left]
      have ht : (rows ((k, g) :: ps)).take (rtext k).length = rtext k := by
        show (rtext k ++ rgap g ++ rows ps).take _ = _
        rw [List.append_assoc, List.take_left]
      have hG : gap (rgap g ++ rows ps) = (rgap g).length := by rw [gap_step g hg, gap_rows ps hps, Nat.zero_add]
      have h0 : 0 < (rtext k).length := by rw [e0]; simp
      have hne : rows ((k, g) :: ps) ≠ [] := by intro e; rw [e] at hl; simp at hl; omega
      have hdd : (rows ((k, g) :: ps)).drop ((rtext k).length + (rgap g).length) = rows ps := by
        rw [← List.drop_drop, hd, List.drop_left]
      unfold go
      rw [if_neg hne, hF, if_neg (by simp only; omega)]
      simp only [hd, hG, ht, hdd]
      rw [ih f _ hps (by omega)]
      rfl

theorem split_rows (ps : List (Nat × Nat)) (h : ∀ p ∈ ps, p.1 < 20 ∧ p.2 < 5) : split (rows ps) = .ok (rwords 0 ps) := by
  unfold split
  rw [gap_rows ps h, List.drop_zero]
  exact go_rows ps _ 0 h (Nat.lt_succ_self _)

theorem rwords_len (ps : List (Nat × Nat)) : ∀ n, (rwords n ps).length = ps.length := by
  induction ps with
  | nil => intro n; rfl
  | cons p ps ih => intro n; simp [rwords, ih]

theorem rwords_at (ps : List (Nat × Nat)) : ∀ (n i : Nat) (hi : i < ps.length), (rwords n ps)[i]? = some (rkind ps[i].1, n + (rows (ps.take i)).length, rtext ps[i].1) := by
  induction ps with
  | nil => intro n i hi; simp at hi
  | cons p ps ih =>
    intro n i hi
    cases i with
    | zero => simp [rwords, rows]
    | succ i =>
      simp only [rwords, List.getElem?_cons_succ, List.getElem_cons_succ, List.take_succ_cons, rows, List.length_append]
      rw [ih _ i (by simpa using hi)]
      simp only [Nat.add_assoc]

theorem rows_take (ps : List (Nat × Nat)) (i : Nat) (hi : i < ps.length) : rows (ps.take (i + 1)) = rows (ps.take i) ++ rtext ps[i].1 ++ rgap ps[i].2 := by
  rw [List.take_succ_eq_append_getElem hi, rows_snoc]

theorem rows_split (ps : List (Nat × Nat)) : ∀ (i : Nat), rows ps = rows (ps.take i) ++ rows (ps.drop i) := by
  induction ps with
  | nil => intro i; simp [rows]
  | cons p ps ih =>
    intro i
    cases i with
    | zero => simp [rows]
    | succ i => simp only [List.take_succ_cons, List.drop_succ_cons, rows, List.append_assoc]; rw [← ih i]

theorem rows_piece (ps : List (Nat × Nat)) (i : Nat) (hi : i < ps.length) : ((rows ps).drop (rows (ps.take i)).length).take (rtext ps[i].1).length = rtext ps[i].1 := by
  conv => lhs; rw [rows_split ps i]
  rw [List.drop_left, List.drop_eq_getElem_cons hi, rows, List.append_assoc, List.take_left]

theorem rlen (k g : Nat) (hk : k < 20) (hg : g < 5) : 1 ≤ (rtext k).length ∧ (rtext k).length ≤ 13 ∧ (rgap g).length ≤ 8 := by
  have h1 : ∀ i : Fin 20, 1 ≤ (rtext i.val).length ∧ (rtext i.val).length ≤ 13 := by decide +kernel
  have h2 : ∀ i : Fin 5, (rgap i.val).length ≤ 8 := by decide +kernel
  exact ⟨(h1 ⟨k, hk⟩).1, (h1 ⟨k, hk⟩).2, h2 ⟨g, hg⟩⟩

theorem rows_len (ps : List (Nat × Nat)) (h : ∀ p ∈ ps, p.1 < 20 ∧ p.2 < 5) : (rows ps).length ≤ 21 * ps.length := by
  induction ps with
  | nil => exact Nat.le_refl _
  | cons p ps ih =>
    have := rlen p.1 p.2 (h p (by simp)).1 (h p (by simp)).2
    have := ih (fun p hp => h p (by simp [hp]))
    simp only [rows, List.length_append, List.length_cons]
    omega

end WP
end Go.Proofs.YtdfbhdnklefbaaaDoor

/-
  What each piece of a written icon leaves of the words: no more, and less where it has to take one.
-/
import Derived.Test.YtenmkopiddmieabGreatDoorParsePlain
namespace Go.Proofs.YtenmkopiddmieabGreatDoor
namespace PP

abbrev St.n (s : St) : Nat := s.ws.length

theorem tl_n (s : St) : s.tl.n = s.n - 1 := by unfold St.tl St.n; simp
theorem fail_n (c : Nat) (s : St) : (s.fail c).n = 0 := rfl
theorem skip_le (t : Tx) (s : St) : (s.skip t).n ≤ s.n - 1 := by unfold St.skip; split <;> simp [tl_n, fail_n]
theorem need_le (k : Nat) (s : St) : (s.need k).n ≤ s.n := by unfold St.need; split <;> simp [fail_n]
theorem more_le (m n : Nat) (s : St) : (s.more m n).n ≤ s.n := by unfold St.more; split <;> simp [fail_n]
theorem more_end (m : Nat) (s : St) : (s.more m m).n = 0 := by unfold St.more; rw [if_pos rfl]; rfl
theorem numb_le (s : St) : (numb s).2.n ≤ s.n - 1 := by unfold numb; split <;> simp [tl_n, fail_n]
theorem colr_le (s : St) : (colr s).2.n ≤ s.n - 1 := by unfold colr; split <;> simp [tl_n, fail_n]
theorem whol_le (s : St) : (whol s).2.n ≤ s.n - 1 := by unfold whol; split <;> simp [tl_n, fail_n]
theorem turn_le (s : St) : (turn s).2.n ≤ s.n - 1 := by
  unfold turn
  refine Nat.le_trans (whol_le _) ?_
  split
  · split <;> simp [fail_n]
  · exact Nat.le_refl _
theorem name_le (s : St) : (nameW s).2.n ≤ s.n - 1 := by unfold nameW; have := need_le 1 s; simp only [tl_n]; omega
theorem val_le (s : St) : (val s).2.n ≤ s.n - 1 := by
  unfold val
  split
  · simp [tl_n]
  · exact numb_le s
theorem ref_le (s : St) : (ref s).2.n ≤ s.n - 1 := by
  unfold ref
  split
  · simp [tl_n]
  · exact colr_le s
theorem vals_le : ∀ (k : Nat) (s : St), (vals k s).2.n ≤ s.n
  | 0, _ => Nat.le_refl _
  | k + 1, s => by
    have h1 := vals_le k (val s).2
    have h2 := val_le s
    show (vals k (val s).2).2.n ≤ _
    omega
theorem step_le (s : St) : (step s).2.n ≤ s.n - 1 := by
  have := vals_le (letter s.nx.2.2).2 s.tl
  rw [tl_n] at this
  exact this
theorem stepsGo_le : ∀ (f : Nat) (l : List Step) (s : St), (stepsGo f l s).2.n ≤ s.n
  | 0, _, _ => Nat.le_refl _
  | f + 1, l, s => by
    unfold stepsGo
    split
    · have h1 := stepsGo_le f (l ++ [(step (s.more 1000 l.length)).1]) (step (s.more 1000 l.length)).2
      have h2 := step_le (s.more 1000 l.length)
      have h3 := more_le 1000 l.length s
      omega
    · exact Nat.le_refl _
theorem steps_le (s : St) : (steps s).2.n ≤ s.n := Nat.le_trans (stepsGo_le _ _ _) (need_le 6 s)
theorem path_le (s : St) : (path s).2.n ≤ s.n - 1 := by
  have h1 := skip_le k_path s
  have h2 := steps_le (s.skip k_path)
  have h3 := skip_le m_semi (steps (s.skip k_path)).2
  show ((steps (s.skip k_path)).2.skip m_semi).n ≤ _
  omega
theorem useBy_le (p : Nat) (s : St) : (useBy p s).2.n ≤ s.n := by
  unfold useBy
  split
  · have := val_le s.tl; rw [tl_n] at this; omega
  · exact Nat.le_refl _
theorem useTurn_le (s : St) : (useTurn s).2.n ≤ s.n := by
  unfold useTurn
  split
  · have := turn_le s.tl; rw [tl_n] at this; omega
  · exact Nat.le_refl _
theorem use_le (s : St) : (use s).2.n ≤ s.n - 1 := by
  have h1 := skip_le k_use s
  have h2 := name_le (s.skip k_use)
  have h3 := skip_le k_at (nameW (s.skip k_use)).2
  have h4 := val_le ((nameW (s.skip k_use)).2.skip k_at)
  have h5 := val_le (val ((nameW (s.skip k_use)).2.skip k_at)).2
  have h6 := useBy_le s.nx.2.1 (val (val ((nameW (s.skip k_use)).2.skip k_at)).2).2
  have h7 := useTurn_le (useBy s.nx.2.1 (val (val ((nameW (s.skip k_use)).2.skip k_at)).2).2).2
  have h8 := skip_le m_semi (useTurn (useBy s.nx.2.1 (val (val ((nameW (s.skip k_use)).2.skip k_at)).2).2).2).2
  show ((useTurn (useBy s.nx.2.1 (val (val ((nameW (s.skip k_use)).2.skip k_at)).2).2).2).2.skip m_semi).n ≤ _
  omega
theorem item_le (s : St) : (item s).2.n ≤ s.n - 1 := by
  unfold item
  split
  · exact path_le s
  · exact use_le s
theorem itemsGo_le : ∀ (f : Nat) (l : List Item) (s : St), (itemsGo f l s).2.n ≤ s.n
  | 0, _, _ => Nat.le_refl _
  | f + 1, l, s => by
    unfold itemsGo
    split
    · have h1 := itemsGo_le f (l ++ [(item (s.more 400 l.length)).1]) (item (s.more 400 l.length)).2
      have h2 := item_le (s.more 400 l.length)
      have h3 := more_le 400 l.length s
      omega
    · exact Nat.le_refl _
theorem items_le (s : St) : (items s).2.n ≤ s.n := by
  have h1 := skip_le m_open s
  have h2 := itemsGo_le ((s.skip m_open).ws.length + 1) [] (s.skip m_open)
  have h3 := skip_le m_shut (itemsGo ((s.skip m_open).ws.length + 1) [] (s.skip m_open)).2
  show ((itemsGo ((s.skip m_open).ws.length + 1) [] (s.skip m_open)).2.skip m_shut).n ≤ _
  omega
theorem rule_le (s : St) : (rule s).2.n ≤ s.n := by
  unfold rule
  split
  · simp [tl_n]
  · have := skip_le k_evenodd s; exact Nat.le_trans this (by omega)
theorem between_le (k n : Nat) (s : St) : (between k n s).2.n ≤ s.n := by
  have h1 := ref_le s
  have h2 := ref_le (ref s).2
  have h3 := vals_le n (ref (ref s).2).2
  show (vals n (ref (ref s).2).2).2.n ≤ _
  omega
theorem paint_le (s : St) : (paint s).2.n ≤ s.n := by
  unfold paint
  split
  · have := between_le 1 4 s.tl; rw [tl_n] at this; omega
  · split
    · have := between_le 2 3 s.tl; rw [tl_n] at this; omega
    · have := ref_le s; exact Nat.le_trans this (by omega)
theorem cmd_le (s : St) : (cmd s).2.n ≤ s.n - 1 := by
  unfold cmd
  split
  · have h1 := rule_le s.tl
    have h2 := paint_le (rule s.tl).2
    have h3 := items_le (paint (rule s.tl).2).2
    rw [tl_n] at h1
    show (items (paint (rule s.tl).2).2).2.n ≤ _
    omega
  · have h0 := skip_le k_line s
    have h1 := val_le (s.skip k_line)
    have h2 := paint_le (val (s.skip k_line)).2
    have h3 := items_le (paint (val (s.skip k_line)).2).2
    show (items (paint (val (s.skip k_line)).2).2).2.n ≤ _
    omega
theorem const_le (s : St) : (const s).2.n ≤ s.n - 1 := by
  have h1 := name_le s
  have h2 := skip_le m_eq (nameW s).2
  have h3 := numb_le ((nameW s).2.skip m_eq)
  have h4 := skip_le m_semi (numb ((nameW s).2.skip m_eq)).2
  show ((numb ((nameW s).2.skip m_eq)).2.skip m_semi).n ≤ _
  omega
theorem named_le (s : St) : (named s).2.n ≤ s.n - 1 := by
  have h1 := name_le s
  have h2 := skip_le m_eq (nameW s).2
  have h3 := colr_le ((nameW s).2.skip m_eq)
  have h4 := skip_le m_semi (colr ((nameW s).2.skip m_eq)).2
  show ((colr ((nameW s).2.skip m_eq)).2.skip m_semi).n ≤ _
  omega
theorem shape_le (s : St) : (shape s).2.n ≤ s.n - 1 := by
  have h1 := name_le s
  have h2 := items_le (nameW s).2
  show (items (nameW s).2).2.n ≤ _
  omega
theorem part_le (x : Src) (s : St) : (part x s).2.n ≤ s.n - 1 := by
  have hn := need_le 1 s.tl
  rw [tl_n] at hn
  unfold part
  split
  · have h1 := more_le 64 x.consts.length (s.tl.need 1)
    have h2 := const_le ((s.tl.need 1).more 64 x.consts.length)
    show (const ((s.tl.need 1).more 64 x.consts.length)).2.n ≤ _
    omega
  split
  · have h1 := more_le 64 x.colors.length (s.tl.need 1)
    have h2 := named_le ((s.tl.need 1).more 64 x.colors.length)
    show (named ((s.tl.need 1).more 64 x.colors.length)).2.n ≤ _
    omega
  split
  · have h1 := more_le 64 x.shapes.length (s.tl.need 1)
    have h2 := shape_le ((s.tl.need 1).more 64 x.shapes.length)
    show (shape ((s.tl.need 1).more 64 x.shapes.length)).2.n ≤ _
    omega
  split
  · have h1 := more_le 200 x.cmds.length s
    have h2 := cmd_le (s.more 200 x.cmds.length)
    show (cmd (s.more 200 x.cmds.length)).2.n ≤ _
    omega
  · show (s.fail 0).n ≤ _
    rw [fail_n]
    omega

theorem nx_nil {s : St} (h : s.n = 0) : s.nx = (0, s.fin, []) := by
  obtain ⟨f, ws, er⟩ := s
  cases ws with
  | nil => rfl
  | cons => simp [St.n] at h
theorem pos_of_kind {s : St} {k : Nat} (h : s.nx.1 = k) (hk : k ≠ 0) : 0 < s.n := by
  rcases Nat.eq_zero_or_pos s.n with h0 | h0
  · rw [nx_nil h0] at h; exact absurd h.symm hk
  · exact h0
theorem pos_of_is {s : St} {t : Tx} (h : s.is t = true) (ht : t ≠ []) : 0 < s.n := by
  rcases Nat.eq_zero_or_pos s.n with h0 | h0
  · unfold St.is at h
    rw [nx_nil h0] at h
    simp at h
    exact absurd h ht
  · exact h0

end PP
end Go.Proofs.YtenmkopiddmieabGreatDoor

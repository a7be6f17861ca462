/-
  The document's word at a place, whatever it is; the document's words of a text: walked over the document's text.
-/
import Derived.Test.YtbniikaebkmbhaaDoorWordRef5
import Derived.Test.YtbniikaebkmbhaaDoorErrsSee
namespace Go.Proofs.YtbniikaebkmbhaaDoor
open Go.RowKit

namespace WP
/-- The word at a place; of kind 0: none. -/
def wd (d : List UInt8) (p : Nat) : W := if (first d).2 = 0 then (0, 0, []) else ((first d).1, p, d.take (first d).2)
/-- The words from a place on. -/
def spl (f p : Nat) (d : List UInt8) : Except Nat (List W) := go f (p + gap d) (d.drop (gap d))

theorem cases_mark (c : UInt8) : mark c = true ↔ c.toNat = 123 ∨ c.toNat = 125 ∨ c.toNat = 59 ∨ c.toNat = 61 := by unfold mark; simp [or_assoc]
theorem cases_step (c : UInt8) : step c = true ↔ c.toNat = 77 ∨ c.toNat = 76 ∨ c.toNat = 81 ∨ c.toNat = 67 ∨ c.toNat = 65 ∨ c.toNat = 66 ∨ c.toNat = 90 := by unfold step; simp [or_assoc]

theorem wd_small (c : UInt8) (t : List UInt8) (p N : Nat) (h : small c = true) (hN : count nsign (c :: t) = N) : wd (c :: t) p = if 24 < N then (0, 0, []) else if reserved ((c :: t).take N) then (2, p, (c :: t).take N) else (1, p, (c :: t).take N) := by
  have h0 : N ≠ 0 := by rw [← hN]; simp [count, nsign, h]
  unfold wd first nameSize
  rw [hN]
  simp only [h, if_true]
  by_cases g : 24 < N
  · simp only [if_pos g, List.take_zero]
    have : reserved [] = false := by decide
    rw [this]
    rfl
  · simp only [if_neg g]
    by_cases r : reserved ((c :: t).take N) = true
    · simp [r, h0]
    · simp [r, h0]

theorem wd_num (c : UInt8) (t : List UInt8) (p E : Nat) (h : small c = false) (h2 : c.toNat = 45 ∨ digit c = true) (hE : numEnd (c :: t) = E) : wd (c :: t) p = if E = 0 ∨ glued ((c :: t).drop E) = true then (0, 0, []) else (3, p, (c :: t).take E) := by
  unfold wd first
  simp only [h, if_neg Bool.false_ne_true, if_pos h2, numSize_end, hE]
  by_cases g : E = 0 ∨ glued ((c :: t).drop E) = true
  · simp only [if_pos g, if_true]
  · have : E ≠ 0 := fun e => g (.inl e)
    simp only [if_neg g, if_neg this]

theorem wd_col (c : UInt8) (t : List UInt8) (p N : Nat) (hn : c.toNat = 35) (hN : count cdig t = N) : wd (c :: t) p = if (N ≠ 6 ∧ N ≠ 8) ∨ glued ((c :: t).drop (1 + N)) = true then (0, 0, []) else (4, p, (c :: t).take (1 + N)) := by
  have h1 : small c = false := by unfold small; rw [hn]; rfl
  have h2 : ¬ (c.toNat = 45 ∨ digit c = true) := by unfold digit; rw [hn]; simp
  unfold wd first
  simp only [h1, if_neg Bool.false_ne_true, if_neg h2, if_pos hn, colSize, List.drop_succ_cons, List.drop_zero, hN]
  by_cases g : (N ≠ 6 ∧ N ≠ 8) ∨ glued ((c :: t).drop (1 + N)) = true
  · simp only [if_pos g, if_true]
  · simp only [if_neg g, if_neg (show ¬ (1 + N = 0) by omega)]

theorem wd_other (c : UInt8) (t : List UInt8) (p : Nat) (h1 : small c = false) (h2 : ¬ (c.toNat = 45 ∨ digit c = true)) (h3 : ¬ c.toNat = 35) : wd (c :: t) p = if mark c then (5, p, (c :: t).take 1) else if step c then (if begins sign t then (0, 0, []) else (6, p, (c :: t).take 1)) else (0, 0, []) := by
  unfold wd first
  simp only [h1, if_neg Bool.false_ne_true, if_neg h2, if_neg h3]
  cases mark c
  · cases step c
    · rfl
    · cases begins sign t <;> rfl
  · rfl
end WP

theorem rword_any (s : ByteArray) (p : Nat) (w : World) (hp : p < s.size) (hs : s.size ≤ 1000000) :
    Calls Tryd.prog 22 #[.string s, .int .i64 p] w (RWPost w (WP.wd (s.data.toList.drop p) p)) := by
  cases hl : s.data.toList.drop p with
  | nil => have := drop_nil s p hl; omega
  | cons c t =>
    obtain ⟨-, hc, ht⟩ := at_drop s p c t hl
    by_cases h1 : WP.small c = true
    · exact rword_small s p _ _ c w hp hc hs h1 rfl (by rw [hl]; exact WP.wd_small c t p _ h1 rfl)
    · have h1' : WP.small c = false := by simpa using h1
      by_cases h2 : c.toNat = 45 ∨ WP.digit c = true
      · refine rword_num s p _ _ c w hp hc hs h1' ?_ rfl ?_ (by rw [hl]; exact WP.wd_num c t p _ h1' h2 rfl)
        · by_cases h45 : c.toNat = 45
          · exact .inl (by rw [h45]; rfl)
          · exact .inr ⟨by simp; omega, h2.resolve_left h45⟩
        · have := WP.numEnd_le (s.data.toList.drop p) (by rw [hl]; simp)
          rw [List.length_drop, ← Lib.size_eq] at this
          omega
      · by_cases h3 : c.toNat = 35
        · have e : (c :: t).drop (1 + WP.count WP.cdig t) = s.data.toList.drop (p + 1 + WP.count WP.cdig t) := by rw [← hl, List.drop_drop, Nat.add_assoc]
          have h := WP.wd_col c t p _ h3 rfl
          rw [e] at h
          exact rword_col s p (WP.count WP.cdig t) _ c w hp hc hs h3 (by rw [ht]) (by rw [hl]; exact h)
        · have ho := WP.wd_other c t p h1' h2 h3
          by_cases hm : WP.mark c = true
          · rw [if_pos hm] at ho
            rcases (WP.cases_mark c).1 hm with hn | hn | hn | hn
            · exact rword_mark123 s p _ c w hp hc hs hn (by rw [hl]; exact ho)
            · exact rword_mark125 s p _ c w hp hc hs hn (by rw [hl]; exact ho)
            · exact rword_mark59 s p _ c w hp hc hs hn (by rw [hl]; exact ho)
            · exact rword_mark61 s p _ c w hp hc hs hn (by rw [hl]; exact ho)
          · rw [if_neg hm] at ho
            by_cases hst : WP.step c = true
            · rw [if_pos hst] at ho
              rcases (WP.cases_step c).1 hst with hn | hn | hn | hn | hn | hn | hn
              · exact rword_step77 s p _ c w hp hc hs hn (by rw [ht, hl]; exact ho)
              · exact rword_step76 s p _ c w hp hc hs hn (by rw [ht, hl]; exact ho)
              · exact rword_step81 s p _ c w hp hc hs hn (by rw [ht, hl]; exact ho)
              · exact rword_step67 s p _ c w hp hc hs hn (by rw [ht, hl]; exact ho)
              · exact rword_step65 s p _ c w hp hc hs hn (by rw [ht, hl]; exact ho)
              · exact rword_step66 s p _ c w hp hc hs hn (by rw [ht, hl]; exact ho)
              · exact rword_step90 s p _ c w hp hc hs hn (by rw [ht, hl]; exact ho)
            · rw [if_neg hst] at ho
              refine rword_none s p _ c w hp hc h1' (by cases hd : WP.digit c with | true => exact absurd (.inr hd) h2 | false => rfl) (fun k hk => ?_) ho
              have nm : ¬ (c.toNat = 123 ∨ c.toNat = 125 ∨ c.toNat = 59 ∨ c.toNat = 61) := fun h => hm ((WP.cases_mark c).2 h)
              have ns : ¬ (c.toNat = 77 ∨ c.toNat = 76 ∨ c.toNat = 81 ∨ c.toNat = 67 ∨ c.toNat = 65 ∨ c.toNat = 66 ∨ c.toNat = 90) := fun h => hst ((WP.cases_step c).2 h)
              have n45 : ¬ c.toNat = 45 := fun h => h2 (.inl h)
              have : ¬ ((c.toNat : Int) = k) := by omega
              simpa using this

def RSplitPost (w : World) (r : Except Nat (List WP.W)) (e : Ending) (w' : World) : Prop :=
  Below w.heap.size w w' ∧ match r with
  | .ok ws => ∃ ad cap C, w.heap.size ≤ C ∧ e = .returned (.tuple #[.slice ad ws.length cap, .agg #[.int .i64 0, .bool false, .int .i64 0]]) ∧ Own w' C 57 3 wcells ad cap ws
  | .error n => e = .returned (.tuple #[.slice none 0 0, .agg #[.int .i64 101, .bool true, .int .i64 (n : Nat)]])

namespace WP
theorem spl_blank (f p : Nat) (c : UInt8) (t : List UInt8) (h : blank c = true) : spl f p (c :: t) = spl f (p + 1) t := by
  unfold spl
  rw [gap_blank t c h, List.drop_succ_cons, show p + (gap t + 1) = p + 1 + gap t by omega]
theorem spl_remark (f p : Nat) (d : List UInt8) (h : Lib.hasPrefix d [47, 47] = true) : spl f p d = spl f (p + line d) (d.drop (line d)) := by
  unfold spl
  rw [(gap_remark d h).1, List.drop_drop, show p + (line d + gap (d.drop (line d))) = p + line d + gap (d.drop (line d)) by omega]
theorem spl_word (f p : Nat) (c : UInt8) (t : List UInt8) (h : blank c = false) (h2 : Lib.hasPrefix (c :: t) [47, 47] = false) : spl (f + 1) p (c :: t) = if (first (c :: t)).2 = 0 then .error p else pre [((first (c :: t)).1, p, (c :: t).take (first (c :: t)).2)] (spl f (p + (first (c :: t)).2) ((c :: t).drop (first (c :: t)).2)) := by
  unfold spl
  rw [gap_none t c h h2, Nat.add_zero, List.drop_zero]
  conv => lhs; unfold go
  rw [if_neg (by simp), List.drop_drop]
  simp only [Nat.add_zero, Nat.add_assoc]
theorem spl_nil (f p : Nat) : spl f p [] = .ok [] := by
  unfold spl
  cases f <;> simp [go, gap, gaps]
theorem spl_more (f g p : Nat) (d : List UInt8) (hf : d.length < f) (hg : d.length < g) : spl f p d = spl g p d := by
  unfold spl
  exact go_more f g _ _ (by rw [List.length_drop]; omega) (by rw [List.length_drop]; omega)
theorem first_kind (d : List UInt8) (h : (first d).2 ≠ 0) : (first d).1 ≠ 0 := by
  unfold first at h ⊢
  cases d with
  | nil => exact absurd rfl h
  | cons c t =>
    simp only at h ⊢
    split
    · split <;> simp
    · rename_i g1
      simp only [g1] at h
      split
      · simp
      · rename_i g2
        simp only [g2] at h
        split
        · simp
        · rename_i g3
          simp only [g3] at h
          split
          · simp
          · rename_i g4
            simp only [g4] at h
            split
            · simp
            · rename_i g5
              simp [g5] at h
end WP

end Go.Proofs.YtbniikaebkmbhaaDoor

/-
  Numbers as text, said plainly: what is a whole number's text, a number's; how a number is written; and that what is written is read.
-/
import Derived.Test.YtepilofedebmeaaDoorWordPlain
import Derived.Lib.ItoaNum
import Derived.Lib.TrimByte
import Derived.Lib.Bytealg
import Derived.Lib.Strings
namespace Go.Proofs.YtepilofedebmeaaDoor
namespace NP

def dv (n : Nat) (c : UInt8) : Nat := n * 10 + (c.toNat - 48)
def val (n : Nat) (l : List UInt8) : Nat := l.foldl dv n
def wholeGo : Nat → List UInt8 → Option Nat
  | n, [] => some n
  | n, c :: t => if WP.digit c = true then wholeGo (dv n c) t else none
def whole (l : List UInt8) : Option Nat := if 1 ≤ l.length ∧ l.length ≤ 6 then wholeGo 0 l else none
def mill (l : List UInt8) : Option Nat := (whole l).map fun n => n * 10 ^ (6 - l.length)
/-- A text up to its first point, and what stands behind it. -/
def cutAt : List UInt8 → List UInt8 × Option (List UInt8)
  | [] => ([], none)
  | c :: t => if c = 46 then ([], some t) else (c :: (cutAt t).1, (cutAt t).2)
def sgn (m : Bool) (n : Nat) : Int := if m = true then -(n : Int) else n
def parse2 (m : Bool) (l : List UInt8) : Option Int :=
  match whole (cutAt l).1 with
  | none => none
  | some u => match (cutAt l).2 with
    | none => some (sgn m (u * 1000000))
    | some b => match mill b with
      | none => none
      | some f => some (sgn m (u * 1000000 + f))
def parse (l : List UInt8) : Option Int := parse2 (Lib.hasPrefix l [45]) (Lib.trimPrefix l [45])
def frac (r : Nat) : List UInt8 := if r = 0 then [] else 46 :: Lib.trimRightB ((Lib.decDigits (1000000 + r)).drop 1) 48
def sg (m : Bool) : List UInt8 := if m = true then [45] else []
def text (n : Int) : List UInt8 := sg (decide (n < 0)) ++ (Lib.decDigits (n.natAbs / 1000000) ++ frac (n.natAbs % 1000000))

/-- Digits alone, one to six. -/
def Dig (l : List UInt8) : Prop := ∀ c ∈ l, WP.digit c = true

theorem val_nil (n : Nat) : val n [] = n := rfl
theorem val_cons (n : Nat) (c : UInt8) (t : List UInt8) : val n (c :: t) = val (dv n c) t := by unfold val; rw [List.foldl_cons]
theorem val_append (n : Nat) (a b : List UInt8) : val n (a ++ b) = val (val n a) b := List.foldl_append
theorem val_shift : ∀ (l : List UInt8) (n : Nat), val n l = n * 10 ^ l.length + val 0 l
  | [], n => by simp [val]
  | c :: t, n => by
    rw [val_cons, val_cons, val_shift t (dv n c), val_shift t (dv 0 c)]
    simp only [dv, Nat.zero_mul, Nat.zero_add, List.length_cons, Nat.pow_succ, Nat.add_mul, Nat.mul_assoc]
    rw [Nat.mul_comm 10 (10 ^ t.length)]
    omega
theorem digit_dv {c : UInt8} (h : WP.digit c = true) : 48 ≤ c.toNat ∧ c.toNat ≤ 57 := by
  unfold WP.digit at h; simp at h; exact h
theorem val_lt : ∀ (l : List UInt8), Dig l → val 0 l < 10 ^ l.length
  | [], _ => by simp [val]
  | c :: t, h => by
    have h1 := val_lt t (fun x hx => h x (by simp [hx]))
    have h2 := digit_dv (h c (by simp))
    have h3 := Nat.pow_pos (n := t.length) (show 0 < 10 by omega)
    rw [val_cons, val_shift]
    simp only [dv, Nat.zero_mul, Nat.zero_add, List.length_cons, Nat.pow_succ]
    have h4 : (c.toNat - 48) * 10 ^ t.length ≤ 9 * 10 ^ t.length := Nat.mul_le_mul_right _ (by omega)
    omega
theorem val_zeros : ∀ (k n : Nat), val n (List.replicate k 48) = n * 10 ^ k
  | 0, n => by simp [val]
  | k + 1, n => by
    rw [List.replicate_succ, val_cons, val_zeros k]
    simp only [dv, Nat.pow_succ]
    have : (48 : UInt8).toNat - 48 = 0 := by decide
    rw [this, Nat.add_zero, Nat.mul_assoc, Nat.mul_comm 10]

theorem go_dig : ∀ (l : List UInt8) (n : Nat), Dig l → wholeGo n l = some (val n l)
  | [], n, _ => rfl
  | c :: t, n, h => by
    show (if WP.digit c = true then wholeGo (dv n c) t else none) = _
    rw [if_pos (h c (by simp)), go_dig t _ (fun x hx => h x (by simp [hx]))]
    rfl
theorem go_some : ∀ (l : List UInt8) (n v : Nat), wholeGo n l = some v → Dig l
  | [], _, _, _ => fun c h => absurd h (by simp)
  | c :: t, n, v, h => by
    unfold wholeGo at h
    split at h
    · rename_i hc
      intro x hx
      rcases List.mem_cons.1 hx with rfl | hx
      · exact hc
      · exact go_some t _ v h x hx
    · cases h
theorem whole_dig {l : List UInt8} (h : Dig l) (h1 : 1 ≤ l.length) (h6 : l.length ≤ 6) : whole l = some (val 0 l) := by
  unfold whole; rw [if_pos ⟨h1, h6⟩, go_dig l 0 h]
theorem whole_some {l : List UInt8} {v : Nat} (h : whole l = some v) : Dig l ∧ 1 ≤ l.length ∧ l.length ≤ 6 ∧ v = val 0 l := by
  unfold whole at h
  split at h
  · rename_i hl
    have hd := go_some l 0 v h
    rw [go_dig l 0 hd] at h
    exact ⟨hd, hl.1, hl.2, (Option.some.inj h).symm⟩
  · cases h
theorem whole_lt {l : List UInt8} {v : Nat} (h : whole l = some v) : v < 1000000 := by
  obtain ⟨hd, _, h6, rfl⟩ := whole_some h
  have h1 := val_lt l hd
  have h2 : 10 ^ l.length ≤ 10 ^ 6 := Nat.pow_le_pow_right (by omega) h6
  omega
theorem mill_dig {l : List UInt8} (h : Dig l) (h1 : 1 ≤ l.length) (h6 : l.length ≤ 6) : mill l = some (val 0 l * 10 ^ (6 - l.length)) := by
  unfold mill; rw [whole_dig h h1 h6]; rfl
theorem mill_lt {l : List UInt8} {v : Nat} (h : mill l = some v) : v < 1000000 := by
  unfold mill at h
  cases hw : whole l with
  | none => rw [hw] at h; cases h
  | some n =>
    rw [hw] at h
    obtain ⟨hd, _, h6, rfl⟩ := whole_some hw
    have hv : v = val 0 l * 10 ^ (6 - l.length) := (Option.some.inj h).symm
    have h1 := val_lt l hd
    have h2 : 10 ^ l.length * 10 ^ (6 - l.length) = 10 ^ 6 := by rw [← Nat.pow_add]; congr 1; omega
    have h3 := Nat.mul_lt_mul_of_pos_right h1 (Nat.pow_pos (n := 6 - l.length) (show 0 < 10 by omega))
    rw [h2] at h3
    omega

theorem cut_dig : ∀ (d f : List UInt8), Dig d → cutAt (d ++ 46 :: f) = (d, some f)
  | [], f, _ => by simp [cutAt]
  | c :: t, f, h => by
    have hc : c ≠ 46 := by
      intro e
      have := digit_dv (h c (by simp))
      rw [e] at this
      exact absurd this.1 (by decide)
    rw [List.cons_append]
    simp only [cutAt, hc, if_false, cut_dig t f (fun x hx => h x (by simp [hx]))]
theorem cut_dig0 : ∀ (d : List UInt8), Dig d → cutAt d = (d, none)
  | [], _ => rfl
  | c :: t, h => by
    have hc : c ≠ 46 := by
      intro e
      have := digit_dv (h c (by simp))
      rw [e] at this
      exact absurd this.1 (by decide)
    simp only [cutAt, hc, if_false, cut_dig0 t (fun x hx => h x (by simp [hx]))]

/-- Where the first point stands. -/
theorem cut_none : ∀ (l : List UInt8), (cutAt l).2 = none → Lib.indexByte l 46 = -1 ∧ (cutAt l).1 = l
  | [], _ => ⟨rfl, rfl⟩
  | c :: t, h => by
    by_cases hc : c = 46
    · simp [cutAt, hc] at h
    · simp only [cutAt, hc, if_false] at h ⊢
      obtain ⟨h1, h2⟩ := cut_none t h
      refine ⟨?_, by rw [h2]⟩
      have : (c == 46) = false := by simpa using hc
      simp [Lib.indexByte, this, h1]
theorem cut_some : ∀ (l b : List UInt8), (cutAt l).2 = some b → ∃ k : Nat, Lib.indexByte l 46 = k ∧ k < l.length ∧ (cutAt l).1 = l.take k ∧ b = l.drop (k + 1)
  | [], b, h => by simp [cutAt] at h
  | c :: t, b, h => by
    by_cases hc : c = 46
    · simp [cutAt, hc] at h
      subst h
      exact ⟨0, by simp [Lib.indexByte, hc], by simp, by simp [cutAt, hc], by simp⟩
    · simp only [cutAt, hc, if_false] at h ⊢
      obtain ⟨k, h1, h2, h3, h4⟩ := cut_some t b h
      have : (c == 46) = false := by simpa using hc
      refine ⟨k + 1, ?_, by simpa using h2, by simp [h3], by simp [h4]⟩
      have h5 : ((k : Int) == -1) = false := by simp
      simp [Lib.indexByte, this, h1, h5]

theorem pre_sg (m : Bool) (d r : List UInt8) (hd : Dig d) (h1 : 1 ≤ d.length) : Lib.hasPrefix (sg m ++ (d ++ r)) [45] = m ∧ Lib.trimPrefix (sg m ++ (d ++ r)) [45] = d ++ r := by
  cases m with
  | true => constructor <;> simp [sg, Lib.trimPrefix, Lib.hasPrefix, List.isPrefixOf]
  | false =>
    cases d with
    | nil => simp at h1
    | cons c t =>
      have hc : ¬ (45 = c) := by
        intro e
        have := digit_dv (hd c (by simp))
        rw [← e] at this
        exact absurd this.1 (by decide)
      constructor <;> simp [sg, Lib.trimPrefix, Lib.hasPrefix, List.isPrefixOf, hc]

theorem parse_two (m : Bool) (d f : List UInt8) (hd : Dig d) (h1 : 1 ≤ d.length) (h6 : d.length ≤ 6) (hf : Dig f) (g1 : 1 ≤ f.length) (g6 : f.length ≤ 6) :
    parse (sg m ++ (d ++ 46 :: f)) = some (sgn m (val 0 d * 1000000 + val 0 f * 10 ^ (6 - f.length))) := by
  obtain ⟨e1, e2⟩ := pre_sg m d (46 :: f) hd h1
  unfold parse parse2
  rw [e1, e2, cut_dig d f hd]
  simp only [whole_dig hd h1 h6, mill_dig hf g1 g6]
theorem parse_one (m : Bool) (d : List UInt8) (hd : Dig d) (h1 : 1 ≤ d.length) (h6 : d.length ≤ 6) :
    parse (sg m ++ d) = some (sgn m (val 0 d * 1000000)) := by
  obtain ⟨e1, e2⟩ := pre_sg m d [] hd h1
  rw [List.append_nil] at e1 e2
  unfold parse parse2
  rw [e1, e2, cut_dig0 d hd]
  simp only [whole_dig hd h1 h6]

theorem ofNat_dig (k : Nat) (h : k < 10) : (UInt8.ofNat (48 + k)).toNat = 48 + k := by
  rw [UInt8.toNat_ofNat']; omega
theorem dec_dig (u : Nat) : Dig (Lib.decDigits u) := by
  induction u using Nat.strongRecOn with
  | _ u ih =>
    rw [Lib.decDigits]
    split
    · rename_i h
      intro c hc
      obtain rfl := List.mem_singleton.1 hc
      unfold WP.digit
      rw [ofNat_dig u h]
      simp; omega
    · rename_i h
      intro c hc
      rcases List.mem_append.1 hc with hc | hc
      · exact ih (u / 10) (by omega) c hc
      · obtain rfl := List.mem_singleton.1 hc
        unfold WP.digit
        rw [ofNat_dig (u % 10) (by omega)]
        simp; omega
theorem dec_val (u : Nat) : val 0 (Lib.decDigits u) = u := by
  induction u using Nat.strongRecOn with
  | _ u ih =>
    rw [Lib.decDigits]
    split
    · rename_i h
      rw [val_cons, val_nil]
      unfold dv
      rw [ofNat_dig u h]; omega
    · rename_i h
      rw [val_append, ih (u / 10) (by omega), val_cons, val_nil]
      unfold dv
      rw [ofNat_dig _ (by omega)]; omega
theorem dec_len (u : Nat) (h : u < 1000000) : 1 ≤ (Lib.decDigits u).length ∧ (Lib.decDigits u).length ≤ 6 := by
  rw [Lib.decDigits_length]
  refine ⟨Lib.nDigits_pos u, ?_⟩
  rcases Nat.lt_or_ge u 10 with h1 | h1
  · rw [Lib.nDigits_small h1]; omega
  rcases Nat.lt_or_ge u 100 with h2 | h2
  · rw [Lib.nDigits_unique 1 u (by omega) (by omega)]; omega
  rcases Nat.lt_or_ge u 1000 with h3 | h3
  · rw [Lib.nDigits_unique 2 u (by omega) (by omega)]; omega
  rcases Nat.lt_or_ge u 10000 with h4 | h4
  · rw [Lib.nDigits_unique 3 u (by omega) (by omega)]; omega
  rcases Nat.lt_or_ge u 100000 with h5 | h5
  · rw [Lib.nDigits_unique 4 u (by omega) (by omega)]; omega
  · rw [Lib.nDigits_unique 5 u (by omega) (by omega)]; omega
theorem dec_seven (r : Nat) (h : r < 1000000) : ∃ t, Lib.decDigits (1000000 + r) = 49 :: t ∧ t.length = 6 ∧ Dig t ∧ val 0 t = r := by
  have hl : (Lib.decDigits (1000000 + r)).length = 7 := by rw [Lib.decDigits_length, Lib.nDigits_unique 6 _ (by omega) (by omega)]
  have hd := dec_dig (1000000 + r)
  have hv := dec_val (1000000 + r)
  cases hx : Lib.decDigits (1000000 + r) with
  | nil => rw [hx] at hl; simp at hl
  | cons c t =>
    rw [hx] at hl hd hv
    have ht : t.length = 6 := by simpa using hl
    have hdt : Dig t := fun x hx => hd x (by simp [hx])
    have hc := digit_dv (hd c (by simp))
    have hlt := val_lt t hdt
    rw [val_cons, val_shift] at hv
    rw [ht] at hv hlt
    unfold dv at hv
    have h1 : c.toNat = 49 := by omega
    have h2 : val 0 t = r := by omega
    refine ⟨t, ?_, ht, hdt, h2⟩
    congr 1
    exact UInt8.toNat_inj.1 h1

theorem trim_split (l : List UInt8) : ∃ k, l = Lib.trimRightB l 48 ++ List.replicate k 48 ∧ ∀ x, (Lib.trimRightB l 48).getLast? = some x → x ≠ 48 := by
  have h : ∀ m : List UInt8, ∃ k, m = List.replicate k 48 ++ m.dropWhile (· == 48) ∧ ∀ x, (m.dropWhile (· == 48)).head? = some x → x ≠ 48 := by
    intro m
    induction m with
    | nil => exact ⟨0, rfl, by simp⟩
    | cons c t ih =>
      by_cases hc : c = 48
      · obtain ⟨k, h1, h2⟩ := ih
        refine ⟨k + 1, ?_, ?_⟩
        · subst hc
          rw [List.replicate_succ, List.cons_append]
          simp only [List.dropWhile_cons, beq_self_eq_true, if_true]
          rw [← h1]
        · subst hc
          simpa [List.dropWhile_cons] using h2
      · refine ⟨0, by simp [hc], ?_⟩
        simp [hc]
  obtain ⟨k, h1, h2⟩ := h l.reverse
  refine ⟨k, ?_, ?_⟩
  · have := congrArg List.reverse h1
    rw [List.reverse_reverse, List.reverse_append, List.reverse_replicate] at this
    exact this
  · intro x hx
    unfold Lib.trimRightB at hx
    rw [List.getLast?_reverse] at hx
    exact h2 x hx

/-- The digits behind the point. -/
theorem frac_is (r : Nat) (h0 : r ≠ 0) (h : r < 1000000) : ∃ f, frac r = 46 :: f ∧ Dig f ∧ 1 ≤ f.length ∧ f.length ≤ 6 ∧ val 0 f * 10 ^ (6 - f.length) = r ∧ ∀ x, f.getLast? = some x → x ≠ 48 := by
  obtain ⟨t, h1, h2, h3, h4⟩ := dec_seven r h
  obtain ⟨k, h5, h6⟩ := trim_split t
  unfold frac
  rw [if_neg h0, h1]
  refine ⟨Lib.trimRightB t 48, rfl, ?_, ?_, ?_, ?_, h6⟩
  · intro c hc
    exact h3 c (by rw [h5]; simp [hc])
  · rcases Nat.eq_zero_or_pos (Lib.trimRightB t 48).length with e | e
    · rw [List.length_eq_zero_iff.1 e, List.nil_append] at h5
      rw [h5, val_zeros] at h4
      omega
    · exact e
  · have := congrArg List.length h5
    rw [List.length_append] at this
    omega
  · have hl := congrArg List.length h5
    rw [List.length_append, List.length_replicate, h2] at hl
    have hk : 6 - (Lib.trimRightB t 48).length = k := by omega
    rw [hk, ← val_zeros k (val 0 (Lib.trimRightB t 48)), ← val_append, ← h5]
    exact h4

theorem sgn_abs (n : Int) : sgn (decide (n < 0)) n.natAbs = n := by
  unfold sgn
  by_cases h : n < 0
  · simp [h]; omega
  · simp [h]; omega

theorem parse_text (n : Int) (h1 : -1000000000000 < n) (h2 : n < 1000000000000) : parse (text n) = some n := by
  have hu : n.natAbs / 1000000 < 1000000 := by omega
  obtain ⟨l1, l2⟩ := dec_len _ hu
  unfold text
  by_cases h0 : n.natAbs % 1000000 = 0
  · rw [show frac (n.natAbs % 1000000) = [] by unfold frac; rw [if_pos h0], List.append_nil, parse_one _ _ (dec_dig _) l1 l2, dec_val]
    rw [show n.natAbs / 1000000 * 1000000 = n.natAbs by omega, sgn_abs]
  · obtain ⟨f, e, f1, f2, f3, f4, -⟩ := frac_is _ h0 (by omega)
    rw [e, parse_two _ _ _ (dec_dig _) l1 l2 f1 f2 f3, dec_val, f4]
    rw [show n.natAbs / 1000000 * 1000000 + n.natAbs % 1000000 = n.natAbs by omega, sgn_abs]

end NP
end Go.Proofs.YtepilofedebmeaaDoor

import Derived.Test.YtenmkopiddmieabGreatDoorJA
import Derived.Lib.ItoaNum
import Derived.Lib.TrimByte
import Derived.Lib.Bytealg
import Derived.Lib.Strings
import Derived.Test.YtenmkopiddmieabGreatDoorShelf
import Derived.Lib.IndexBytes
/-
  Numbers as text, said plainly: what is a whole number's text, a number's; how a number is written; and that what is written is read.
-/
namespace Go.Proofs.YtenmkopiddmieabGreatDoor
namespace NP

def dv (n : Nat) (c : UInt8) : Nat := n * 10 + (c.toNat - 48)
def val (n : Nat) (l : List UInt8) : Nat := l.foldl dv n
def wholeGo : Nat → List UInt8 → Option Nat
  | n, [] => some n
  | n, c :: t => if WP.digit c = true then wholeGo (dv n c) t else none
def whole (l : List UInt8) : Option Nat := if 1 ≤ l.length ∧ l.length ≤ 6 then wholeGo 0 l else none
def mill (l : List UInt8) : Option Nat := (whole l).map fun n => n * 10 ^ (6 - l.length)
/-- A text up to its first point, and what stands behind it. -/
def cutAt : List UInt8 → List UInt8 × Option (List UInt8)
  | [] => ([], none)
  | c :: t => if c = 46 then ([], some t) else (c :: (cutAt t).1, (cutAt t).2)
def sgn (m : Bool) (n : Nat) : Int := if m = true then -(n : Int) else n
def parse2 (m : Bool) (l : List UInt8) : Option Int :=
  match whole (cutAt l).1 with
  | none => none
  | some u => match (cutAt l).2 with
    | none => some (sgn m (u * 1000000))
    | some b => match mill b with
      | none => none
      | some f => some (sgn m (u * 1000000 + f))
def parse (l : List UInt8) : Option Int := parse2 (Lib.hasPrefix l [45]) (Lib.trimPrefix l [45])
def frac (r : Nat) : List UInt8 := if r = 0 then [] else 46 :: Lib.trimRightB ((Lib.decDigits (1000000 + r)).drop 1) 48
def sg (m : Bool) : List UInt8 := if m = true then [45] else []
def text (n : Int) : List UInt8 := sg (decide (n < 0)) ++ (Lib.decDigits (n.natAbs / 1000000) ++ frac (n.natAbs % 1000000))

/-- Digits alone, one to six. -/
def Dig (l : List UInt8) : Prop := ∀ c ∈ l, WP.digit c = true

theorem val_nil (n : Nat) : val n [] = n := rfl
theorem val_cons (n : Nat) (c : UInt8) (t : List UInt8) : val n (c :: t) = val (dv n c) t := by unfold val; rw [List.foldl_cons]
theorem val_append (n : Nat) (a b : List UInt8) : val n (a ++ b) = val (val n a) b := List.foldl_append
theorem val_shift : ∀ (l : List UInt8) (n : Nat), val n l = n * 10 ^ l.length + val 0 l
  | [], n => by simp [val]
  | c :: t, n => by
    rw [val_cons, val_cons, val_shift t (dv n c), val_shift t (dv 0 c)]
    simp only [dv, Nat.zero_mul, Nat.zero_add, List.length_cons, Nat.pow_succ, Nat.add_mul, Nat.mul_assoc]
    rw [Nat.mul_comm 10 (10 ^ t.length)]
    omega
theorem digit_dv {c : UInt8} (h : WP.digit c = true) : 48 ≤ c.toNat ∧ c.toNat ≤ 57 := by
  unfold WP.digit at h; simp at h; exact h
theorem val_lt : ∀ (l : List UInt8), Dig l → val 0 l < 10 ^ l.length
  | [], _ => by simp [val]
  | c :: t, h => by
    have h1 := val_lt t (fun x hx => h x (by simp [hx]))
    have h2 := digit_dv (h c (by simp))
    have h3 := Nat.pow_pos (n := t.length) (show 0 < 10 by omega)
    rw [val_cons, val_shift]
    simp only [dv, Nat.zero_mul, Nat.zero_add, List.length_cons, Nat.pow_succ]
    have h4 : (c.toNat - 48) * 10 ^ t.length ≤ 9 * 10 ^ t.length := Nat.mul_le_mul_right _ (by omega)
    omega
theorem val_zeros : ∀ (k n : Nat), val n (List.replicate k 48) = n * 10 ^ k
  | 0, n => by simp [val]
  | k + 1, n => by
    rw [List.replicate_succ, val_cons, val_zeros k]
    simp only [dv, Nat.pow_succ]
    have : (48 : UInt8).toNat - 48 = 0 := by decide
    rw [this, Nat.add_zero, Nat.mul_assoc, Nat.mul_comm 10]

theorem go_dig : ∀ (l : List UInt8) (n : Nat), Dig l → wholeGo n l = some (val n l)
  | [], n, _ => rfl
  | c :: t, n, h => by
    show (if WP.digit c = true then wholeGo (dv n c) t else none) = _
    rw [if_pos (h c (by simp)), go_dig t _ (fun x hx => h x (by simp [hx]))]
    rfl
theorem go_some : ∀ (l : List UInt8) (n v : Nat), wholeGo n l = some v → Dig l
  | [], _, _, _ => fun c h => absurd h (by simp)
  | c :: t, n, v, h => by
    unfold wholeGo at h
    split at h
    · rename_i hc
      intro x hx
      rcases List.mem_cons.1 hx with rfl | hx
      · exact hc
      · exact go_some t _ v h x hx
    · cases h
theorem whole_dig {l : List UInt8} (h : Dig l) (h1 : 1 ≤ l.length) (h6 : l.length ≤ 6) : whole l = some (val 0 l) := by
  unfold whole; rw [if_pos ⟨h1, h6⟩, go_dig l 0 h]
theorem whole_some {l : List UInt8} {v : Nat} (h : whole l = some v) : Dig l ∧ 1 ≤ l.length ∧ l.length ≤ 6 ∧ v = val 0 l := by
  unfold whole at h
  split at h
  · rename_i hl
    have hd := go_some l 0 v h
    rw [go_dig l 0 hd] at h
    exact ⟨hd, hl.1, hl.2, (Option.some.inj h).symm⟩
  · cases h
theorem whole_lt {l : List UInt8} {v : Nat} (h : whole l = some v) : v < 1000000 := by
  obtain ⟨hd, _, h6, rfl⟩ := whole_some h
  have h1 := val_lt l hd
  have h2 : 10 ^ l.length ≤ 10 ^ 6 := Nat.pow_le_pow_right (by omega) h6
  omega
theorem mill_dig {l : List UInt8} (h : Dig l) (h1 : 1 ≤ l.length) (h6 : l.length ≤ 6) : mill l = some (val 0 l * 10 ^ (6 - l.length)) := by
  unfold mill; rw [whole_dig h h1 h6]; rfl
theorem mill_lt {l : List UInt8} {v : Nat} (h : mill l = some v) : v < 1000000 := by
  unfold mill at h
  cases hw : whole l with
  | none => rw [hw] at h; cases h
  | some n =>
    rw [hw] at h
    obtain ⟨hd, _, h6, rfl⟩ := whole_some hw
    have hv : v = val 0 l * 10 ^ (6 - l.length) := (Option.some.inj h).symm
    have h1 := val_lt l hd
    have h2 : 10 ^ l.length * 10 ^ (6 - l.length) = 10 ^ 6 := by rw [← Nat.pow_add]; congr 1; omega
    have h3 := Nat.mul_lt_mul_of_pos_right h1 (Nat.pow_pos (n := 6 - l.length) (show 0 < 10 by omega))
    rw [h2] at h3
    omega

theorem cut_dig : ∀ (d f : List UInt8), Dig d → cutAt (d ++ 46 :: f) = (d, some f)
  | [], f, _ => by simp [cutAt]
  | c :: t, f, h => by
    have hc : c ≠ 46 := by
      intro e
      have := digit_dv (h c (by simp))
      rw [e] at this
      exact absurd this.1 (by decide)
    rw [List.cons_append]
    simp only [cutAt, hc, if_false, cut_dig t f (fun x hx => h x (by simp [hx]))]
theorem cut_dig0 : ∀ (d : List UInt8), Dig d → cutAt d = (d, none)
  | [], _ => rfl
  | c :: t, h => by
    have hc : c ≠ 46 := by
      intro e
      have := digit_dv (h c (by simp))
      rw [e] at this
      exact absurd this.1 (by decide)
    simp only [cutAt, hc, if_false, cut_dig0 t (fun x hx => h x (by simp [hx]))]

/-- Where the first point stands. -/
theorem cut_none : ∀ (l : List UInt8), (cutAt l).2 = none → Lib.indexByte l 46 = -1 ∧ (cutAt l).1 = l
  | [], _ => ⟨rfl, rfl⟩
  | c :: t, h => by
    by_cases hc : c = 46
    · simp [cutAt, hc] at h
    · simp only [cutAt, hc, if_false] at h ⊢
      obtain ⟨h1, h2⟩ := cut_none t h
      refine ⟨?_, by rw [h2]⟩
      have : (c == 46) = false := by simpa using hc
      simp [Lib.indexByte, this, h1]
theorem cut_some : ∀ (l b : List UInt8), (cutAt l).2 = some b → ∃ k : Nat, Lib.indexByte l 46 = k ∧ k < l.length ∧ (cutAt l).1 = l.take k ∧ b = l.drop (k + 1)
  | [], b, h => by simp [cutAt] at h
  | c :: t, b, h => by
    by_cases hc : c = 46
    · simp [cutAt, hc] at h
      subst h
      exact ⟨0, by simp [Lib.indexByte, hc], by simp, by simp [cutAt, hc], by simp⟩
    · simp only [cutAt, hc, if_false] at h ⊢
      obtain ⟨k, h1, h2, h3, h4⟩ := cut_some t b h
      have : (c == 46) = false := by simpa using hc
      refine ⟨k + 1, ?_, by simpa using h2, by simp [h3], by simp [h4]⟩
      have h5 : ((k : Int) == -1) = false := by simp
      simp [Lib.indexByte, this, h1, h5]

theorem pre_sg (m : Bool) (d r : List UInt8) (hd : Dig d) (h1 : 1 ≤ d.length) : Lib.hasPrefix (sg m ++ (d ++ r)) [45] = m ∧ Lib.trimPrefix (sg m ++ (d ++ r)) [45] = d ++ r := by
  cases m with
  | true => constructor <;> simp [sg, Lib.trimPrefix, Lib.hasPrefix, List.isPrefixOf]
  | false =>
    cases d with
    | nil => simp at h1
    | cons c t =>
      have hc : ¬ (45 = c) := by
        intro e
        have := digit_dv (hd c (by simp))
        rw [← e] at this
        exact absurd this.1 (by decide)
      constructor <;> simp [sg, Lib.trimPrefix, Lib.hasPrefix, List.isPrefixOf, hc]

theorem parse_two (m : Bool) (d f : List UInt8) (hd : Dig d) (h1 : 1 ≤ d.length) (h6 : d.length ≤ 6) (hf : Dig f) (g1 : 1 ≤ f.length) (g6 : f.length ≤ 6) :
    parse (sg m ++ (d ++ 46 :: f)) = some (sgn m (val 0 d * 1000000 + val 0 f * 10 ^ (6 - f.length))) := by
  obtain ⟨e1, e2⟩ := pre_sg m d (46 :: f) hd h1
  unfold parse parse2
  rw [e1, e2, cut_dig d f hd]
  simp only [whole_dig hd h1 h6, mill_dig hf g1 g6]
theorem parse_one (m : Bool) (d : List UInt8) (hd : Dig d) (h1 : 1 ≤ d.length) (h6 : d.length ≤ 6) :
    parse (sg m ++ d) = some (sgn m (val 0 d * 1000000)) := by
  obtain ⟨e1, e2⟩ := pre_sg m d [] hd h1
  rw [List.append_nil] at e1 e2
  unfold parse parse2
  rw [e1, e2, cut_dig0 d hd]
  simp only [whole_dig hd h1 h6]

theorem ofNat_dig (k : Nat) (h : k < 10) : (UInt8.ofNat (48 + k)).toNat = 48 + k := by
  rw [UInt8.toNat_ofNat']; omega
theorem dec_dig (u : Nat) : Dig (Lib.decDigits u) := by
  induction u using Nat.strongRecOn with
  | _ u ih =>
    rw [Lib.decDigits]
    split
    · rename_i h
      intro c hc
      obtain rfl := List.mem_singleton.1 hc
      unfold WP.digit
      rw [ofNat_dig u h]
      simp; omega
    · rename_i h
      intro c hc
      rcases List.mem_append.1 hc with hc | hc
      · exact ih (u / 10) (by omega) c hc
      · obtain rfl := List.mem_singleton.1 hc
        unfold WP.digit
        rw [ofNat_dig (u % 10) (by omega)]
        simp; omega
theorem dec_val (u : Nat) : val 0 (Lib.decDigits u) = u := by
  induction u using Nat.strongRecOn with
  | _ u ih =>
    rw [Lib.decDigits]
    split
    · rename_i h
      rw [val_cons, val_nil]
      unfold dv
      rw [ofNat_dig u h]; omega
    · rename_i h
      rw [val_append, ih (u / 10) (by omega), val_cons, val_nil]
      unfold dv
      rw [ofNat_dig _ (by omega)]; omega
theorem dec_len (u : Nat) (h : u < 1000000) : 1 ≤ (Lib.decDigits u).length ∧ (Lib.decDigits u).length ≤ 6 := by
  rw [Lib.decDigits_length]
  refine ⟨Lib.nDigits_pos u, ?_⟩
  rcases Nat.lt_or_ge u 10 with h1 | h1
  · rw [Lib.nDigits_small h1]; omega
  rcases Nat.lt_or_ge u 100 with h2 | h2
  · rw [Lib.nDigits_unique 1 u (by omega) (by omega)]; omega
  rcases Nat.lt_or_ge u 1000 with h3 | h3
  · rw [Lib.nDigits_unique 2 u (by omega) (by omega)]; omega
  rcases Nat.lt_or_ge u 10000 with h4 | h4
  · rw [Lib.nDigits_unique 3 u (by omega) (by omega)]; omega
  rcases Nat.lt_or_ge u 100000 with h5 | h5
  · rw [Lib.nDigits_unique 4 u (by omega) (by omega)]; omega
  · rw [Lib.nDigits_unique 5 u (by omega) (by omega)]; omega
theorem dec_seven (r : Nat) (h : r < 1000000) : ∃ t, Lib.decDigits (1000000 + r) = 49 :: t ∧ t.length = 6 ∧ Dig t ∧ val 0 t = r := by
  have hl : (Lib.decDigits (1000000 + r)).length = 7 := by rw [Lib.decDigits_length, Lib.nDigits_unique 6 _ (by omega) (by omega)]
  have hd := dec_dig (1000000 + r)
  have hv := dec_val (1000000 + r)
  cases hx : Lib.decDigits (1000000 + r) with
  | nil => rw [hx] at hl; simp at hl
  | cons c t =>
    rw [hx] at hl hd hv
    have ht : t.length = 6 := by simpa using hl
    have hdt : Dig t := fun x hx => hd x (by simp [hx])
    have hc := digit_dv (hd c (by simp))
    have hlt := val_lt t hdt
    rw [val_cons, val_shift] at hv
    rw [ht] at hv hlt
    unfold dv at hv
    have h1 : c.toNat = 49 := by omega
    have h2 : val 0 t = r := by omega
    refine ⟨t, ?_, ht, hdt, h2⟩
    congr 1
    exact UInt8.toNat_inj.1 h1

theorem trim_split (l : List UInt8) : ∃ k, l = Lib.trimRightB l 48 ++ List.replicate k 48 ∧ ∀ x, (Lib.trimRightB l 48).getLast? = some x → x ≠ 48 := by
  have h : ∀ m : List UInt8, ∃ k, m = List.replicate k 48 ++ m.dropWhile (· == 48) ∧ ∀ x, (m.dropWhile (· == 48)).head? = some x → x ≠ 48 := by
    intro m
    induction m with
    | nil => exact ⟨0, rfl, by simp⟩
    | cons c t ih =>
      by_cases hc : c = 48
      · obtain ⟨k, h1, h2⟩ := ih
        refine ⟨k + 1, ?_, ?_⟩
        · subst hc
          rw [List.replicate_succ, List.cons_append]
          simp only [List.dropWhile_cons, beq_self_eq_true, if_true]
          rw [← h1]
        · subst hc
          simpa [List.dropWhile_cons] using h2
      · refine ⟨0, by simp [hc], ?_⟩
        simp [hc]
  obtain ⟨k, h1, h2⟩ := h l.reverse
  refine ⟨k, ?_, ?_⟩
  · have := congrArg List.reverse h1
    rw [List.reverse_reverse, List.reverse_append, List.reverse_replicate] at this
    exact this
  · intro x hx
    unfold Lib.trimRightB at hx
    rw [List.getLast?_reverse] at hx
    exact h2 x hx

/-- The digits behind the point. -/
theorem frac_is (r : Nat) (h0 : r ≠ 0) (h : r < 1000000) : ∃ f, frac r = 46 :: f ∧ Dig f ∧ 1 ≤ f.length ∧ f.length ≤ 6 ∧ val 0 f * 10 ^ (6 - f.length) = r ∧ ∀ x, f.getLast? = some x → x ≠ 48 := by
  obtain ⟨t, h1, h2, h3, h4⟩ := dec_seven r h
  obtain ⟨k, h5, h6⟩ := trim_split t
  unfold frac
  rw [if_neg h0, h1]
  refine ⟨Lib.trimRightB t 48, rfl, ?_, ?_, ?_, ?_, h6⟩
  · intro c hc
    exact h3 c (by rw [h5]; simp [hc])
  · rcases Nat.eq_zero_or_pos (Lib.trimRightB t 48).length with e | e
    · rw [List.length_eq_zero_iff.1 e, List.nil_append] at h5
      rw [h5, val_zeros] at h4
      omega
    · exact e
  · have := congrArg List.length h5
    rw [List.length_append] at this
    omega
  · have hl := congrArg List.length h5
    rw [List.length_append, List.length_replicate, h2] at hl
    have hk : 6 - (Lib.trimRightB t 48).length = k := by omega
    rw [hk, ← val_zeros k (val 0 (Lib.trimRightB t 48)), ← val_append, ← h5]
    exact h4

theorem sgn_abs (n : Int) : sgn (decide (n < 0)) n.natAbs = n := by
  unfold sgn
  by_cases h : n < 0
  · simp [h]; omega
  · simp [h]; omega

theorem parse_text (n : Int) (h1 : -1000000000000 < n) (h2 : n < 1000000000000) : parse (text n) = some n := by
  have hu : n.natAbs / 1000000 < 1000000 := by omega
  obtain ⟨l1, l2⟩ := dec_len _ hu
  unfold text
  by_cases h0 : n.natAbs % 1000000 = 0
  · rw [show frac (n.natAbs % 1000000) = [] by unfold frac; rw [if_pos h0], List.append_nil, parse_one _ _ (dec_dig _) l1 l2, dec_val]
    rw [show n.natAbs / 1000000 * 1000000 = n.natAbs by omega, sgn_abs]
  · obtain ⟨f, e, f1, f2, f3, f4, -⟩ := frac_is _ h0 (by omega)
    rw [e, parse_two _ _ _ (dec_dig _) l1 l2 f1 f2 f3, dec_val, f4]
    rw [show n.natAbs / 1000000 * 1000000 + n.natAbs % 1000000 = n.natAbs by omega, sgn_abs]

end NP
end Go.Proofs.YtenmkopiddmieabGreatDoor

/-
  Whole numbers as text: the program's Whole, millionths, the document's Whole: walked.
-/
namespace Go.Proofs.YtenmkopiddmieabGreatDoor
open Go.RowKit

theorem at_drop (s : ByteArray) (j : Nat) (c : UInt8) (t : List UInt8) (h : s.data.toList.drop j = c :: t) : j < s.size ∧ (∀ h, s[j]'h = c) ∧ s.data.toList.drop (j + 1) = t := by
  obtain ⟨⟨l⟩⟩ := s
  have h0 : l.drop j = c :: t := h
  have hlt : j < l.length := by
    rcases Nat.lt_or_ge j l.length with h | h
    · exact h
    · rw [List.drop_of_length_le h] at h0; cases h0
  have h1 := List.drop_eq_getElem_cons hlt
  rw [h0] at h1
  injection h1 with h2 h3
  exact ⟨hlt, fun _ => h2.symm, h3.symm⟩

theorem drop_nil (s : ByteArray) (j : Nat) (h : s.data.toList.drop j = []) : s.size ≤ j := by
  rw [Lib.size_eq]; exact List.drop_eq_nil_iff.1 h

def wv (r : Option Nat) : Value := .tuple #[.int .i64 (r.getD 0 : Nat), .bool r.isSome]

theorem pow_step (n k : Nat) (c : UInt8) (h : n < 10 ^ k) (hk : k < 6) (hc : WP.digit c = true) : NP.dv n c < 10 ^ (k + 1) ∧ n < 100000 := by
  have h1 := NP.digit_dv hc
  have h2 : 10 ^ k ≤ 10 ^ 5 := Nat.pow_le_pow_right (by omega) (by omega)
  unfold NP.dv
  rw [Nat.pow_succ]
  omega

set_option maxRecDepth 20000 in
theorem whole_any (s : ByteArray) (w : World) :
    Calls Tryz.prog 48 #[.string s] w fun e w' => e = .returned (wv (NP.whole s.data.toList)) ∧ w' = w := by
  obtain ⟨R, hR⟩ : ∃ R, NP.whole s.data.toList = R := ⟨_, rfl⟩
  rw [hR]
  unfold NP.whole at hR
  rw [← Lib.size_eq] at hR
  by_cases h1 : 1 ≤ s.size
  · by_cases h6 : s.size ≤ 6
    · rw [if_pos ⟨h1, h6⟩] at hR
      have HR0 := hid'' hR
      clear hR
      go_enter Tryz.func48, Tryz.ntmps48
      go_wp2
      go_loop [4, 16] (fun n i => ∃ k m : Nat, n = .int .i64 m ∧ i = .int .i64 k ∧ k ≤ s.size ∧ Hid (m < 10 ^ k) ∧ Hid (NP.wholeGo m (s.data.toList.drop k) = R)) (fun _ i => s.size - (intOf i).toNat)
      case atStart => exact ⟨0, 0, rfl, rfl, Nat.zero_le _, hid'' (by simp), hid'' (by rw [List.drop_zero]; exact HR0.out)⟩
      case round =>
        obtain ⟨k, m, rfl, rfl, hk, hm, hr⟩ := hrel
        cases hl : s.data.toList.drop k with
        | nil =>
          have h0 := drop_nil s k hl
          have hks : k = s.size := by omega
          have HX : Hid (R = some m) := by
            have := hr.out
            rw [hl] at this
            exact this.symm
          clear hl
          subst hks
          have hki : ¬ ((s.size : Int) < (s.size : Int)) := by omega
          go_wp2
          exact bodyPost_ret (v := .tuple #[.int .i64 (m : Int), .bool true]) (by simp [results, Tryz.results48, go_sem]) rfl ⟨by rw [HX.out]; rfl, rfl⟩
        | cons c t =>
          obtain ⟨hlt, hc, ht⟩ := at_drop s k c t hl
          have hX := hr.out
          rw [hl] at hX
          unfold NP.wholeGo at hX
          have HT := hid'' ht
          clear hl ht hr
          have hki : (k : Int) < (s.size : Int) := by omega
          by_cases hd : WP.digit c = true
          · rw [if_pos hd] at hX
            obtain ⟨p1, p2⟩ := pow_step m k c hm.out (by omega) hd
            obtain ⟨d1, d2⟩ := NP.digit_dv hd
            have HP := hid'' p1
            have HXX := hid'' hX
            have HDV : Hid (NP.dv m c = m * 10 + (c.toNat - 48)) := rfl
            clear p1 hX hd hm
            obtain ⟨x, hx⟩ : ∃ x, c.toNat = x := ⟨_, rfl⟩
            rw [hx] at d1 d2 HDV
            obtain ⟨y, rfl⟩ : ∃ y, x = 48 + y := ⟨x - 48, by omega⟩
            have q1 : ¬ (48 + (y : Int) < 48) := by omega
            have q2 : ¬ (57 < 48 + (y : Int)) := by omega
            go_wp2
            go_round
            case rel => exact ⟨k + 1, m * 10 + y, by go_num, by go_num, by omega, hid'' (by have := HP.out; rw [HDV.out] at this; simpa using this), hid'' (by have := HXX.out; rw [HT.out]; rw [HDV.out] at this; simpa using this)⟩
            case measure => simp [intOf]; omega
          · rw [if_neg hd] at hX
            have HXX := hid'' hX
            have hdd : c.toNat < 48 ∨ 57 < c.toNat := by
              unfold WP.digit at hd
              simp at hd
              omega
            clear hX hd hm
            obtain ⟨x, hx⟩ : ∃ x, c.toNat = x := ⟨_, rfl⟩
            rw [hx] at hdd
            rcases hdd with q | q
            · go_wp2
              exact bodyPost_ret (v := .tuple #[.int .i64 0, .bool false]) (by simp [results, Tryz.results48, go_sem]) rfl ⟨by rw [← HXX.out]; rfl, rfl⟩
            · have q0 : ¬ ((x : Int) < 48) := by omega
              go_wp2
              exact bodyPost_ret (v := .tuple #[.int .i64 0, .bool false]) (by simp [results, Tryz.results48, go_sem]) rfl ⟨by rw [← HXX.out]; rfl, rfl⟩
    · rw [if_neg (fun h => h6 h.2)] at hR
      subst hR
      go_enter Tryz.func48, Tryz.ntmps48
      go_wp2
      exact bodyPost_ret (v := .tuple #[.int .i64 0, .bool false]) (by simp [results, Tryz.results48, go_sem]) rfl ⟨rfl, rfl⟩
  · rw [if_neg (fun h => h1 h.1)] at hR
    subst hR
    go_enter Tryz.func48, Tryz.ntmps48
    go_wp2
    exact bodyPost_ret (v := .tuple #[.int .i64 0, .bool false]) (by simp [results, Tryz.results48, go_sem]) rfl ⟨rfl, rfl⟩

end Go.Proofs.YtenmkopiddmieabGreatDoor

/-
  A number's text: where it is cut, its part behind the point, the whole: walked over the program.
-/
namespace Go.Proofs.YtenmkopiddmieabGreatDoor
open Go.RowKit

theorem whole_some_any (s : ByteArray) (n : Nat) (h : NP.whole s.data.toList = some n) (w : World) :
    Calls Tryz.prog 48 #[.string s] w fun e w' => e = .returned (.tuple #[.int .i64 (n : Int), .bool true]) ∧ w' = w := by
  have := whole_any s w
  rw [h] at this
  exact this
theorem whole_none_any (s : ByteArray) (h : NP.whole s.data.toList = none) (w : World) :
    Calls Tryz.prog 48 #[.string s] w fun e w' => e = .returned (.tuple #[.int .i64 0, .bool false]) ∧ w' = w := by
  have := whole_any s w
  rw [h] at this
  exact this

theorem mill_step (n j k : Nat) (h : n * 10 ^ k < 1000000) (hj : j < k) : n * 10 ^ j * 10 = n * 10 ^ (j + 1) ∧ n * 10 ^ (j + 1) < 1000000 := by
  have h1 : n * 10 ^ (j + 1) ≤ n * 10 ^ k := Nat.mul_le_mul_left _ (Nat.pow_le_pow_right (by omega) hj)
  refine ⟨by rw [Nat.pow_succ, Nat.mul_assoc], by omega⟩

set_option maxRecDepth 20000 in
theorem mill_any (s : ByteArray) (w : World) :
    Calls Tryz.prog 101 #[.string s] w fun e w' => e = .returned (wv (NP.mill s.data.toList)) ∧ w' = w := by
  cases hw : NP.whole s.data.toList with
  | none =>
    have k1 := hid'' (fun W => whole_none_any s hw W)
    have hm : NP.mill s.data.toList = none := by unfold NP.mill; rw [hw]; rfl
    rw [hm]
    clear hw hm
    go_enter Tryz.func101, Tryz.ntmps101
    go_wp2_with (go_at_call 48; refine (k1.out _).mono ?_; rintro e w1 ⟨rfl, rfl⟩)
    exact bodyPost_ret (v := .tuple #[.int .i64 0, .bool false]) (by simp [results, Tryz.results101, go_sem]) rfl ⟨rfl, rfl⟩
  | some n =>
    have k1 := hid'' (fun W => whole_some_any s n hw W)
    have hm : NP.mill s.data.toList = some (n * 10 ^ (6 - s.size)) := by unfold NP.mill; rw [hw, Lib.size_eq]; rfl
    have HLT := hid'' (NP.mill_lt hm)
    rw [hm]
    obtain ⟨-, g1, g6, -⟩ := NP.whole_some hw
    have e1 : 1 ≤ s.size := by rw [Lib.size_eq]; exact g1
    have e6 : s.size ≤ 6 := by rw [Lib.size_eq]; exact g6
    have hn := NP.whole_lt hw
    obtain ⟨z, hz⟩ : ∃ z, s.size = z := ⟨_, rfl⟩
    clear hw hm g1 g6
    rw [hz] at e1 e6 HLT ⊢
    go_enter Tryz.func101, Tryz.ntmps101
    go_wp2_with (go_at_call 48; refine (k1.out _).mono ?_; rintro e w1 ⟨rfl, rfl⟩)
    go_loop [4, 16] (fun v i => ∃ j M : Nat, v = .int .i64 (M : Int) ∧ i = .int .i64 j ∧ j ≤ 6 - z ∧ Hid (M = n * 10 ^ j)) (fun _ i => 6 - (intOf i).toNat)
    case atStart => exact ⟨0, n, rfl, rfl, Nat.zero_le _, hid'' (by simp)⟩
    case round =>
      obtain ⟨j, M, rfl, rfl, hj, hM⟩ := hrel
      by_cases hlt : j < 6 - z
      · have HS := hid'' (mill_step n j (6 - z) HLT.out hlt)
        have hMb : M * 10 < 1000000 := by rw [hM.out]; have := HS.out; omega
        have q1 : (j : Int) < 6 - (z : Int) := by omega
        go_wp2
        go_round
        case rel => exact ⟨j + 1, M * 10, by go_num, by go_num, by omega, hid'' (by rw [hM.out, HS.out.1])⟩
        case measure => simp [intOf]; omega
      · have HE : Hid (M = n * 10 ^ (6 - z)) := by
          have e : j = 6 - z := by omega
          show _ = _
          rw [hM.out, e]
        have hMb : M < 1000000 := by rw [HE.out]; exact HLT.out
        have q1 : ¬ ((j : Int) < 6 - (z : Int)) := by omega
        go_wp2
        exact bodyPost_ret (v := .tuple #[.int .i64 (M : Int), .bool true]) (by simp [results, Tryz.results101, go_sem]) rfl ⟨by rw [HE.out]; rfl, rfl⟩

theorem index_any (s : ByteArray) (w : World) :
    Calls Tryz.prog 109 #[.string s, .string ⟨#[46]⟩] w fun e w' => e = .returned (.int .i64 (Lib.indexByte s.data.toList 46)) ∧ w' = w := by
  have k1 := hid'' (fun W => Tryz.stringslite_IndexByte s 46 W)
  have e46 : (46 : Int).toNat.toUInt8 = 46 := by decide
  rw [e46] at k1
  clear e46
  obtain ⟨I, hI⟩ : ∃ I, Lib.indexByte s.data.toList 46 = I := ⟨_, rfl⟩
  rw [hI] at k1 ⊢
  by_cases h0 : s.toList = [46]
  · have HI : Hid (I = 0) := by
      show _ = _
      rw [← hI, ← Lib.toList_data, h0]; rfl
    have h1 : ([46] == s.toList) = true := by rw [h0]; rfl
    clear h0 hI
    go_enter Tryz.func109, Tryz.ntmps109
    go_wp2_with (go_at_call 66; refine (k1.out _).mono ?_; rintro e w1 ⟨rfl, rfl⟩)
    go_ret
    exact ⟨ret_int HI.out.symm, rfl⟩
  · have h1 : ([46] == s.toList) = false := by rw [beq_eq_false_iff_ne]; exact fun e => h0 e.symm
    clear h0 hI
    go_enter Tryz.func109, Tryz.ntmps109
    go_wp2_with (go_at_call 66; refine (k1.out _).mono ?_; rintro e w1 ⟨rfl, rfl⟩)
    go_ret
    exact ⟨rfl, rfl⟩

def cv (r : List UInt8 × Option (List UInt8)) : Value := .tuple #[.string ⟨r.1.toArray⟩, .string ⟨(r.2.getD []).toArray⟩, .bool r.2.isSome]

theorem cutlite_any (s : ByteArray) (w : World) (hs : s.size ≤ 1000) :
    Calls Tryz.prog 106 #[.string s, .string ⟨#[46]⟩] w fun e w' => e = .returned (cv (NP.cutAt s.data.toList)) ∧ ∃ m, w' = w.drewN m := by
  have k1 := hid'' (fun W => index_any s W)
  obtain ⟨R, hR⟩ : ∃ R, NP.cutAt s.data.toList = R := ⟨_, rfl⟩
  rw [hR]
  cases hb : R.2 with
  | none =>
    rw [← hR] at hb
    obtain ⟨h1, h2⟩ := NP.cut_none _ hb
    rw [h1] at k1
    have HV : Hid (cv R = .tuple #[.string s, .string ⟨#[]⟩, .bool false]) := by
      show _ = _
      unfold cv
      rw [← hR, hb, h2]
      rfl
    clear hR hb h1 h2
    go_enter Tryz.func106, Tryz.ntmps106
    go_wp2_with (go_at_call 109; refine (k1.out _).mono ?_; rintro e w1 ⟨rfl, rfl⟩)
    exact bodyPost_ret (v := .tuple #[.string s, .string ⟨#[]⟩, .bool false]) (by simp [results, Tryz.results106, go_sem]) rfl ⟨by rw [HV.out], 0, rfl⟩
  | some b =>
    rw [← hR] at hb
    obtain ⟨k, h1, h2, h3, h4⟩ := NP.cut_some _ b hb
    rw [h1] at k1
    rw [← Lib.size_eq] at h2
    have HV : Hid (cv R = .tuple #[.string (s.extract 0 k), .string (s.extract (k + 1) s.size), .bool true]) := by
      show _ = _
      unfold cv
      rw [← hR, hb, h3, h4, Lib.extract_eq, Lib.extract_eq, List.drop_zero, Nat.sub_zero, List.take_of_length_le (l := s.data.toList.drop (k + 1)) (by rw [List.length_drop, ← Lib.size_eq]; exact Nat.le_refl _)]
      rfl
    clear hR hb h1 h3 h4
    go_enter Tryz.func106, Tryz.ntmps106
    go_wp2_with (go_at_call 109; refine (k1.out _).mono ?_; rintro e w1 ⟨rfl, rfl⟩)
    have i2 : ((k : Int) ≤ (s.size : Int)) := by omega
    have i3 : ((k : Int) + 1 ≤ (s.size : Int)) := by omega
    go_quiet (fail)
    go_wp2
    exact bodyPost_ret (v := .tuple #[.string (s.extract 0 k), .string (s.extract (k + 1) s.size), .bool true]) (by simp [results, Tryz.results106, go_sem]) rfl ⟨by rw [HV.out], _, rfl⟩

theorem cut_any (s : ByteArray) (w : World) (hs : s.size ≤ 1000) :
    Calls Tryz.prog 100 #[.string s, .string ⟨#[46]⟩] w fun e w' => e = .returned (cv (NP.cutAt s.data.toList)) ∧ ∃ m, w' = w.drewN m := by
  have k1 := hid'' (fun W => cutlite_any s W hs)
  obtain ⟨R, hR⟩ : ∃ R, NP.cutAt s.data.toList = R := ⟨_, rfl⟩
  rw [hR] at k1 ⊢
  have HV : Hid (cv R = .tuple #[.string ⟨R.1.toArray⟩, .string ⟨(R.2.getD []).toArray⟩, .bool R.2.isSome]) := rfl
  obtain ⟨a, ha⟩ : ∃ a, (⟨R.1.toArray⟩ : ByteArray) = a := ⟨_, rfl⟩
  obtain ⟨b, hb⟩ : ∃ b, (⟨(R.2.getD []).toArray⟩ : ByteArray) = b := ⟨_, rfl⟩
  obtain ⟨c, hc⟩ : ∃ c, R.2.isSome = c := ⟨_, rfl⟩
  rw [ha, hb, hc] at HV
  rw [show cv R = .tuple #[.string a, .string b, .bool c] from HV.out] at k1 ⊢
  clear ha hb hc hR HV
  go_enter Tryz.func100, Tryz.ntmps100
  go_wp2_with (go_at_call 106; refine (k1.out _).mono ?_; rintro e w1 ⟨rfl, m, rfl⟩)
  exact bodyPost_ret (v := .tuple #[.string a, .string b, .bool c]) (by simp [results, Tryz.results100, go_sem]) rfl ⟨rfl, _, rfl⟩

end Go.Proofs.YtenmkopiddmieabGreatDoor

/-
  The program's reading of a number: walked whole.
-/
namespace Go.Proofs.YtenmkopiddmieabGreatDoor
open Go.RowKit

def pv (a : Addr) : Option Int → Value
  | some n => .tuple #[.int .i64 n, .nilIface]
  | none => .tuple #[.int .i64 0, .iface 167 (.pointer (some a))]

theorem mill_some_any (s : ByteArray) (n : Nat) (h : NP.mill s.data.toList = some n) (w : World) :
    Calls Tryz.prog 101 #[.string s] w fun e w' => e = .returned (.tuple #[.int .i64 (n : Int), .bool true]) ∧ w' = w := by
  have := mill_any s w
  rw [h] at this
  exact this
theorem mill_none_any (s : ByteArray) (h : NP.mill s.data.toList = none) (w : World) :
    Calls Tryz.prog 101 #[.string s] w fun e w' => e = .returned (.tuple #[.int .i64 0, .bool false]) ∧ w' = w := by
  have := mill_any s w
  rw [h] at this
  exact this

theorem trim_le (l p : List UInt8) : (Lib.trimPrefix l p).length ≤ l.length := by
  unfold Lib.trimPrefix
  split
  · rw [List.length_drop]; omega
  · exact Nat.le_refl _



set_option maxRecDepth 20000 in
set_option maxHeartbeats 1000000 in
theorem parse_any (s : ByteArray) (w : World) (hs : s.size ≤ 1000) (a : Addr) (hE : w.cell? ⟨1, 0, none⟩ = some (.iface 167 (.pointer (some a)))) :
    Calls Tryz.prog 92 #[.string s] w fun e w' => e = .returned (pv a (NP.parse s.data.toList)) ∧ ∃ m, w' = w.drewN m := by
  obtain ⟨t, ht⟩ : ∃ t : ByteArray, (⟨(Lib.trimPrefix s.data.toList [45]).toArray⟩ : ByteArray) = t := ⟨_, rfl⟩
  obtain ⟨m, hm⟩ : ∃ m, Lib.hasPrefix s.data.toList [45] = m := ⟨_, rfl⟩
  obtain ⟨V, hV⟩ : ∃ V, pv a (NP.parse s.data.toList) = V := ⟨_, rfl⟩
  rw [hV]
  have k1 : Hid (∀ W, Calls Tryz.prog 72 #[.string s, .string ⟨#[45]⟩] W fun e w' => e = .returned (.tuple #[.string t, .bool m]) ∧ w' = W) := fun W => by
    have := Tryz.strings_CutPrefix s ⟨#[45]⟩ W
    rw [← ht, ← hm]
    exact this
  have htl : t.data.toList = Lib.trimPrefix s.data.toList [45] := by rw [← ht]
  have hts : t.size ≤ 1000 := by
    have := trim_le s.data.toList [45]
    rw [Lib.size_eq, htl]
    rw [Lib.size_eq] at hs
    omega
  have hP : NP.parse s.data.toList = NP.parse2 m t.data.toList := by unfold NP.parse; rw [hm, htl]
  rw [hP] at hV
  obtain ⟨R, hR⟩ : ∃ R, NP.cutAt t.data.toList = R := ⟨_, rfl⟩
  have k2 := hid'' (fun W => cut_any t W hts)
  rw [hR] at k2
  obtain ⟨x, hx⟩ : ∃ x, (⟨R.1.toArray⟩ : ByteArray) = x := ⟨_, rfl⟩
  have hxl : x.data.toList = R.1 := by rw [← hx]
  unfold NP.parse2 at hV
  rw [hR] at hV
  clear ht hm hP htl hts hR
  cases hu : NP.whole R.1 with
  | none =>
    have HV : Hid (V = .tuple #[.int .i64 0, .iface 167 (.pointer (some a))]) := by
      show _ = _
      rw [← hV, hu]; rfl
    have k3 := hid'' (fun W => whole_none_any x (by rw [hxl]; exact hu) W)
    have k2' : Hid (∀ W, ∃ y b, Calls Tryz.prog 100 #[.string t, .string ⟨#[46]⟩] W fun e w' => e = .returned (.tuple #[.string x, .string y, .bool b]) ∧ ∃ m, w' = W.drewN m) := fun W => ⟨_, _, by have := k2.out W; unfold cv at this; rw [hx] at this; exact this⟩
    clear hV hu hx hxl k2
    obtain ⟨y, b, k4⟩ := k2'.out w
    have K4 := hid'' k4
    clear k4 k2'
    go_enter Tryz.func92, Tryz.ntmps92
    go_wp2_with (first
      | (go_at_call 72; refine (k1.out _).mono ?_; rintro e w1 ⟨rfl, rfl⟩)
      | (go_at_call 100; refine K4.out.mono ?_; rintro e w1 ⟨rfl, q, rfl⟩)
      | (go_at_call 48; refine (k3.out _).mono ?_; rintro e w1 ⟨rfl, rfl⟩))
    go_quiet (fail)
    go_wp2
    exact bodyPost_ret (v := .tuple #[.int .i64 0, .iface 167 (.pointer (some a))]) (by simp [results, Tryz.results92, go_sem]) rfl ⟨by rw [HV.out], _, World.drewN_drewN _ _ _⟩
  | some u =>
    have hul := NP.whole_lt hu
    have k3 := hid'' (fun W => whole_some_any x u (by rw [hxl]; exact hu) W)
    rw [hu] at hV
    cases hb : R.2 with
    | none =>
      have HV : Hid (V = .tuple #[.int .i64 (NP.sgn m (u * 1000000)), .nilIface]) := by
        show _ = _
        rw [← hV, hb]; rfl
      have k4 : Hid (∀ W, Calls Tryz.prog 100 #[.string t, .string ⟨#[46]⟩] W fun e w' => e = .returned (.tuple #[.string x, .string ⟨#[]⟩, .bool false]) ∧ ∃ m, w' = W.drewN m) := fun W => by have := k2.out W; unfold cv at this; rw [hx, hb] at this; exact this
      clear hV hu hx hxl hb k2
      go_enter Tryz.func92, Tryz.ntmps92
      cases m with
      | true =>
        go_wp2_with (first
          | (go_at_call 72; refine (k1.out _).mono ?_; rintro e w1 ⟨rfl, rfl⟩)
          | (go_at_call 100; refine (k4.out _).mono ?_; rintro e w1 ⟨rfl, q, rfl⟩)
          | (go_at_call 48; refine (k3.out _).mono ?_; rintro e w1 ⟨rfl, rfl⟩))
        exact bodyPost_ret (v := .tuple #[.int .i64 (-((u : Int) * 1000000)), .nilIface]) (by simp [results, Tryz.results92, go_sem]) rfl ⟨by rw [HV.out]; simp [NP.sgn], _, rfl⟩
      | false =>
        go_wp2_with (first
          | (go_at_call 72; refine (k1.out _).mono ?_; rintro e w1 ⟨rfl, rfl⟩)
          | (go_at_call 100; refine (k4.out _).mono ?_; rintro e w1 ⟨rfl, q, rfl⟩)
          | (go_at_call 48; refine (k3.out _).mono ?_; rintro e w1 ⟨rfl, rfl⟩))
        exact bodyPost_ret (v := .tuple #[.int .i64 ((u : Int) * 1000000), .nilIface]) (by simp [results, Tryz.results92, go_sem]) rfl ⟨by rw [HV.out]; simp [NP.sgn], _, rfl⟩
    | some b =>
      obtain ⟨y, hy⟩ : ∃ y : ByteArray, (⟨b.toArray⟩ : ByteArray) = y := ⟨_, rfl⟩
      have hyl : y.data.toList = b := by rw [← hy]
      have k4 : Hid (∀ W, Calls Tryz.prog 100 #[.string t, .string ⟨#[46]⟩] W fun e w' => e = .returned (.tuple #[.string x, .string y, .bool true]) ∧ ∃ m, w' = W.drewN m) := fun W => by have := k2.out W; unfold cv at this; rw [hx, hb] at this; rw [← hy]; exact this
      rw [hb] at hV
      cases hf : NP.mill b with
      | none =>
        have HV : Hid (V = .tuple #[.int .i64 0, .iface 167 (.pointer (some a))]) := by
          show _ = _
          rw [← hV]; simp only [hf]; rfl
        have k5 := hid'' (fun W => mill_none_any y (by rw [hyl]; exact hf) W)
        clear hV hu hx hxl hb k2 hf hy hyl
        go_enter Tryz.func92, Tryz.ntmps92
        go_wp2_with (first
          | (go_at_call 72; refine (k1.out _).mono ?_; rintro e w1 ⟨rfl, rfl⟩)
          | (go_at_call 100; refine (k4.out _).mono ?_; rintro e w1 ⟨rfl, q, rfl⟩)
          | (go_at_call 48; refine (k3.out _).mono ?_; rintro e w1 ⟨rfl, rfl⟩)
          | (go_at_call 101; refine (k5.out _).mono ?_; rintro e w1 ⟨rfl, rfl⟩))
        go_quiet (fail)
        go_wp2
        exact bodyPost_ret (v := .tuple #[.int .i64 0, .iface 167 (.pointer (some a))]) (by simp [results, Tryz.results92, go_sem]) rfl ⟨by rw [HV.out], _, World.drewN_drewN _ _ _⟩
      | some f =>
        have hfl := NP.mill_lt hf
        have HV : Hid (V = .tuple #[.int .i64 (NP.sgn m (u * 1000000 + f)), .nilIface]) := by
          show _ = _
          rw [← hV]; simp only [hf]; rfl
        have k5 := hid'' (fun W => mill_some_any y f (by rw [hyl]; exact hf) W)
        clear hV hu hx hxl hb k2 hf hy hyl
        go_enter Tryz.func92, Tryz.ntmps92
        cases m with
        | true =>
          go_wp2_with (first
            | (go_at_call 72; refine (k1.out _).mono ?_; rintro e w1 ⟨rfl, rfl⟩)
            | (go_at_call 100; refine (k4.out _).mono ?_; rintro e w1 ⟨rfl, q, rfl⟩)
            | (go_at_call 48; refine (k3.out _).mono ?_; rintro e w1 ⟨rfl, rfl⟩)
            | (go_at_call 101; refine (k5.out _).mono ?_; rintro e w1 ⟨rfl, rfl⟩))
          exact bodyPost_ret (v := .tuple #[.int .i64 (-((u : Int) * 1000000 + (f : Int))), .nilIface]) (by simp [results, Tryz.results92, go_sem]) rfl ⟨by rw [HV.out]; simp [NP.sgn], _, rfl⟩
        | false =>
          go_wp2_with (first
            | (go_at_call 72; refine (k1.out _).mono ?_; rintro e w1 ⟨rfl, rfl⟩)
            | (go_at_call 100; refine (k4.out _).mono ?_; rintro e w1 ⟨rfl, q, rfl⟩)
            | (go_at_call 48; refine (k3.out _).mono ?_; rintro e w1 ⟨rfl, rfl⟩)
            | (go_at_call 101; refine (k5.out _).mono ?_; rintro e w1 ⟨rfl, rfl⟩))
          exact bodyPost_ret (v := .tuple #[.int .i64 ((u : Int) * 1000000 + (f : Int)), .nilIface]) (by simp [results, Tryz.results92, go_sem]) rfl ⟨by rw [HV.out]; simp [NP.sgn], _, rfl⟩

end Go.Proofs.YtenmkopiddmieabGreatDoor

/-
  The words of a text, said plainly: which bytes are which, how far a name, a number, a color goes, what lies between words, the words one by one or the first place where none can be read.
-/
import Derived.Lib.Strings
import Derived.Lib.Bytealg
namespace Go.Proofs.YtbniikaebkmbhaaDoor
namespace WP

def small (c : UInt8) : Bool := decide (97 ≤ c.toNat) && decide (c.toNat ≤ 122)
def great (c : UInt8) : Bool := decide (65 ≤ c.toNat) && decide (c.toNat ≤ 90)
def digit (c : UInt8) : Bool := decide (48 ≤ c.toNat) && decide (c.toNat ≤ 57)
def nsign (c : UInt8) : Bool := small c || digit c || decide (c.toNat = 95)
def sign (c : UInt8) : Bool := nsign c || great c
def cdig (c : UInt8) : Bool := digit c || (decide (97 ≤ c.toNat) && decide (c.toNat ≤ 102))
def poh (c : UInt8) : Bool := decide (c.toNat = 46) || decide (c.toNat = 35)
def blank (c : UInt8) : Bool := decide (c.toNat = 32) || decide (c.toNat = 9) || decide (c.toNat = 10) || decide (c.toNat = 13)
def mark (c : UInt8) : Bool := decide (c.toNat = 123) || decide (c.toNat = 125) || decide (c.toNat = 59) || decide (c.toNat = 61)
def step (c : UInt8) : Bool := decide (c.toNat = 77) || decide (c.toNat = 76) || decide (c.toNat = 81) || decide (c.toNat = 67) || decide (c.toNat = 65) || decide (c.toNat = 66) || decide (c.toNat = 90)

def count (p : UInt8 → Bool) : List UInt8 → Nat
  | [] => 0
  | c :: l => if p c then count p l + 1 else 0

def begins (p : UInt8 → Bool) : List UInt8 → Bool
  | [] => false
  | c :: _ => p c

def glued (l : List UInt8) : Bool := begins sign l || begins poh l

def digits (l : List UInt8) : Nat := if 6 < count digit l then 0 else count digit l

def nameSize (l : List UInt8) : Nat := if 24 < count nsign l then 0 else count nsign l

/-- What is left behind a number, if it is right. -/
def numRest (l : List UInt8) : Option (List UInt8) :=
  let r := Lib.trimPrefix l [45]
  if digits r = 0 then none else
  let r1 := r.drop (digits r)
  if Lib.hasPrefix r1 [46] then
    let b := Lib.trimPrefix r1 [46]
    if digits b = 0 then none else if glued (b.drop (digits b)) then none else some (b.drop (digits b))
  else if glued r1 then none else some r1

def numSize (l : List UInt8) : Nat := match numRest l with | none => 0 | some r => l.length - r.length

def colSize (l : List UInt8) : Nat :=
  let n := count cdig (l.drop 1)
  if (n ≠ 6 ∧ n ≠ 8) ∨ glued (l.drop (1 + n)) = true then 0 else 1 + n

def keys : List (List UInt8) := [[105, 99, 111, 110], [115, 99, 97, 108, 101], [99, 111, 110, 115, 116], [99, 111, 108, 111, 114], [115, 104, 97, 112, 101], [102, 105, 108, 108], [101, 118, 101, 110, 111, 100, 100], [110, 111, 110, 122, 101, 114, 111], [108, 105, 110, 101], [108, 105, 110, 101, 97, 114], [114, 97, 100, 105, 97, 108], [112, 97, 116, 104], [117, 115, 101], [97, 116], [98, 121], [116, 117, 114, 110]]

def reserved (l : List UInt8) : Bool := keys.contains l

/-- The word at the front: its kind, its size (0: none that is right). -/
def first (l : List UInt8) : Nat × Nat :=
  match l with
  | [] => (0, 0)
  | c :: t =>
    if small c then (if reserved (l.take (nameSize l)) then (2, nameSize l) else (1, nameSize l))
    else if c.toNat = 45 ∨ digit c = true then (3, numSize l)
    else if c.toNat = 35 then (4, colSize l)
    else if mark c then (5, 1)
    else if step c && !begins sign t then (6, 1)
    else (0, 0)

/-- How far a line goes: to its end, or the text's. -/
def line : List UInt8 → Nat
  | [] => 0
  | c :: l => if c.toNat = 10 then 0 else line l + 1

/-- Blanks and remarks (r: within one). -/
def gaps (r : Bool) : List UInt8 → Nat
  | [] => 0
  | c :: l =>
    if r then (if c.toNat = 10 then gaps false l + 1 else gaps true l + 1)
    else if blank c then gaps false l + 1
    else if c.toNat = 47 ∧ begins (fun d => decide (d.toNat = 47)) l = true then gaps true l + 1
    else 0

def gap (l : List UInt8) : Nat := gaps false l

abbrev W := Nat × Nat × List UInt8

def pre (ws : List W) (r : Except Nat (List W)) : Except Nat (List W) := match r with | .error e => .error e | .ok l => .ok (ws ++ l)

def go : Nat → Nat → List UInt8 → Except Nat (List W)
  | 0, _, _ => .ok []
  | f + 1, n, d =>
    if d = [] then .ok []
    else if (first d).2 = 0 then .error n
    else pre [((first d).1, n, d.take (first d).2)] (go f (n + ((first d).2 + gap (d.drop (first d).2))) (d.drop ((first d).2 + gap (d.drop (first d).2))))

def split (l : List UInt8) : Except Nat (List W) := go (l.length + 1) (gap l) (l.drop (gap l))

theorem pre_pre (a b : List W) (r : Except Nat (List W)) : pre a (pre b r) = pre (a ++ b) r := by
  unfold pre; cases r <;> simp

theorem pre_nil (r : Except Nat (List W)) : pre [] r = r := by unfold pre; cases r <;> simp

theorem count_le (p : UInt8 → Bool) (l : List UInt8) : count p l ≤ l.length := by
  induction l with
  | nil => exact Nat.le_refl _
  | cons c l ih => unfold count; split <;> simp <;> omega

theorem digits_le (l : List UInt8) : digits l ≤ l.length := by
  have := count_le digit l
  unfold digits; split <;> omega

theorem nameSize_le (l : List UInt8) : nameSize l ≤ l.length := by
  have := count_le nsign l
  unfold nameSize; split <;> omega

theorem line_le (l : List UInt8) : line l ≤ l.length := by
  induction l with
  | nil => exact Nat.le_refl _
  | cons c l ih => unfold line; split <;> simp <;> omega

theorem gaps_le (r : Bool) (l : List UInt8) : gaps r l ≤ l.length := by
  induction l generalizing r with
  | nil => exact Nat.le_refl _
  | cons c l ih =>
    have h1 := ih true
    have h2 := ih false
    simp only [gaps, List.length_cons]
    split
    · split <;> omega
    · split
      · omega
      · split <;> omega

theorem gap_le (l : List UInt8) : gap l ≤ l.length := gaps_le false l

theorem numSize_le (l : List UInt8) : numSize l ≤ l.length := by unfold numSize; split <;> omega

theorem colSize_le (l : List UInt8) (h : l ≠ []) : colSize l ≤ l.length := by
  have := count_le cdig (l.drop 1)
  have h1 : 0 < l.length := List.length_pos_iff.2 h
  simp only [List.length_drop] at this
  unfold colSize
  simp only
  split <;> omega

theorem first_le (l : List UInt8) : (first l).2 ≤ l.length := by
  unfold first
  split
  · exact Nat.le_refl _
  · rename_i c t
    have h1 := nameSize_le (c :: t)
    have h2 := numSize_le (c :: t)
    have h3 := colSize_le (c :: t) (by simp)
    split
    · split <;> exact h1
    · split
      · exact h2
      · split
        · exact h3
        · split
          · simp
          · split <;> simp

theorem gaps_true (l : List UInt8) : gaps true l = line l + gap (l.drop (line l)) := by
  induction l with
  | nil => rfl
  | cons c l ih =>
    unfold line
    by_cases h : c.toNat = 10
    · rw [if_pos h, List.drop_zero, Nat.zero_add]
      have hb : blank c = true := by unfold blank; simp [h]
      simp [gap, gaps, h, hb]
    · rw [if_neg h, List.drop_succ_cons]
      simp only [gaps, h, if_true, if_false]
      omega

theorem gap_remark (l : List UInt8) (h : Lib.hasPrefix l [47, 47] = true) : gap l = line l + gap (l.drop (line l)) ∧ 0 < line l := by
  match l, h with
  | [], h => simp [Lib.hasPrefix] at h
  | [c], h => simp [Lib.hasPrefix, List.isPrefixOf] at h
  | c :: d :: l, h =>
    simp only [Lib.hasPrefix, List.isPrefixOf, Bool.and_true, Bool.and_eq_true, beq_iff_eq] at h
    obtain ⟨rfl, rfl⟩ := h
    have e : line ((47 : UInt8) :: 47 :: l) = line ((47 : UInt8) :: l) + 1 := by
      conv => lhs; unfold line
      rw [if_neg (by decide)]
    have e2 : gap ((47 : UInt8) :: 47 :: l) = gaps true ((47 : UInt8) :: l) + 1 := by
      conv => lhs; unfold gap gaps
      rw [if_neg (by decide), if_neg (by decide), if_pos ⟨by decide, rfl⟩]
    rw [e2, e, List.drop_succ_cons, gaps_true]
    omega

theorem gap_blank (l : List UInt8) (c : UInt8) (h : blank c = true) : gap (c :: l) = gap l + 1 := by
  unfold gap
  conv => lhs; unfold gaps
  rw [if_neg (by decide), if_pos h]

theorem gap_none (l : List UInt8) (c : UInt8) (h : blank c = false) (h2 : Lib.hasPrefix (c :: l) [47, 47] = false) : gap (c :: l) = 0 := by
  unfold gap
  conv => lhs; unfold gaps
  rw [if_neg (by decide), if_neg (by simp [h]), if_neg]
  rintro ⟨h3, h4⟩
  cases l with
  | nil => simp [begins] at h4
  | cons d l =>
    simp only [begins, decide_eq_true_eq] at h4
    have e1 : c = 47 := UInt8.toNat_inj.1 h3
    have e2 : d = 47 := UInt8.toNat_inj.1 h4
    subst e1; subst e2
    simp [Lib.hasPrefix, List.isPrefixOf] at h2

/-- Enough is enough. -/
theorem go_more : ∀ (f g n : Nat) (d : List UInt8), d.length < f → d.length < g → go f n d = go g n d := by
  intro f
  induction f with
  | zero => intro g n d h; omega
  | succ f ih =>
    intro g n d hf hg
    cases g with
    | zero => omega
    | succ g =>
      unfold go
      by_cases hd : d = []
      · simp [hd]
      · rw [if_neg hd, if_neg hd]
        by_cases h0 : (first d).2 = 0
        · simp [h0]
        · rw [if_neg h0, if_neg h0]
          have : 0 < d.length := List.length_pos_iff.2 hd
          rw [ih g _ _ (by rw [List.length_drop]; omega) (by rw [List.length_drop]; omega)]

end WP
end Go.Proofs.YtbniikaebkmbhaaDoor

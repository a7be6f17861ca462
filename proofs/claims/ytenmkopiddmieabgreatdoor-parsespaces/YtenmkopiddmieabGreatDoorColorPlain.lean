/-
  Colors as text, over plain lists of bytes: what a color is written as, what a text tells, and that the one is the other's way back. No program is named.
-/
import Derived.Test.YtenmkopiddmieabGreatDoorRows
import Derived.WalkKit
namespace Go.Proofs.YtenmkopiddmieabGreatDoor.CP

/-- The number that a digit stands for, -1 if for none. -/
def dig (c : Nat) : Int := if 48 ≤ c ∧ c ≤ 57 then (c : Int) - 48 else if 97 ≤ c ∧ c ≤ 102 then (c : Int) - 87 else -1

/-- A digit. -/
def hx (n : Nat) : Nat := if n < 10 then 48 + n else 87 + n

def two (p : Nat) : List Nat := [hx (p / 16), hx (p % 16)]

def text (r g b a : Nat) : List Nat := 35 :: (two r ++ (two g ++ (two b ++ (if a = 255 then [] else two a))))

/-- The parts that pairs of digits tell, one by one, over those that stand already. -/
def scan : List Nat → List Nat → Nat → Option (List Nat)
  | x :: y :: r, cs, k => if dig x < 0 ∨ dig y < 0 then none else scan r (cs.set k (16 * dig x + dig y).toNat) (k + 1)
  | _, cs, _ => some cs

def parse (bs : List Nat) : Option (List Nat) := if (bs.length = 7 ∨ bs.length = 9) ∧ bs.head? = some 35 then scan bs.tail [0, 0, 0, 255] 0 else none

theorem dig_le (c : Nat) : -1 ≤ dig c ∧ dig c ≤ 15 := by unfold dig; split <;> (try split) <;> omega
theorem dig_hx (n : Nat) (h : n < 16) : dig (hx n) = n := by unfold dig hx; split <;> split <;> (try split) <;> omega
theorem hx_lt (n : Nat) (h : n < 16) : hx n < 256 := by unfold hx; split <;> omega

theorem two_lt (p : Nat) (h : p < 256) : ∀ c ∈ two p, c < 256 := by
  intro c hc
  simp only [two, List.mem_cons, List.not_mem_nil, or_false] at hc
  rcases hc with rfl | rfl <;> exact hx_lt _ (by omega)

theorem two_good (p : Nat) (h : p < 256) : ∀ c ∈ two p, ¬ dig c < 0 := by
  intro c hc
  simp only [two, List.mem_cons, List.not_mem_nil, or_false] at hc
  rcases hc with rfl | rfl <;> rw [dig_hx _ (by omega)] <;> omega

theorem text_lt (r g b a : Nat) (hr : r < 256) (hg : g < 256) (hb : b < 256) (ha : a < 256) : ∀ c ∈ text r g b a, c < 256 := by
  intro c hc
  simp only [text, List.mem_cons, List.mem_append] at hc
  rcases hc with rfl | h | h | h | h
  · omega
  · exact two_lt r hr c h
  · exact two_lt g hg c h
  · exact two_lt b hb c h
  · split at h
    · simp at h
    · exact two_lt a ha c h

theorem text_len (r g b a : Nat) : (text r g b a).length = if a = 255 then 7 else 9 := by
  unfold text two
  split <;> rfl

theorem scan_two (p : Nat) (h : p < 256) (r cs : List Nat) (k : Nat) : scan (two p ++ r) cs k = scan r (cs.set k p) (k + 1) := by
  show (if dig (hx (p / 16)) < 0 ∨ dig (hx (p % 16)) < 0 then none else scan r (cs.set k (16 * dig (hx (p / 16)) + dig (hx (p % 16))).toNat) (k + 1)) = _
  rw [dig_hx _ (by omega), dig_hx _ (by omega), if_neg (by omega)]
  rw [show (16 * ((p / 16 : Nat) : Int) + ((p % 16 : Nat) : Int)).toNat = p by omega]

theorem scan_two' (p : Nat) (h : p < 256) (cs : List Nat) (k : Nat) : scan (two p) cs k = some (cs.set k p) := by
  have := scan_two p h [] cs k
  rw [List.append_nil] at this
  rw [this]
  rfl

/-- What is written is read as it was. -/
theorem parse_text (r g b a : Nat) (hr : r < 256) (hg : g < 256) (hb : b < 256) (ha : a < 256) : parse (text r g b a) = some [r, g, b, a] := by
  have hl := text_len r g b a
  unfold parse
  rw [if_pos ⟨by rw [hl]; split <;> simp, rfl⟩]
  show scan (two r ++ (two g ++ (two b ++ (if a = 255 then [] else two a)))) [0, 0, 0, 255] 0 = _
  rw [scan_two r hr, scan_two g hg, scan_two b hb]
  split
  · rename_i h
    subst h
    rfl
  · rw [scan_two' a ha]
    rfl

/-- With alpha written out, too. -/
theorem parse_full (r g b : Nat) (hr : r < 256) (hg : g < 256) (hb : b < 256) : parse (text r g b 255 ++ [102, 102]) = some [r, g, b, 255] := by
  have hl := text_len r g b 255
  rw [if_pos rfl] at hl
  unfold parse
  rw [if_pos ⟨by rw [List.length_append, hl]; simp, rfl⟩]
  show scan ((two r ++ (two g ++ (two b ++ (if (255 : Nat) = 255 then [] else two 255)))) ++ two 255) [0, 0, 0, 255] 0 = _
  rw [if_pos rfl, List.append_nil, List.append_assoc, List.append_assoc, scan_two r hr, scan_two g hg, scan_two b hb, scan_two' 255 (by omega)]
  rfl

theorem parse_len (bs : List Nat) (h : bs.length ≠ 7) (h' : bs.length ≠ 9) : parse bs = none := by
  unfold parse
  rw [if_neg (by rintro ⟨h1 | h1, _⟩ <;> contradiction)]

theorem scan_good : ∀ (n : Nat) (l cs : List Nat) (k : Nat), l.length = 2 * n → ((scan l cs k).isSome = true ↔ ∀ c ∈ l, ¬ dig c < 0) := by
  intro n
  induction n with
  | zero => intro l cs k h; obtain rfl := List.eq_nil_of_length_eq_zero h; simp [scan]
  | succ n ih =>
    intro l cs k h
    match l, h with
    | [], h => simp at h
    | [x], h => simp at h; omega
    | x :: y :: r, h =>
      have hr : r.length = 2 * n := by simp at h; omega
      rw [scan]
      by_cases hd : dig x < 0 ∨ dig y < 0
      · rw [if_pos hd]
        constructor
        · intro h; cases h
        · intro h
          rcases hd with hd | hd
          · exact absurd hd (h x (by simp))
          · exact absurd hd (h y (by simp))
      · rw [if_neg hd, ih r _ _ hr]
        constructor
        · intro h c hc
          rcases List.mem_cons.1 hc with rfl | hc
          · exact fun h => hd (.inl h)
          · rcases List.mem_cons.1 hc with rfl | hc
            · exact fun h => hd (.inr h)
            · exact h c hc
        · exact fun h c hc => h c (by simp [hc])

theorem parse_good (bs : List Nat) (h : bs.length = 7 ∨ bs.length = 9) : (parse bs).isSome = true ↔ bs.head? = some 35 ∧ ∀ c ∈ bs.tail, ¬ dig c < 0 := by
  unfold parse
  by_cases hh : bs.head? = some 35
  · rw [if_pos ⟨h, hh⟩, scan_good ((bs.length - 1) / 2) _ _ _ (by rw [List.length_tail]; omega)]
    simp [hh]
  · rw [if_neg (fun h => hh h.2)]
    simp [hh]

theorem text_tail_good (r g b a : Nat) (hr : r < 256) (hg : g < 256) (hb : b < 256) (ha : a < 256) : ∀ c ∈ (text r g b a).tail, ¬ dig c < 0 := by
  intro c hc
  simp only [text, List.tail_cons, List.mem_append] at hc
  rcases hc with h | h | h | h
  · exact two_good r hr c h
  · exact two_good g hg c h
  · exact two_good b hb c h
  · split at h
    · simp at h
    · exact two_good a ha c h

/-- One sign turned: a color's text still, just if the sign may stand there. -/
theorem parse_set (r g b a k c : Nat) (hr : r < 256) (hg : g < 256) (hb : b < 256) (ha : a < 256) (hk : k < (text r g b a).length) :
    (parse ((text r g b a).set k c)).isSome = if k = 0 then decide (c = 35) else decide (¬ dig c < 0) := by
  have hl := text_len r g b a
  have hg' := text_tail_good r g b a hr hg hb ha
  have hh : (text r g b a).head? = some 35 := rfl
  have hp := parse_good ((text r g b a).set k c) (by rw [List.length_set, hl]; split <;> simp)
  have hlen : (text r g b a).tail.length = (text r g b a).length - 1 := List.length_tail
  obtain ⟨l, hle⟩ : ∃ l, (text r g b a).tail = l := ⟨_, rfl⟩
  have he : text r g b a = 35 :: l := by rw [← hle]; rfl
  rw [hle] at hg' hlen
  rw [he] at hp hk ⊢
  match k with
  | 0 =>
    simp only [List.set_cons_zero, List.head?_cons, List.tail_cons, Option.some.injEq] at hp
    rw [if_pos rfl, List.set_cons_zero, Bool.eq_iff_iff, hp, decide_eq_true_iff]
    exact ⟨fun h => h.1, fun h => ⟨h, hg'⟩⟩
  | k + 1 =>
    simp only [List.set_cons_succ, List.head?_cons, List.tail_cons, true_and] at hp
    rw [if_neg (by omega), List.set_cons_succ, Bool.eq_iff_iff, hp, decide_eq_true_iff]
    have hk' : k < l.length := by simpa using hk
    constructor
    · intro h
      exact h c (List.mem_iff_getElem.2 ⟨k, by simpa using hk', by simp⟩)
    · intro h x hx
      rcases List.mem_or_eq_of_mem_set hx with hx | rfl
      · exact hg' x hx
      · exact h

theorem text_inj {r g b a r' g' b' a' : Nat} (hr : r < 256) (hg : g < 256) (hb : b < 256) (ha : a < 256) (hr' : r' < 256) (hg' : g' < 256) (hb' : b' < 256) (ha' : a' < 256) (h : text r g b a = text r' g' b' a') : r = r' ∧ g = g' ∧ b = b' ∧ a = a' := by
  have := parse_text r g b a hr hg hb ha
  rw [h, parse_text r' g' b' a' hr' hg' hb' ha'] at this
  simp only [Option.some.injEq, List.cons.injEq, and_true] at this
  omega

theorem scan_shape : ∀ (n : Nat) (l cs : List Nat) (k : Nat) (R : List Nat), l.length ≤ n → cs.length = 4 → (∀ c ∈ cs, c < 256) → scan l cs k = some R → R.length = 4 ∧ ∀ c ∈ R, c < 256 := by
  intro n
  induction n with
  | zero =>
    intro l cs k R h h4 hc hs
    obtain rfl := List.eq_nil_of_length_eq_zero (Nat.le_zero.1 h)
    simp only [scan, Option.some.injEq] at hs
    subst hs
    exact ⟨h4, hc⟩
  | succ n ih =>
    intro l cs k R h h4 hc hs
    match l, h, hs with
    | [], h, hs => simp only [scan, Option.some.injEq] at hs; subst hs; exact ⟨h4, hc⟩
    | [x], h, hs => simp only [scan, Option.some.injEq] at hs; subst hs; exact ⟨h4, hc⟩
    | x :: y :: r, h, hs =>
      rw [scan] at hs
      by_cases hd : dig x < 0 ∨ dig y < 0
      · rw [if_pos hd] at hs; cases hs
      · rw [if_neg hd] at hs
        refine ih r _ _ R (by simp at h; omega) (by simpa using h4) ?_ hs
        intro c hcc
        rcases List.mem_or_eq_of_mem_set hcc with hcc | rfl
        · exact hc c hcc
        · have := dig_le x; have := dig_le y; omega

theorem parse_shape {bs R : List Nat} (h : parse bs = some R) : ∃ r g b a, R = [r, g, b, a] ∧ r < 256 ∧ g < 256 ∧ b < 256 ∧ a < 256 := by
  unfold parse at h
  split at h
  · obtain ⟨h4, hc⟩ := scan_shape _ _ _ _ _ (Nat.le_refl _) rfl (by decide) h
    match R, h4 with
    | [r, g, b, a], _ => exact ⟨r, g, b, a, rfl, hc r (by simp), hc g (by simp), hc b (by simp), hc a (by simp)⟩
  · cases h

/-! Bytes as the program's strings. -/
def str (l : List Nat) : ByteArray := ⟨(l.map UInt8.ofNat).toArray⟩
def bytes (s : ByteArray) : List Nat := s.data.toList.map UInt8.toNat

theorem bytes_len (s : ByteArray) : (bytes s).length = s.size := by unfold bytes; rw [List.length_map, Array.length_toList]; rfl
theorem str_size (l : List Nat) : (str l).size = l.length := by
  show (l.map UInt8.ofNat).toArray.size = _
  simp
theorem bytes_lt (s : ByteArray) : ∀ c ∈ bytes s, c < 256 := by
  intro c hc
  obtain ⟨u, _, rfl⟩ := List.mem_map.1 hc
  exact UInt8.toNat_lt u
theorem bytes_str (l : List Nat) (h : ∀ c ∈ l, c < 256) : bytes (str l) = l := by
  unfold bytes str
  simp only [List.map_map]
  conv => rhs; rw [← List.map_id l]
  refine List.map_congr_left fun c hc => ?_
  simp [Nat.mod_eq_of_lt (h c hc)]
theorem bytes_at (s : ByteArray) (k : Nat) (h : k < s.size) : (s[k]'h).toNat = (bytes s)[k]'(by rw [bytes_len]; exact h) := by
  simp only [bytes, List.getElem_map, Array.getElem_toList]
  rfl
theorem bytes_append (s t : ByteArray) : bytes (s ++ t) = bytes s ++ bytes t := by simp [bytes, ByteArray.data_append]
theorem bytes_take (s : ByteArray) (n : Nat) : bytes (s.extract 0 n) = (bytes s).take n := by
  simp [bytes, ByteArray.data_extract, List.map_take]
theorem str_toList (l : List Nat) : (str l).toList = l.map UInt8.ofNat := by
  unfold str
  rw [Go.ByteArray.toList_mk]
theorem str_eq (l m : List Nat) (hl : ∀ c ∈ l, c < 256) (hm : ∀ c ∈ m, c < 256) : ((str l).toList == (str m).toList) = decide (l = m) := by
  rw [str_toList, str_toList, Bool.eq_iff_iff, beq_iff_eq, decide_eq_true_iff]
  constructor
  · intro h
    have := congrArg (List.map UInt8.toNat) h
    have e := bytes_str l hl
    have e' := bytes_str m hm
    simp only [bytes, str] at e e'
    rw [← e, ← e']
    exact this
  · rintro rfl; rfl

end Go.Proofs.YtenmkopiddmieabGreatDoor.CP

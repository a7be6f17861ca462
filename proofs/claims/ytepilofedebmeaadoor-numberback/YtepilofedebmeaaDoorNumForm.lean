/-
  The document's reading of a number, plainly: where its signs end, what they come to; and that it is the program's.
-/
import Derived.Test.YtepilofedebmeaaDoorNumRef2
namespace Go.Proofs.YtepilofedebmeaaDoor
namespace NP
open WP (count numEnd minus digits digit)

/-- How a number is written. -/
inductive Form : List UInt8 → Bool → List UInt8 → Option (List UInt8) → Prop
  | one (m d) : Dig d → 1 ≤ d.length → d.length ≤ 6 → Form (sg m ++ d) m d none
  | two (m d f) : Dig d → 1 ≤ d.length → d.length ≤ 6 → Dig f → 1 ≤ f.length → f.length ≤ 6 → Form (sg m ++ (d ++ 46 :: f)) m d (some f)

theorem cut_join : ∀ (l : List UInt8), l = (cutAt l).1 ++ (match (cutAt l).2 with | none => [] | some b => 46 :: b)
  | [] => rfl
  | c :: t => by
    by_cases h : c = 46
    · simp [cutAt, h]
    · have := cut_join t
      simp only [cutAt, h, if_false, List.cons_append]
      rw [← this]

theorem join_sg (l : List UInt8) : l = sg (Lib.hasPrefix l [45]) ++ Lib.trimPrefix l [45] := by
  unfold Lib.trimPrefix
  cases h : Lib.hasPrefix l [45] with
  | false => simp [sg]
  | true =>
    cases l with
    | nil => simp [Lib.hasPrefix, List.isPrefixOf] at h
    | cons c t =>
      have : c = 45 := by
        simp [Lib.hasPrefix, List.isPrefixOf] at h
        exact h.symm
      subst this
      simp [sg]

theorem form_of_parse (l : List UInt8) (v : Int) (h : parse l = some v) : ∃ m d o, Form l m d o := by
  unfold parse parse2 at h
  cases hw : whole (cutAt (Lib.trimPrefix l [45])).1 with
  | none => rw [hw] at h; cases h
  | some u =>
    rw [hw] at h
    obtain ⟨d1, d2, d3, -⟩ := whole_some hw
    have hj := cut_join (Lib.trimPrefix l [45])
    cases hb : (cutAt (Lib.trimPrefix l [45])).2 with
    | none =>
      rw [hb] at hj
      have hl := join_sg l
      rw [hj, List.append_nil] at hl
      exact ⟨_, _, _, by rw [hl]; exact Form.one _ _ d1 d2 d3⟩
    | some b =>
      rw [hb] at hj h
      simp only at h
      cases hm : mill b with
      | none => rw [hm] at h; cases h
      | some f =>
        unfold mill at hm
        cases hwb : whole b with
        | none => rw [hwb] at hm; cases hm
        | some x =>
          obtain ⟨g1, g2, g3, -⟩ := whole_some hwb
          have hl := join_sg l
          rw [hj] at hl
          exact ⟨_, _, _, by rw [hl]; exact Form.two _ _ _ d1 d2 d3 g1 g2 g3⟩

theorem count_dig : ∀ (d r : List UInt8), Dig d → (∀ c, r.head? = some c → digit c = false) → count digit (d ++ r) = d.length
  | [], [], _, _ => rfl
  | [], c :: r, _, h => by
    have := h c rfl
    simp [count, this]
  | c :: d, r, hd, h => by
    have hc := hd c (by simp)
    rw [List.cons_append]
    show (if digit c = true then count digit (d ++ r) + 1 else 0) = _
    rw [if_pos hc, count_dig d r (fun x hx => hd x (by simp [hx])) h]
    rfl

theorem digits_dig (d r : List UInt8) (hd : Dig d) (h6 : d.length ≤ 6) (h : ∀ c, r.head? = some c → digit c = false) : digits (d ++ r) = d.length := by
  unfold digits
  rw [count_dig d r hd h, if_neg (by omega)]

theorem minus_sg (m : Bool) (d r : List UInt8) (hd : Dig d) (h1 : 1 ≤ d.length) : minus (sg m ++ (d ++ r)) = (sg m).length := by
  unfold minus
  rw [(pre_sg m d r hd h1).1]
  cases m <;> rfl

theorem sg_drop (m : Bool) (x : List UInt8) : (sg m ++ x).drop (sg m).length = x := List.drop_left

theorem end_form {l : List UInt8} {m : Bool} {d : List UInt8} {o : Option (List UInt8)} (h : Form l m d o) : numEnd l = l.length := by
  cases h with
  | one m d h1 h2 h3 =>
    have hm := minus_sg m d [] h1 h2
    rw [List.append_nil] at hm
    have hd : digits (d ++ []) = d.length := digits_dig d [] h1 h3 (fun c h => by cases h)
    rw [List.append_nil] at hd
    unfold numEnd
    rw [hm, sg_drop, hd, if_neg (by omega)]
    have e : (sg m ++ d).drop ((sg m).length + d.length) = [] := by rw [← List.length_append]; exact List.drop_length
    rw [e]
    simp [Lib.hasPrefix, List.isPrefixOf]
  | two m d f h1 h2 h3 g1 g2 g3 =>
    have hm := minus_sg m d (46 :: f) h1 h2
    have hd : digits (d ++ 46 :: f) = d.length := digits_dig d _ h1 h3 (fun c h => by simp at h; subst h; decide)
    have hf : digits (f ++ []) = f.length := digits_dig f [] g1 g3 (fun c h => by cases h)
    rw [List.append_nil] at hf
    unfold numEnd
    rw [hm, sg_drop, hd, if_neg (by omega)]
    have e : (sg m ++ (d ++ 46 :: f)).drop ((sg m).length + d.length) = 46 :: f := by rw [← List.drop_drop, sg_drop, List.drop_left]
    have e2 : (sg m ++ (d ++ 46 :: f)).drop ((sg m).length + d.length + 1) = f := by rw [← List.drop_drop, e]; rfl
    rw [e, e2, hf, if_pos (by simp [Lib.hasPrefix, List.isPrefixOf]), if_neg (by omega)]
    simp only [List.length_append, List.length_cons]
    omega

theorem take_dig : ∀ (l : List UInt8), Dig (l.take (count digit l)) ∧ count digit l ≤ l.length
  | [] => ⟨fun c h => by simp [count] at h, Nat.zero_le _⟩
  | c :: t => by
    obtain ⟨h1, h2⟩ := take_dig t
    by_cases hc : digit c = true
    · have e : count digit (c :: t) = count digit t + 1 := by show (if digit c = true then _ else _) = _; rw [if_pos hc]
      rw [e]
      refine ⟨fun x hx => ?_, by simpa using h2⟩
      rw [List.take_succ_cons] at hx
      rcases List.mem_cons.1 hx with rfl | hx
      · exact hc
      · exact h1 x hx
    · have e : count digit (c :: t) = 0 := by show (if digit c = true then _ else _) = _; rw [if_neg hc]
      rw [e]
      exact ⟨fun x hx => by simp at hx, Nat.zero_le _⟩

theorem digits_take (l : List UInt8) (h : digits l ≠ 0) : Dig (l.take (digits l)) ∧ digits l ≤ l.length ∧ digits l ≤ 6 := by
  unfold digits at h ⊢
  split
  · rename_i h6; rw [if_pos h6] at h; exact absurd rfl h
  · rename_i h6
    obtain ⟨h1, h2⟩ := take_dig l
    exact ⟨h1, h2, by omega⟩

theorem minus_split (l : List UInt8) : l = sg (Lib.hasPrefix l [45]) ++ l.drop (minus l) := by
  have := join_sg l
  rw [WP.trim_minus] at this
  exact this

theorem form_of_end (l : List UInt8) (h0 : l ≠ []) (h : numEnd l = l.length) : ∃ m d o, Form l m d o := by
  have hl : l.length ≠ 0 := by simpa using h0
  unfold numEnd at h
  obtain ⟨r, hr⟩ : ∃ r, l.drop (minus l) = r := ⟨_, rfl⟩
  have hs := minus_split l
  rw [hr] at hs
  have hlen : l.length = minus l + r.length := by
    have h1 := congrArg List.length hr
    rw [List.length_drop] at h1
    have h2 : minus l ≤ l.length := by
      unfold minus
      split <;> omega
    omega
  rw [hr] at h
  by_cases hd : digits r = 0
  · rw [if_pos hd] at h; omega
  · rw [if_neg hd] at h
    obtain ⟨t1, t2, t3⟩ := digits_take r hd
    have hd1 : l.drop (minus l + digits r) = r.drop (digits r) := by rw [← List.drop_drop, hr]
    have hd2 : l.drop (minus l + digits r + 1) = r.drop (digits r + 1) := by rw [← List.drop_drop, hd1, List.drop_drop]
    rw [hd1, hd2] at h
    have ht : r = r.take (digits r) ++ r.drop (digits r) := (List.take_append_drop _ _).symm
    have hl1 : (r.take (digits r)).length = digits r := by rw [List.length_take]; omega
    by_cases hp : Lib.hasPrefix (r.drop (digits r)) [46] = true
    · rw [if_pos hp] at h
      obtain ⟨f, hf⟩ : ∃ f, r.drop (digits r) = 46 :: f := by
        cases hx : r.drop (digits r) with
        | nil => rw [hx] at hp; simp [Lib.hasPrefix, List.isPrefixOf] at hp
        | cons c t =>
          rw [hx] at hp
          simp [Lib.hasPrefix, List.isPrefixOf] at hp
          exact ⟨t, by rw [hp]⟩
      have hf2 : r.drop (digits r + 1) = f := by rw [← List.drop_drop, hf]; rfl
      rw [hf2] at h
      by_cases hg : digits f = 0
      · rw [if_pos hg] at h; omega
      · rw [if_neg hg] at h
        obtain ⟨g1, g2, g3⟩ := digits_take f hg
        have hfl : f.length + 1 + digits r = r.length := by
          have := congrArg List.length ht
          rw [List.length_append, hl1, hf, List.length_cons] at this
          omega
        have he : digits f = f.length := by omega
        rw [he, List.take_length] at g1
        rw [hf] at ht
        refine ⟨Lib.hasPrefix l [45], r.take (digits r), some f, ?_⟩
        have hs2 : l = sg (Lib.hasPrefix l [45]) ++ (r.take (digits r) ++ 46 :: f) := by rw [← ht]; exact hs
        have F := Form.two (Lib.hasPrefix l [45]) (r.take (digits r)) f t1 (by omega) (by omega) g1 (by omega) (by omega)
        rw [← hs2] at F
        exact F
    · rw [if_neg hp] at h
      have he : digits r = r.length := by omega
      rw [he, List.take_length] at t1
      have F := Form.one (Lib.hasPrefix l [45]) r t1 (by omega) (by omega)
      rw [← hs] at F
      exact ⟨_, _, _, F⟩

theorem parse_form {l : List UInt8} {m : Bool} {d : List UInt8} {o : Option (List UInt8)} (h : Form l m d o) :
    parse l = some (sgn m (val 0 (d ++ o.getD []) * 10 ^ (6 - (o.getD []).length))) := by
  cases h with
  | one m d h1 h2 h3 => rw [parse_one m d h1 h2 h3]; simp
  | two m d f h1 h2 h3 g1 g2 g3 =>
    rw [parse_two m d f h1 h2 h3 g1 g2 g3]
    simp only [Option.getD_some]
    rw [val_append, val_shift f (val 0 d), Nat.add_mul, Nat.mul_assoc, ← Nat.pow_add, show f.length + (6 - f.length) = 6 by omega]

/-- One sign more. -/
def scan : Nat → Int → List UInt8 → Nat × Int
  | n, b, [] => (n, b)
  | n, b, c :: t => if c = 46 then scan n 0 t else if digit c = true then scan (dv n c) (if 0 ≤ b then b + 1 else b) t else scan n b t

theorem scan_dig : ∀ (d r : List UInt8) (n : Nat) (b : Int), Dig d → scan n b (d ++ r) = scan (val n d) (if 0 ≤ b then b + d.length else b) r
  | [], r, n, b, _ => by simp [val_nil]
  | c :: d, r, n, b, h => by
    have hc := h c (by simp)
    have h46 : c ≠ 46 := by
      intro e
      have := digit_dv hc
      rw [e] at this
      exact absurd this.1 (by decide)
    rw [List.cons_append, scan, if_neg h46, if_pos hc, scan_dig d r _ _ (fun x hx => h x (by simp [hx])), val_cons]
    congr 1
    by_cases hb : 0 ≤ b
    · rw [if_pos hb, if_pos (by omega), if_pos hb, List.length_cons]; push_cast; omega
    · rw [if_neg hb, if_neg hb, if_neg hb]

def bh : Option (List UInt8) → Int
  | none => -1
  | some f => (f.length : Int)
theorem scan_form {l : List UInt8} {m : Bool} {d : List UInt8} {o : Option (List UInt8)} (h : Form l m d o) :
    scan 0 (-1) l = (val 0 (d ++ o.getD []), bh o) := by
  have hsg : ∀ (m : Bool) (x : List UInt8), scan 0 (-1) (sg m ++ x) = scan 0 (-1) x := by
    intro m x
    cases m with
    | false => rfl
    | true =>
      show scan 0 (-1) (45 :: x) = _
      rw [scan, if_neg (by decide), if_neg (by decide)]
  cases h with
  | one m d h1 h2 h3 =>
    rw [hsg]
    have := scan_dig d [] 0 (-1) h1
    rw [List.append_nil] at this
    rw [this]
    simp [scan, bh]
  | two m d f h1 h2 h3 g1 g2 g3 =>
    rw [hsg, scan_dig d _ 0 (-1) h1]
    rw [scan, if_pos rfl]
    have := scan_dig f [] (val 0 d) 0 g1
    rw [List.append_nil] at this
    rw [this]
    simp [scan, val_append, bh]

/-- How many digits. -/
def dc (l : List UInt8) : Nat := (l.filter digit).length
theorem dc_form {l : List UInt8} {m : Bool} {d : List UInt8} {o : Option (List UInt8)} (h : Form l m d o) : dc l ≤ 12 ∧ l.length ≤ 14 ∧ l ≠ [] ∧ (m = true ↔ l.head? = some 45) := by
  have hf : ∀ x : List UInt8, (x.filter digit).length ≤ x.length := fun x => List.length_filter_le _ _
  have hsg : ∀ m, ((sg m).filter digit).length = 0 := by intro m; cases m <;> decide
  have hh : ∀ (m : Bool) (d r : List UInt8), Dig d → 1 ≤ d.length → (m = true ↔ (sg m ++ (d ++ r)).head? = some 45) := by
    intro m d r hd h1
    cases m with
    | true => simp [sg]
    | false =>
      cases d with
      | nil => simp at h1
      | cons c t =>
        have hc := digit_dv (hd c (by simp))
        simp [sg]
        intro e
        rw [e] at hc
        exact absurd hc.1 (by decide)
  have hs1 : ∀ m, (sg m).length ≤ 1 := by intro m; cases m <;> decide
  cases h with
  | one m d h1 h2 h3 =>
    have a1 := hf d
    have a2 := hs1 m
    refine ⟨?_, ?_, ?_, ?_⟩
    · unfold dc; rw [List.filter_append, List.length_append, hsg]; omega
    · rw [List.length_append]; omega
    · intro e; have := congrArg List.length e; rw [List.length_append, List.length_nil] at this; omega
    · have := hh m d [] h1 h2; rw [List.append_nil] at this; exact this
  | two m d f h1 h2 h3 g1 g2 g3 =>
    have a1 := hf d
    have a2 := hs1 m
    have a3 := hf f
    have a4 : ((46 :: f : List UInt8).filter digit).length = (f.filter digit).length := by rw [List.filter_cons_of_neg (by decide)]
    refine ⟨?_, ?_, ?_, ?_⟩
    · unfold dc; rw [List.filter_append, List.filter_append, List.length_append, List.length_append, hsg, a4]; omega
    · simp only [List.length_append, List.length_cons]; omega
    · intro e; have := congrArg List.length e; simp only [List.length_append, List.length_cons, List.length_nil] at this; omega
    · exact hh m d _ h1 h2

theorem form_o {l : List UInt8} {m : Bool} {d : List UInt8} {o : Option (List UInt8)} (h : Form l m d o) : (o.getD []).length ≤ 6 := by
  cases h with
  | one => simp
  | two => simpa

theorem head_form {l : List UInt8} {m : Bool} {d : List UInt8} {o : Option (List UInt8)} (h : Form l m d o) : ∃ c, l.head? = some c ∧ (digit c = true ∨ c.toNat = 45) := by
  have hh : ∀ (m : Bool) (d r : List UInt8), Dig d → 1 ≤ d.length → ∃ c, (sg m ++ (d ++ r)).head? = some c ∧ (digit c = true ∨ c.toNat = 45) := by
    intro m d r hd h1
    cases m with
    | true => exact ⟨45, by simp [sg], .inr rfl⟩
    | false =>
      cases d with
      | nil => simp at h1
      | cons c t => exact ⟨c, by simp [sg], .inl (hd c (by simp))⟩
  cases h with
  | one m d h1 h2 h3 => have := hh m d [] h1 h2; rw [List.append_nil] at this; exact this
  | two m d f h1 h2 h3 g1 g2 g3 => exact hh m d _ h1 h2

end NP
end Go.Proofs.YtepilofedebmeaaDoor

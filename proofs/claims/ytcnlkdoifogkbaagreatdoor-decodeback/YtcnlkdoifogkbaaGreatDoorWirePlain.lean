/-
  Numbers as bytes, seven bits a byte: the form, how long it is, what is read back. Plain numbers and lists.
-/
import Derived.Lib.BitFns
import Derived.Laws.Bits64b
namespace Go.Proofs.YtcnlkdoifogkbaaGreatDoor
namespace WP

def encF : Nat → Nat → List Nat
  | 0, n => [n]
  | f + 1, n => if n < 128 then [n] else (n % 128 + 128) :: encF f (n / 128)

theorem encF_lt (f n : Nat) (h : n < 128) : encF f n = [n] := by
  cases f with
  | zero => rfl
  | succ f => rw [encF, if_pos h]

theorem encF_any (f : Nat) : ∀ g n : Nat, n ≤ f → n ≤ g → encF f n = encF g n := by
  induction f with
  | zero => intro g n h _; rw [encF_lt 0 n (by omega), encF_lt g n (by omega)]
  | succ f ih =>
    intro g n h1 h2
    by_cases c : n < 128
    · rw [encF_lt _ n c, encF_lt _ n c]
    · cases g with
      | zero => omega
      | succ g => rw [encF, encF, if_neg c, if_neg c, ih g (n / 128) (by omega) (by omega)]

/-- A number's bytes: seven bits a byte, the least first; all but the last have 128. -/
def enc (n : Nat) : List Nat := encF n n

theorem enc_lt {n : Nat} (h : n < 128) : enc n = [n] := encF_lt n n h
theorem enc_ge {n : Nat} (h : ¬ n < 128) : enc n = (n % 128 + 128) :: enc (n / 128) := by
  obtain ⟨m, rfl⟩ : ∃ m, n = m + 1 := ⟨n - 1, by omega⟩
  show encF (m + 1) (m + 1) = _
  rw [encF, if_neg h, enc, encF_any m ((m + 1) / 128) ((m + 1) / 128) (by omega) (by omega)]

def sz (n : Nat) : Nat := (enc n).length

theorem sz_lt {n : Nat} (h : n < 128) : sz n = 1 := by rw [sz, enc_lt h]; rfl
theorem sz_ge {n : Nat} (h : ¬ n < 128) : sz n = sz (n / 128) + 1 := by rw [sz, enc_ge h]; rfl

theorem sz_pos (n : Nat) : 1 ≤ sz n := by
  by_cases h : n < 128
  · rw [sz_lt h]; omega
  · rw [sz_ge h]; omega

theorem sz_up (k : Nat) : ∀ n, n < 128 ^ (k + 1) → sz n ≤ k + 1 := by
  induction k with
  | zero => intro n h; rw [sz_lt (by simpa using h)]; omega
  | succ k ih =>
    intro n h
    by_cases c : n < 128
    · rw [sz_lt c]; omega
    · rw [sz_ge c]
      have := ih (n / 128) (by rw [Nat.pow_succ] at h; omega)
      omega

theorem sz_lo (k : Nat) : ∀ n, 128 ^ k ≤ n → k + 1 ≤ sz n := by
  induction k with
  | zero => intro n _; exact sz_pos n
  | succ k ih =>
    intro n h
    have p : 0 < 128 ^ k := Nat.pow_pos (by omega)
    rw [Nat.pow_succ] at h
    rw [sz_ge (by omega)]
    have := ih (n / 128) (by omega)
    omega

theorem lt_sz (n : Nat) : n < 128 ^ sz n := by
  induction n using Nat.strongRecOn with
  | _ n ih =>
    by_cases h : n < 128
    · rw [sz_lt h]; simpa using h
    · rw [sz_ge h, Nat.pow_succ]
      have := ih (n / 128) (by omega)
      omega

theorem pow10 : (128 : Nat) ^ 10 = 1180591620717411303424 := by decide
theorem sz_le10 {n : Nat} (h : n < 18446744073709551616) : sz n ≤ 10 := sz_up 9 n (by have := pow10; omega)

theorem sz_grows (a : Nat) : ∀ b, a ≤ b → sz a ≤ sz b := by
  induction a using Nat.strongRecOn with
  | _ a ih =>
    intro b h
    by_cases c : a < 128
    · rw [sz_lt c]; exact sz_pos b
    · rw [sz_ge c, sz_ge (by omega : ¬ b < 128)]
      have := ih (a / 128) (by omega) (b / 128) (Nat.div_le_div_right h)
      omega
theorem sz_mono {a b : Nat} (h : a ≤ b) : sz a ≤ sz b := sz_grows a b h

theorem ge_sz' (n : Nat) : 1 ≤ n → 128 ^ (sz n - 1) ≤ n := by
  induction n using Nat.strongRecOn with
  | _ n ih =>
    intro h
    by_cases c : n < 128
    · rw [sz_lt c]; simpa using h
    · rw [sz_ge c]
      have := ih (n / 128) (by omega) (by omega)
      have p := sz_pos (n / 128)
      have e : sz (n / 128) + 1 - 1 = (sz (n / 128) - 1) + 1 := by omega
      rw [e, Nat.pow_succ]
      omega
theorem ge_sz {n : Nat} (h : 1 ≤ n) : 128 ^ (sz n - 1) ≤ n := ge_sz' n h

theorem bitLen_lo (f : Nat) : ∀ x : Nat, x < 2 ^ f → x ≠ 0 → 2 ^ Lib.bitLenAux f x ≤ 2 * x ∧ x < 2 ^ Lib.bitLenAux f x := by
  induction f with
  | zero => intro x h hx; simp at h; exact absurd h hx
  | succ f ih =>
    intro x h hx
    unfold Lib.bitLenAux
    rw [if_neg hx]
    by_cases z : x / 2 = 0
    · have : x = 1 := by omega
      subst this
      have e : Lib.bitLenAux f (1 / 2) = 0 := by cases f <;> simp [Lib.bitLenAux]
      rw [e]; decide
    · have := ih (x / 2) (by rw [Nat.pow_succ] at h; omega) z
      rw [Nat.add_comm, Nat.pow_succ]
      omega

theorem bitLen_spec (x : Nat) (h : x < 18446744073709551616) (hx : x ≠ 0) : 2 ^ Lib.bitLen x ≤ 2 * x ∧ x < 2 ^ Lib.bitLen x := bitLen_lo 64 x h hx

theorem or_one (n : Nat) : n ||| 1 = if n % 2 = 0 then n + 1 else n := by
  have h : (n ||| 1) / 2 = n / 2 := by
    have := Nat.or_div_two (a := n) (b := 1)
    simpa using this
  have g : (n ||| 1) % 2 = 1 := by
    simp [Nat.or_mod_two_eq_one]
  split <;> omega

theorem size_is (n : Nat) (h : n < 18446744073709551616) : (Lib.bitLen (n ||| 1) + 6) / 7 = sz n := by
  have ho := or_one n
  obtain ⟨x, hx⟩ : ∃ x, n ||| 1 = x := ⟨_, rfl⟩
  rw [hx] at ho ⊢
  have x1 : x ≠ 0 := by split at ho <;> omega
  have x2 : x < 18446744073709551616 := by split at ho <;> omega
  obtain ⟨b1, b2⟩ := bitLen_spec x x2 x1
  have s1 := sz_pos n
  have u1 := lt_sz n
  have ux : x < 128 ^ sz n := by
    obtain ⟨k, hk⟩ : ∃ k, sz n = k + 1 := ⟨sz n - 1, by omega⟩
    rw [hk, Nat.pow_succ] at u1 ⊢
    split at ho <;> omega
  have lx : 128 ^ (sz n - 1) ≤ x := by
    by_cases c : n = 0
    · subst c; rw [sz_lt (by omega)]; simp; omega
    · have := ge_sz (n := n) (by omega)
      split at ho <;> omega
  have e1 : (128 : Nat) ^ sz n = 2 ^ (7 * sz n) := by rw [Nat.pow_mul]
  have e2 : (128 : Nat) ^ (sz n - 1) = 2 ^ (7 * (sz n - 1)) := by rw [Nat.pow_mul]
  rw [e1] at ux; rw [e2] at lx
  have c1 : Lib.bitLen x ≤ 7 * sz n := by
    have : 2 ^ Lib.bitLen x < 2 ^ (7 * sz n + 1) := by rw [Nat.pow_succ]; omega
    have := (Nat.pow_lt_pow_iff_right (by omega : 1 < 2)).1 this
    omega
  have c2 : 7 * (sz n - 1) < Lib.bitLen x := by
    have : 2 ^ (7 * (sz n - 1)) < 2 ^ Lib.bitLen x := by omega
    exact (Nat.pow_lt_pow_iff_right (by omega : 1 < 2)).1 this
  omega

theorem sz_two (k : Nat) : sz (2 ^ (7 * k)) = k + 1 := by
  have e : (2 : Nat) ^ (7 * k) = 128 ^ k := by rw [Nat.pow_mul]
  rw [e]
  have a := sz_lo k (128 ^ k) (Nat.le_refl _)
  have b := sz_up k (128 ^ k) (by rw [Nat.pow_succ]; have : 0 < 128 ^ k := Nat.pow_pos (by omega)
                                  omega)
  omega

theorem sz_two_less (k : Nat) (h : 1 ≤ k) : sz (2 ^ (7 * k) - 1) = k := by
  obtain ⟨j, rfl⟩ : ∃ j, k = j + 1 := ⟨k - 1, by omega⟩
  have e : (2 : Nat) ^ (7 * (j + 1)) = 128 ^ (j + 1) := by rw [Nat.pow_mul]
  rw [e]
  have p : 0 < 128 ^ j := Nat.pow_pos (by omega)
  have a := sz_lo j (128 ^ (j + 1) - 1) (by rw [Nat.pow_succ]; omega)
  have b := sz_up j (128 ^ (j + 1) - 1) (by have : 0 < 128 ^ (j + 1) := Nat.pow_pos (by omega)
                                            omega)
  omega

/-! What is read: the number and how many bytes it took; or 'false': less than has to be, 'true': not written shortly. -/
def stands (c k : Nat) : Bool := if k = 9 then c == 1 else (c != 0 || k == 0)

def dec (acc k : Nat) : List Nat → Except Bool (Nat × Nat)
  | [] => .error false
  | c :: r => if stands c k = true then (if c < 128 then .ok (acc + c * 128 ^ k, k + 1) else dec (acc + (c - 128) * 128 ^ k) (k + 1) r) else .error true

theorem dec_nil (acc k : Nat) : dec acc k [] = .error false := rfl
theorem dec_bad {acc k c : Nat} {r : List Nat} (h : stands c k = false) : dec acc k (c :: r) = .error true := by rw [dec, if_neg (by rw [h]; simp)]
theorem dec_end {acc k c : Nat} {r : List Nat} (h : stands c k = true) (hc : c < 128) : dec acc k (c :: r) = .ok (acc + c * 128 ^ k, k + 1) := by rw [dec, if_pos h, if_pos hc]
theorem dec_on {acc k c : Nat} {r : List Nat} (h : stands c k = true) (hc : ¬ c < 128) : dec acc k (c :: r) = dec (acc + (c - 128) * 128 ^ k) (k + 1) r := by rw [dec, if_pos h, if_neg hc]

theorem stands_on {c k : Nat} (h : 1 ≤ c) (hk : k ≤ 8) : stands c k = true := by
  unfold stands; rw [if_neg (by omega)]; simp; left; omega

theorem split_pow (n k : Nat) : n % 128 * 128 ^ k + n / 128 * 128 ^ (k + 1) = n * 128 ^ k := by
  have e : n / 128 * 128 ^ (k + 1) = (128 * (n / 128)) * 128 ^ k := by rw [Nat.pow_succ, Nat.mul_comm (128 ^ k) 128, ← Nat.mul_assoc, Nat.mul_comm (n / 128) 128]
  rw [e, ← Nat.add_mul]
  congr 1
  omega

theorem pow9 : (128 : Nat) ^ 9 = 9223372036854775808 := by decide

theorem dec_enc (n : Nat) : ∀ (acc k : Nat) (rest : List Nat), k + sz n ≤ 10 → n * 128 ^ k < 18446744073709551616 → (n ≠ 0 ∨ k = 0) → dec acc k (enc n ++ rest) = .ok (acc + n * 128 ^ k, k + sz n) := by
  induction n using Nat.strongRecOn with
  | _ n ih =>
    intro acc k rest h1 h2 h3
    by_cases c : n < 128
    · rw [sz_lt c] at h1 ⊢
      rw [enc_lt c]
      refine dec_end ?_ c
      unfold stands
      by_cases k9 : k = 9
      · subst k9
        rw [pow9] at h2
        rw [if_pos rfl]
        simp; omega
      · rw [if_neg k9]
        simp; omega
    · rw [sz_ge c] at h1 ⊢
      have p := sz_pos (n / 128)
      rw [enc_ge c, List.cons_append, dec_on (stands_on (by omega) (by omega)) (by omega), show n % 128 + 128 - 128 = n % 128 by omega]
      have sp := split_pow n k
      rw [ih (n / 128) (by omega) _ (k + 1) rest (by omega) (by omega) (by left; omega)]
      rw [Nat.add_assoc, sp, Nat.add_assoc k 1, Nat.add_comm 1]

theorem enc_ne (n : Nat) : enc n ≠ [] := by
  have := sz_pos n
  unfold sz at this
  intro h
  rw [h] at this
  simp at this

theorem dec_cut (n : Nat) : ∀ (acc k : Nat), k + sz n ≤ 10 → dec acc k (enc n).dropLast = .error false := by
  induction n using Nat.strongRecOn with
  | _ n ih =>
    intro acc k h1
    by_cases c : n < 128
    · rw [enc_lt c]; rfl
    · rw [sz_ge c] at h1
      have p := sz_pos (n / 128)
      rw [enc_ge c, List.dropLast_cons_of_ne_nil (enc_ne _), dec_on (stands_on (by omega) (by omega)) (by omega)]
      exact ih (n / 128) (by omega) _ (k + 1) (by omega)

theorem dec_nought (n : Nat) : ∀ (acc k : Nat) (rest : List Nat), k + sz n ≤ 10 → ∃ l, (enc n).getLast (enc_ne n) = l ∧ l < 128 ∧ dec acc k ((enc n).dropLast ++ (l + 128) :: 0 :: rest) = .error true := by
  induction n using Nat.strongRecOn with
  | _ n ih =>
    intro acc k rest h1
    by_cases c : n < 128
    · refine ⟨n, ?_, c, ?_⟩
      · have : enc n = [n] := enc_lt c
        simp [this]
      · rw [enc_lt c]
        show dec acc k ((n + 128) :: 0 :: rest) = .error true
        by_cases k9 : k = 9
        · refine dec_bad ?_
          unfold stands; rw [if_pos k9]; simp
        · rw [sz_lt c] at h1
          rw [dec_on (stands_on (by omega) (by omega)) (by omega)]
          refine dec_bad ?_
          unfold stands
          split <;> simp
    · rw [sz_ge c] at h1
      have p := sz_pos (n / 128)
      obtain ⟨l, e1, e2, e3⟩ := ih (n / 128) (by omega) (acc + (n % 128) * 128 ^ k) (k + 1) rest (by omega)
      refine ⟨l, ?_, e2, ?_⟩
      · have : enc n = (n % 128 + 128) :: enc (n / 128) := enc_ge c
        rw [← e1]
        simp only [this]
        exact List.getLast_cons (enc_ne _)
      · rw [enc_ge c, List.dropLast_cons_of_ne_nil (enc_ne _), List.cons_append, dec_on (stands_on (by omega) (by omega)) (by omega), show n % 128 + 128 - 128 = n % 128 by omega]
        exact e3

theorem dec_one : ∀ (bs : List Nat) (acc k x m : Nat), k ≤ 9 → (∀ c ∈ bs, c < 256) → dec acc k bs = .ok (x, m) →
    ∃ n, x = acc + n * 128 ^ k ∧ m = k + sz n ∧ bs.take (sz n) = enc n ∧ sz n ≤ bs.length ∧ (k ≠ 0 → n ≠ 0) ∧ n * 128 ^ k < 18446744073709551616 := by
  intro bs
  induction bs with
  | nil => intro acc k x m _ _ h; simp [dec] at h
  | cons c r ih =>
    intro acc k x m hk hb h
    have hc : c < 256 := hb c (by simp)
    by_cases s : stands c k = true
    · by_cases c1 : c < 128
      · rw [dec_end s c1] at h
        simp only [Except.ok.injEq, Prod.mk.injEq] at h
        refine ⟨c, h.1.symm, by rw [sz_lt c1]; exact h.2.symm, by rw [sz_lt c1, enc_lt c1]; simp, by rw [sz_lt c1]; simp, ?_, ?_⟩
        · intro k0 c0
          subst c0
          unfold stands at s
          split at s <;> simp at s
          exact k0 s
        · unfold stands at s
          by_cases k9 : k = 9
          · subst k9
            rw [if_pos rfl] at s
            simp at s
            subst s
            decide
          · have : 128 ^ k ≤ 128 ^ 8 := Nat.pow_le_pow_right (by omega) (by omega)
            have e8 : (128 : Nat) ^ 8 = 72057594037927936 := by decide
            have : c * 128 ^ k ≤ 127 * 128 ^ 8 := Nat.mul_le_mul (by omega) this
            omega
      · rw [dec_on s c1] at h
        have k8 : k ≤ 8 := by
          by_cases k9 : k = 9
          · unfold stands at s
            rw [if_pos k9] at s
            simp at s
            omega
          · omega
        obtain ⟨n', a1, a2, a3, a4, a5, a6⟩ := ih _ (k + 1) x m (by omega) (fun d hd => hb d (by simp [hd])) h
        have n0 : n' ≠ 0 := a5 (by omega)
        have d1 : (c - 128 + 128 * n') / 128 = n' := by omega
        have d2 : (c - 128 + 128 * n') % 128 = c - 128 := by omega
        have sp := split_pow (c - 128 + 128 * n') k
        rw [d1, d2] at sp
        have ge : ¬ (c - 128 + 128 * n') < 128 := by omega
        refine ⟨c - 128 + 128 * n', ?_, ?_, ?_, ?_, fun _ => by omega, ?_⟩
        · rw [a1, Nat.add_assoc, sp]
        · rw [a2, sz_ge ge, d1]; omega
        · rw [sz_ge ge, d1, enc_ge ge, d1, d2, List.take_succ_cons, a3]
          congr 1; omega
        · rw [sz_ge ge, d1]; simpa using a4
        · rw [← sp]
          have q : n' * 128 ^ (k + 1) % 128 ^ (k + 1) = 0 := Nat.mul_mod_left _ _
          have lt : (c - 128) * 128 ^ k < 128 ^ (k + 1) := by
            rw [Nat.pow_succ, Nat.mul_comm (128 ^ k)]
            exact (Nat.mul_lt_mul_right (Nat.pow_pos (by omega))).2 (by omega)
          -- the greater part is a multiple of 128^(k+1), and 2^64 is one too
          have hd : 128 ^ (k + 1) ∣ 18446744073709551616 := by
            have : (18446744073709551616 : Nat) = 128 ^ (k + 1) * (2 * 128 ^ (8 - k)) := by
              have e9 : (18446744073709551616 : Nat) = 2 * 128 ^ 9 := by decide
              have e10 : (128 : Nat) ^ 9 = 128 ^ (k + 1) * 128 ^ (8 - k) := by rw [← Nat.pow_add]; congr 1; omega
              rw [e9, e10, Nat.mul_left_comm]
            exact ⟨_, this⟩
          obtain ⟨t, ht⟩ := hd
          have : n' < t := by
            rw [ht, Nat.mul_comm n'] at a6
            exact Nat.lt_of_mul_lt_mul_left a6
          have : (n' + 1) * 128 ^ (k + 1) ≤ t * 128 ^ (k + 1) := Nat.mul_le_mul_right _ this
          rw [Nat.add_mul, Nat.one_mul] at this
          rw [ht, Nat.mul_comm (128 ^ (k + 1)) t]
          omega
    · rw [dec_bad (by simpa using s)] at h
      simp at h

theorem enc_lt256 (n : Nat) : ∀ c ∈ enc n, c < 256 := by
  induction n using Nat.strongRecOn with
  | _ n ih =>
    by_cases h : n < 128
    · rw [enc_lt h]; intro c hc; simp at hc; omega
    · rw [enc_ge h]
      intro c hc
      rcases List.mem_cons.1 hc with e | e
      · omega
      · exact ih (n / 128) (by omega) c e

end WP
end Go.Proofs.YtcnlkdoifogkbaaGreatDoor

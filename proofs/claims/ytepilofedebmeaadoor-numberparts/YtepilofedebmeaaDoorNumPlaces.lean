/-
  A number's digits, of so many at least; a number in its range: the statements' own helpers, walked.
-/
import Derived.Test.YtepilofedebmeaaDoorNumFirst
namespace Go.Proofs.YtepilofedebmeaaDoor
open Go.RowKit

theorem conv1 (c : UInt8) (x : Int) (hx : x = (c.toNat : Int)) (w : World) :
    (convert 54 9 (.slice (some ⟨w.heap.size, 0, none⟩) 1 1)).run Tryd.prog (w.alloc (.cells #[.int .u8 x] 5)) = .ok (.string ⟨#[c]⟩) (w.alloc (.cells #[.int .u8 x] 5)) := by
  subst hx
  refine run_convert_bytes_back (P := Tryd.prog) _ 54 9 5 ⟨w.heap.size, 0, none⟩ 1 [c] Tryd.underlying54 Tryd.underlying5 Tryd.underlying9 (fun j hj => ?_)
  rw [Addr.add_lit, Nat.zero_add, cell_new]
  have : j = 0 := by simpa using hj
  subst this
  rfl

/-- The digits told so far, l, and what is left, n. -/
def Pl (n0 B : Nat) (n : Nat) (l : List UInt8) : Prop := NP.Dig l ∧ l.length ≤ B ∧ n * 10 ^ l.length + NP.val 0 l = n0

theorem pl_step {n0 B n : Nat} {l : List UInt8} (h : Pl n0 B n l) (hB : l.length < B) : Pl n0 B (n / 10) (UInt8.ofNat (48 + n % 10) :: l) := by
  obtain ⟨h1, h2, h3⟩ := h
  refine ⟨?_, by rw [List.length_cons]; exact hB, ?_⟩
  · intro c hc
    rcases List.mem_cons.1 hc with rfl | hc
    · unfold WP.digit
      rw [NP.ofNat_dig _ (by omega)]
      simp; omega
    · exact h1 c hc
  · rw [NP.val_cons, NP.val_shift]
    unfold NP.dv
    rw [NP.ofNat_dig _ (by omega)]
    simp only [List.length_cons, Nat.pow_succ, Nat.zero_mul, Nat.zero_add]
    have e : 48 + n % 10 - 48 = n % 10 := by omega
    rw [e]
    have e2 : n = 10 * (n / 10) + n % 10 := by omega
    have e3 : n / 10 * (10 ^ l.length * 10) + (n % 10 * 10 ^ l.length + NP.val 0 l) = (10 * (n / 10) + n % 10) * 10 ^ l.length + NP.val 0 l := by
      rw [Nat.add_mul, Nat.mul_comm 10 (n / 10), Nat.mul_assoc, Nat.mul_comm 10 (10 ^ l.length)]
      omega
    rw [e3, ← e2]; exact h3

theorem pl_room {n0 B n : Nat} {l : List UInt8} (h : Pl n0 B n l) (h0 : n0 < 10 ^ B) (hn : 0 < n) : l.length < B := by
  obtain ⟨h1, h2, h3⟩ := h
  rcases Nat.lt_or_ge l.length B with h | h
  · exact h
  · have e : l.length = B := by omega
    rw [e] at h3
    have : 10 ^ B ≤ n * 10 ^ B := Nat.le_mul_of_pos_left _ hn
    omega

set_option maxRecDepth 20000 in
set_option maxHeartbeats 1000000 in
theorem places_any (n least B : Nat) (w : World) (hB : B ≤ 6) (hl : least ≤ B) (hn : n < 10 ^ B) :
    Calls Tryd.prog 16 #[.int .i64 n, .int .i64 least] w fun e w' => ∃ l : List UInt8, e = .returned (.string ⟨l.toArray⟩) ∧ Hid (NP.Dig l ∧ least ≤ l.length ∧ l.length ≤ B ∧ NP.val 0 l = n) ∧ Below w.heap.size w w' := by
  have hnb : n < 1000000 := by
    have : 10 ^ B ≤ 10 ^ 6 := Nat.pow_le_pow_right (by omega) hB
    omega
  have HN := Lib.hid hn
  clear hn
  go_enter Tryd.func16, Tryd.ntmps16
  go_wp2
  go_loopw [0, 1, 5] (fun a b s wr => ∃ (x k : Nat) (S : ByteArray), a = .int .i64 x ∧ b = .int .i64 ((least : Int) - k) ∧ s = .string S ∧ x ≤ n ∧ k ≤ B ∧ S.size = k ∧ Hid (∃ l : List UInt8, S = ⟨l.toArray⟩ ∧ l.length = k ∧ Pl n B x l) ∧ Hid (Below w.heap.size w wr)) (fun a b _ _ => (intOf a).toNat + (intOf b).toNat)
  case atStart => exact ⟨n, 0, ⟨#[]⟩, rfl, by simp, rfl, Nat.le_refl _, Nat.zero_le _, rfl, ⟨[], rfl, rfl, fun c h => absurd h (by simp), Nat.zero_le _, by simp [NP.val_nil]⟩, Below.refl _ _⟩
  case round =>
    obtain ⟨x, k, S, rfl, rfl, rfl, hx, hk, hS, HL, HB⟩ := hrel
    by_cases hgo : 0 < x ∨ k < least
    · have hkB : k < B := by
        obtain ⟨l, -, e2, e3⟩ := HL.out
        rcases hgo with h | h
        · rw [← e2]; exact pl_room e3 HN.out h
        · omega
      obtain ⟨d, hd⟩ : ∃ d, x % 10 = d := ⟨_, rfl⟩
      obtain ⟨q, hq⟩ : ∃ q, x / 10 = q := ⟨_, rfl⟩
      have hd9 : d ≤ 9 := by omega
      have hdi : (x : Int) % 10 = (d : Int) := by omega
      have hqi : (x : Int) / 10 = (q : Int) := by omega
      have HS : Hid (∃ l : List UInt8, ⟨#[UInt8.ofNat (48 + d)]⟩ ++ S = ⟨l.toArray⟩ ∧ l.length = k + 1 ∧ Pl n B q l) := by
        obtain ⟨l, e1, e2, e3⟩ := HL.out
        refine ⟨UInt8.ofNat (48 + d) :: l, ?_, by simp [e2], ?_⟩
        · rw [e1]; apply ByteArray.ext; simp
        · rw [← hd, ← hq]; exact pl_step e3 (by omega)
      have hcv := conv1 (UInt8.ofNat (48 + d)) (48 + (d : Int)) (by rw [NP.ofNat_dig d (by omega)]; push_cast; rfl) wr
      have hq1 : q ≤ n := by omega
      have hm : q + (least - (k + 1)) < x + (least - k) := by omega
      have HD := Lib.hid hd
      have HQ := Lib.hid hq
      clear hd hq HL
      have hsz : (⟨#[UInt8.ofNat (48 + d)]⟩ : ByteArray).size = 1 := rfl
      obtain ⟨C, hC⟩ : ∃ C : ByteArray, (⟨#[UInt8.ofNat (48 + d)]⟩ : ByteArray) = C := ⟨_, rfl⟩
      rw [hC] at hcv HS hsz
      clear hC
      by_cases h0 : 0 < x
      · go_wp2
        exact ⟨⟨q, k + 1, C ++ S, rfl, by congr 1; omega, rfl, hq1, hkB, by rw [ByteArray.size_append, hsz, hS]; omega, HS, HB.out.alloc HB.out.size _⟩, by simp only [intOf]; omega⟩
      · have h1 : k < least := by omega
        go_wp2
        exact ⟨⟨q, k + 1, C ++ S, rfl, by congr 1; omega, rfl, hq1, hkB, by rw [ByteArray.size_append, hsz, hS]; omega, HS, HB.out.alloc HB.out.size _⟩, by simp only [intOf]; omega⟩
    · have h1 : ¬ (0 < (x : Int)) := by omega
      have h2 : ¬ (0 < (least : Int) - (k : Int)) := by omega
      go_wp2
      go_ret
      obtain ⟨l, e1, e2, e3⟩ := HL.out
      have hx0 : x = 0 := by omega
      refine ⟨l, by rw [e1]; rfl, ⟨e3.1, by omega, by omega, ?_⟩, HB.out⟩
      have := e3.2.2
      rw [hx0, Nat.zero_mul, Nat.zero_add] at this
      exact this

theorem number_any (n b : Int) (w : World) (hb : 0 < b) (hb' : b ≤ 1000000000) (T : Int) (hT : n.tmod b = T) :
    Calls Tryd.prog 15 #[.int .i64 n, .int .i64 b] w fun e w' => e = .returned (.int .i64 (if T < 0 then T + b else T)) ∧ w' = w := by
  have hr := rem_bound n b hb
  rw [hT] at hr
  have h0 : (b == 0) = false := by simp; omega
  by_cases h : T < 0
  · rw [if_pos h]
    go_enter Tryd.func15, Tryd.ntmps15
    go_wp2
    go_ret
    exact ⟨rfl, rfl⟩
  · rw [if_neg h]
    go_enter Tryd.func15, Tryd.ntmps15
    go_wp2
    go_ret
    exact ⟨rfl, rfl⟩

end Go.Proofs.YtepilofedebmeaaDoor

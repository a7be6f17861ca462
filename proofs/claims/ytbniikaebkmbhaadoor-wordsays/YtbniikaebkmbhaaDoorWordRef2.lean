/-
  The document's numbers: how far one goes: walked over the document's text.
-/
import Derived.Test.YtbniikaebkmbhaaDoorWordRef1
namespace Go.Proofs.YtbniikaebkmbhaaDoor
open Go.RowKit

namespace WP
def minus (l : List UInt8) : Nat := if Lib.hasPrefix l [45] then 1 else 0
/-- Where a number's signs end; 0: none. -/
def numEnd (l : List UInt8) : Nat :=
  if digits (l.drop (minus l)) = 0 then 0
  else if Lib.hasPrefix (l.drop (minus l + digits (l.drop (minus l)))) [46] then
    (if digits (l.drop (minus l + digits (l.drop (minus l)) + 1)) = 0 then 0 else minus l + digits (l.drop (minus l)) + 1 + digits (l.drop (minus l + digits (l.drop (minus l)) + 1)))
  else minus l + digits (l.drop (minus l))

theorem trim_minus (l : List UInt8) : Lib.trimPrefix l [45] = l.drop (minus l) := by
  unfold Lib.trimPrefix minus
  split <;> rfl

theorem numSize_end (l : List UInt8) : numSize l = if numEnd l = 0 ∨ glued (l.drop (numEnd l)) = true then 0 else numEnd l := by
  have h1 := digits_le (l.drop (minus l))
  have h2 := digits_le (l.drop (minus l + digits (l.drop (minus l)) + 1))
  rw [List.length_drop] at h1 h2
  have hm : minus l ≤ l.length := by
    unfold minus
    split
    · rename_i h
      cases l with
      | nil => simp [Lib.hasPrefix] at h
      | cons c t => simp
    · exact Nat.zero_le _
  unfold numSize numRest
  simp only [trim_minus, List.drop_drop]
  by_cases g1 : digits (l.drop (minus l)) = 0
  · have : numEnd l = 0 := by unfold numEnd; rw [if_pos g1]
    simp [g1, this]
  · by_cases g2 : Lib.hasPrefix (l.drop (minus l + digits (l.drop (minus l)))) [46] = true
    · have e1 : Lib.trimPrefix (l.drop (minus l + digits (l.drop (minus l)))) [46] = l.drop (minus l + digits (l.drop (minus l)) + 1) := by
        unfold Lib.trimPrefix
        rw [if_pos g2, List.drop_drop]
        rfl
      have hlt : minus l + digits (l.drop (minus l)) + 1 ≤ l.length := by
        rcases Nat.lt_or_ge (minus l + digits (l.drop (minus l))) l.length with h | h
        · omega
        · rw [List.drop_of_length_le h] at g2; simp [Lib.hasPrefix] at g2
      by_cases g3 : digits (l.drop (minus l + digits (l.drop (minus l)) + 1)) = 0
      · have : numEnd l = 0 := by unfold numEnd; rw [if_neg g1, if_pos g2, if_pos g3]
        simp [g1, g2, g3, e1, this]
      · have e2 : numEnd l = minus l + digits (l.drop (minus l)) + 1 + digits (l.drop (minus l + digits (l.drop (minus l)) + 1)) := by unfold numEnd; rw [if_neg g1, if_pos g2, if_neg g3]
        have e3 : ¬ numEnd l = 0 := by omega
        simp only [g1, g2, g3, e1, List.drop_drop, if_false, if_true]
        rw [← e2]
        by_cases g4 : glued (l.drop (numEnd l)) = true
        · simp [g4]
        · simp [g4, e3]; omega
    · have e2 : numEnd l = minus l + digits (l.drop (minus l)) := by unfold numEnd; rw [if_neg g1, if_neg g2]
      have e3 : ¬ numEnd l = 0 := by omega
      simp only [g1, g2, if_false]
      rw [← e2]
      by_cases g4 : glued (l.drop (numEnd l)) = true
      · simp [g4]
      · simp [g4, e3]; omega

theorem numEnd_le (l : List UInt8) (h : l ≠ []) : numEnd l ≤ l.length := by
  have := numSize_le l
  have h1 := digits_le (l.drop (minus l))
  have h2 := digits_le (l.drop (minus l + digits (l.drop (minus l)) + 1))
  rw [List.length_drop] at h1 h2
  have h0 : 0 < l.length := List.length_pos_iff.2 h
  have hm : minus l ≤ 1 := by unfold minus; split <;> omega
  unfold numEnd
  split
  · omega
  · split
    · rename_i g
      have hlt : minus l + digits (l.drop (minus l)) + 1 ≤ l.length := by
        rcases Nat.lt_or_ge (minus l + digits (l.drop (minus l))) l.length with h | h
        · omega
        · rw [List.drop_of_length_le h] at g; simp [Lib.hasPrefix] at g
      split <;> omega
    · omega

theorem count_more (p : UInt8 → Bool) (l : List UInt8) (m : Nat) (c : UInt8) (t : List UInt8) (h : l.drop m = c :: t) (hp : p c = true) : count p (l.drop m) = count p (l.drop (m + 1)) + 1 := by
  have : l.drop (m + 1) = t := by rw [← List.drop_drop, h]; rfl
  rw [h, this]
  simp [count, hp]
end WP

set_option maxRecDepth 20000 in
set_option maxHeartbeats 4000000 in
theorem numeral_1 (s : ByteArray) (p q N1 E : Nat) (c0 : UInt8) (w : World) (hp : p < s.size) (hs : s.size ≤ 1000000) (hc : ∀ h, s[p]'h = c0) (d45 : ((c0.toNat : Int) == 45) = true) (hq : p + 1 = q) (hN : WP.count WP.digit (s.data.toList.drop q) = N1)
    (hE : E = if N1 < 1 ∨ 6 < N1 then 0 else if Lib.hasPrefix (s.data.toList.drop (q + N1)) [46] then (if WP.count WP.digit (s.data.toList.drop (q + N1 + 1)) < 1 ∨ 6 < WP.count WP.digit (s.data.toList.drop (q + N1 + 1)) then 0 else 1 + N1 + 1 + WP.count WP.digit (s.data.toList.drop (q + N1 + 1))) else 1 + N1) :
    Calls Tryd.prog 46 #[.string s, .int .i64 p] w fun e w' => e = .returned (.int .i64 ((p + E : Nat) : Int)) ∧ w' = w := by
  have kd := hid'' (fun c W => rdigit_any c W)
  have HN := hid'' hN
  have HE := hid'' hE
  have HQ0 := hid'' hq
  have hq1 : q ≤ s.size := by omega
  have hqi : (q : Int) = (p : Int) + 1 := by omega
  clear hN hE hq
  go_enter Tryd.func46, Tryd.ntmps46
  go_wp2
  go_loop [5, 6] (fun i n => ∃ m : Nat, i = .int .i64 ((q + m : Nat) : Int) ∧ n = .int .i64 (m : Int) ∧ q + m ≤ s.size ∧ Hid (N1 = m + WP.count WP.digit (s.data.toList.drop (q + m)))) (fun i _ => s.size - (intOf i).toNat)
  case atStart => exact ⟨0, congrArg (Value.int .i64) (by omega), rfl, by omega, by rw [Nat.add_zero, Nat.zero_add]; exact HN.out.symm⟩
  case round =>
    obtain ⟨m, rfl, rfl, hm, HM0⟩ := hrel
    obtain ⟨kk, hkk⟩ : ∃ kk, q + m = kk := ⟨_, rfl⟩
    rw [hkk] at hm HM0 ⊢
    have HK := hid'' hkk
    cases hl : s.data.toList.drop kk with
    | nil =>
      have h0 := drop_nil s kk hl
      have hks : kk = s.size := by omega
      have hks2 : ¬ ((kk : Int) < (s.size : Int)) := by omega
      have HM : Hid (N1 = m) := by show _ = _; rw [HM0.out, hl]; rfl
      have HL := hid'' hl
      clear hl h0 HM0
      by_cases hbad : m < 1 ∨ 6 < m
      · have HX : Hid (E = 0) := by show _ = _; rw [HE.out, HM.out, if_pos hbad]
        rcases hbad with hb | hb
        · have hb1 : (m : Int) < 1 := by omega
          clear hb
          go_wp2
          go_ret
          exact ⟨ret_int (by have := HX.out; omega), rfl⟩
        · have hb1 : ¬ ((m : Int) < 1) := by omega
          have hb2 : (6 : Int) < (m : Int) := by omega
          clear hb
          go_wp2
          go_ret
          exact ⟨ret_int (by have := HX.out; omega), rfl⟩
      · have HX : Hid (p + E = kk) := by show _ = _; rw [HE.out, HM.out, if_neg hbad, HK.out, HL.out]; simp [Lib.hasPrefix, List.isPrefixOf]; have := HQ0.out; omega
        have hb1 : ¬ ((m : Int) < 1) := by omega
        have hb2 : ¬ ((6 : Int) < (m : Int)) := by omega
        have hke : ((kk : Int) == (s.size : Int)) = true := by simp; omega
        clear hbad
        go_wp2
        go_ret
        exact ⟨ret_int (by have := HX.out; omega), rfl⟩
    | cons c t =>
      obtain ⟨hlt, hcc, htl⟩ := at_drop s kk c t hl
      have hks : (kk : Int) < (s.size : Int) := by omega
      have hke : ((kk : Int) == (s.size : Int)) = false := by simp; omega
      have kt := hid'' (fun W => kd.out c W)
      obtain ⟨B, hB⟩ : ∃ B, WP.digit c = B := ⟨_, rfl⟩
      rw [hB] at kt
      cases B with
      | true =>
        have HM : Hid (N1 = m + 1 + WP.count WP.digit (s.data.toList.drop (kk + 1))) := by show _ = _; rw [HM0.out, WP.count_more WP.digit _ kk c t hl hB]; omega
        clear hl hB HM0 htl
        go_wp2_with (go_at_call 45; refine (kt.out _).mono ?_; rintro e w1 ⟨rfl, rfl⟩)
        go_round
        case rel => exact ⟨m + 1, by rw [← HK.out]; go_num, by go_num, by omega, by rw [← Nat.add_assoc, HK.out]; exact HM⟩
        case measure => simp [intOf]; omega
      | false =>
        have HM : Hid (N1 = m) := by show _ = _; rw [HM0.out, hl]; simp [WP.count, hB]
        have HL := hid'' hl
        clear hl hB HM0 htl
        by_cases hbad : m < 1 ∨ 6 < m
        · have HX : Hid (E = 0) := by show _ = _; rw [HE.out, HM.out, if_pos hbad]
          rcases hbad with hb | hb
          · have hb1 : (m : Int) < 1 := by omega
            clear hb
            go_wp2_with (go_at_call 45; refine (kt.out _).mono ?_; rintro e w1 ⟨rfl, rfl⟩)
            go_ret
            exact ⟨ret_int (by have := HX.out; omega), rfl⟩
          · have hb1 : ¬ ((m : Int) < 1) := by omega
            have hb2 : (6 : Int) < (m : Int) := by omega
            clear hb
            go_wp2_with (go_at_call 45; refine (kt.out _).mono ?_; rintro e w1 ⟨rfl, rfl⟩)
            go_ret
            exact ⟨ret_int (by have := HX.out; omega), rfl⟩
        · have hb1 : ¬ ((m : Int) < 1) := by omega
          have hb2 : ¬ ((6 : Int) < (m : Int)) := by omega
          by_cases h46 : c.toNat = 46
          · have hc46 : c = 46 := UInt8.toNat_inj.1 h46
            have e46 : ((c.toNat : Int) == 46) = true := by rw [h46]; rfl
            obtain ⟨q2, hq2⟩ : ∃ q2, kk + 1 = q2 := ⟨_, rfl⟩
            obtain ⟨N2, hN2⟩ : ∃ N2, WP.count WP.digit (s.data.toList.drop q2) = N2 := ⟨_, rfl⟩
            have HN2 := hid'' hN2
            have HE2 : Hid (E = if N2 < 1 ∨ 6 < N2 then 0 else 1 + m + 1 + N2) := by
              show _ = _
              rw [HE.out, HM.out, if_neg hbad, HK.out, HL.out, hq2, hN2, hc46, if_pos (by simp [Lib.hasPrefix, List.isPrefixOf])]
            have HQ : Hid (p + (1 + m + 1) = q2) := by show _ = _; have := HQ0.out; omega
            have hq2i : (q2 : Int) = (kk : Int) + 1 := by omega
            have hq2s : q2 ≤ s.size := by omega
            clear hbad hN2 h46 HL HE HM e46
            subst hc46
            go_wp2_with (go_at_call 45; refine (kt.out _).mono ?_; rintro e w1 ⟨rfl, rfl⟩)
            go_loop [5, 6] (fun i n => ∃ mm : Nat, i = .int .i64 ((q2 + mm : Nat) : Int) ∧ n = .int .i64 (mm : Int) ∧ q2 + mm ≤ s.size ∧ Hid (N2 = mm + WP.count WP.digit (s.data.toList.drop (q2 + mm)))) (fun i _ => s.size - (intOf i).toNat)
            case atStart => exact ⟨0, by go_num, rfl, by omega, by rw [Nat.add_zero, Nat.zero_add]; exact HN2.out.symm⟩
            case round =>
              obtain ⟨mm, rfl, rfl, hm, HM0⟩ := hrel
              obtain ⟨kk, hkk⟩ : ∃ kk, q2 + mm = kk := ⟨_, rfl⟩
              rw [hkk] at hm HM0 ⊢
              have HK2 := hid'' hkk
              cases hl2 : s.data.toList.drop kk with
              | nil =>
                have h0 := drop_nil s kk hl2
                have hks : ¬ ((kk : Int) < (s.size : Int)) := by omega
                have HM : Hid (N2 = mm) := by show _ = _; rw [HM0.out, hl2]; rfl
                have hkq : (kk : Int) = (q2 : Int) + (mm : Int) := by omega
                clear hl2 h0 HM0
                by_cases hbad : mm < 1 ∨ 6 < mm
                · have HX : Hid (E = 0) := by show _ = _; rw [HE2.out, HM.out]; rcases hbad with h | h; rw [if_pos (by omega)]; rw [if_pos (.inr h)]
                  rcases hbad with hb | hb
                  · have hb1 : (mm : Int) < 1 := by omega
                    clear hb
                    go_wp2
                    go_ret
                    exact ⟨ret_int (by have := HX.out; omega), rfl⟩
                  · have hb1 : ¬ ((mm : Int) < 1) := by omega
                    have hb2 : (6 : Int) < (mm : Int) := by omega
                    clear hb
                    go_wp2
                    go_ret
                    exact ⟨ret_int (by have := HX.out; omega), rfl⟩
                · have HX : Hid (E = 1 + m + 1 + mm) := by show _ = _; rw [HE2.out, HM.out, if_neg (by omega)]
                  have hb1 : ¬ ((mm : Int) < 1) := by omega
                  have hb2 : ¬ ((6 : Int) < (mm : Int)) := by omega
                  clear hbad
                  go_wp2
                  go_ret
                  exact ⟨ret_int (by have := HX.out; have := HQ.out; omega), rfl⟩
              | cons c2 t2 =>
                obtain ⟨hlt2, hc2, -⟩ := at_drop s kk c2 t2 hl2
                have hks : (kk : Int) < (s.size : Int) := by omega
                have kt := hid'' (fun W => kd.out c2 W)
                obtain ⟨B2, hB2⟩ : ∃ B, WP.digit c2 = B := ⟨_, rfl⟩
                rw [hB2] at kt
                cases B2 with
                | true =>
                  have HM : Hid (N2 = mm + 1 + WP.count WP.digit (s.data.toList.drop (kk + 1))) := by show _ = _; rw [HM0.out, WP.count_more WP.digit _ kk c2 t2 hl2 hB2]; omega
                  clear hl2 hB2 HM0
                  go_wp2_with (go_at_call 45; refine (kt.out _).mono ?_; rintro e w1 ⟨rfl, rfl⟩)
                  go_round
                  case rel => exact ⟨mm + 1, by rw [← HK2.out]; go_num, by go_num, by omega, by rw [← Nat.add_assoc, HK2.out]; exact HM⟩
                  case measure => simp [intOf]; omega
                | false =>
                  have HM : Hid (N2 = mm) := by show _ = _; rw [HM0.out, hl2]; simp [WP.count, hB2]
                  have hkq : (kk : Int) = (q2 : Int) + (mm : Int) := by omega
                  clear hl2 hB2 HM0
                  by_cases hbad : mm < 1 ∨ 6 < mm
                  · have HX : Hid (E = 0) := by show _ = _; rw [HE2.out, HM.out]; rcases hbad with h | h; rw [if_pos (by omega)]; rw [if_pos (.inr h)]
                    rcases hbad with hb | hb
                    · have hb1 : (mm : Int) < 1 := by omega
                      clear hb
                      go_wp2_with (go_at_call 45; refine (kt.out _).mono ?_; rintro e w1 ⟨rfl, rfl⟩)
                      go_ret
                      exact ⟨ret_int (by have := HX.out; omega), rfl⟩
                    · have hb1 : ¬ ((mm : Int) < 1) := by omega
                      have hb2 : (6 : Int) < (mm : Int) := by omega
                      clear hb
                      go_wp2_with (go_at_call 45; refine (kt.out _).mono ?_; rintro e w1 ⟨rfl, rfl⟩)
                      go_ret
                      exact ⟨ret_int (by have := HX.out; omega), rfl⟩
                  · have HX : Hid (E = 1 + m + 1 + mm) := by show _ = _; rw [HE2.out, HM.out, if_neg (by omega)]
                    have hb1 : ¬ ((mm : Int) < 1) := by omega
                    have hb2 : ¬ ((6 : Int) < (mm : Int)) := by omega
                    clear hbad
                    go_wp2_with (go_at_call 45; refine (kt.out _).mono ?_; rintro e w1 ⟨rfl, rfl⟩)
                    go_ret
                    exact ⟨ret_int (by have := HX.out; have := HQ.out; omega), rfl⟩
          · have e46 : ((c.toNat : Int) == 46) = false := by simp; omega
            have f46 : ¬ ((c.toNat : Int) = 46) := by omega
            have HX : Hid (p + E = kk) := by
              show _ = _
              rw [HE.out, HM.out, if_neg hbad, HK.out, HL.out]
              have : ((46 : UInt8) == c) = false := by simp; intro e; exact h46 (by rw [← e]; rfl)
              simp only [Lib.hasPrefix, List.isPrefixOf, this, Bool.false_and, Bool.false_eq_true, if_false]
              have := HQ0.out
              omega
            clear hbad h46
            go_wp2_with (go_at_call 45; refine (kt.out _).mono ?_; rintro e w1 ⟨rfl, rfl⟩)
            go_ret
            exact ⟨ret_int (by have := HX.out; omega), rfl⟩
  

set_option maxRecDepth 20000 in
set_option maxHeartbeats 4000000 in
theorem numeral_0 (s : ByteArray) (p q N1 E : Nat) (c0 : UInt8) (w : World) (hp : p < s.size) (hs : s.size ≤ 1000000) (hc : ∀ h, s[p]'h = c0) (d45 : ((c0.toNat : Int) == 45) = false) (hq : p + 0 = q) (hN : WP.count WP.digit (s.data.toList.drop q) = N1)
    (hE : E = if N1 < 1 ∨ 6 < N1 then 0 else if Lib.hasPrefix (s.data.toList.drop (q + N1)) [46] then (if WP.count WP.digit (s.data.toList.drop (q + N1 + 1)) < 1 ∨ 6 < WP.count WP.digit (s.data.toList.drop (q + N1 + 1)) then 0 else 0 + N1 + 1 + WP.count WP.digit (s.data.toList.drop (q + N1 + 1))) else 0 + N1) :
    Calls Tryd.prog 46 #[.string s, .int .i64 p] w fun e w' => e = .returned (.int .i64 ((p + E : Nat) : Int)) ∧ w' = w := by
  have kd := hid'' (fun c W => rdigit_any c W)
  have HN := hid'' hN
  have HE := hid'' hE
  have HQ0 := hid'' hq
  have hq1 : q ≤ s.size := by omega
  have hqi : (q : Int) = (p : Int) + 0 := by omega
  clear hN hE hq
  go_enter Tryd.func46, Tryd.ntmps46
  go_wp2
  go_loop [5, 6] (fun i n => ∃ m : Nat, i = .int .i64 ((q + m : Nat) : Int) ∧ n = .int .i64 (m : Int) ∧ q + m ≤ s.size ∧ Hid (N1 = m + WP.count WP.digit (s.data.toList.drop (q + m)))) (fun i _ => s.size - (intOf i).toNat)
  case atStart => exact ⟨0, congrArg (Value.int .i64) (by omega), rfl, by omega, by rw [Nat.add_zero, Nat.zero_add]; exact HN.out.symm⟩
  case round =>
    obtain ⟨m, rfl, rfl, hm, HM0⟩ := hrel
    obtain ⟨kk, hkk⟩ : ∃ kk, q + m = kk := ⟨_, rfl⟩
    rw [hkk] at hm HM0 ⊢
    have HK := hid'' hkk
    cases hl : s.data.toList.drop kk with
    | nil =>
      have h0 := drop_nil s kk hl
      have hks : kk = s.size := by omega
      have hks2 : ¬ ((kk : Int) < (s.size : Int)) := by omega
      have HM : Hid (N1 = m) := by show _ = _; rw [HM0.out, hl]; rfl
      have HL := hid'' hl
      clear hl h0 HM0
      by_cases hbad : m < 1 ∨ 6 < m
      · have HX : Hid (E = 0) := by show _ = _; rw [HE.out, HM.out, if_pos hbad]
        rcases hbad with hb | hb
        · have hb1 : (m : Int) < 1 := by omega
          clear hb
          go_wp2
          go_ret
          exact ⟨ret_int (by have := HX.out; omega), rfl⟩
        · have hb1 : ¬ ((m : Int) < 1) := by omega
          have hb2 : (6 : Int) < (m : Int) := by omega
          clear hb
          go_wp2
          go_ret
          exact ⟨ret_int (by have := HX.out; omega), rfl⟩
      · have HX : Hid (p + E = kk) := by show _ = _; rw [HE.out, HM.out, if_neg hbad, HK.out, HL.out]; simp [Lib.hasPrefix, List.isPrefixOf]; have := HQ0.out; omega
        have hb1 : ¬ ((m : Int) < 1) := by omega
        have hb2 : ¬ ((6 : Int) < (m : Int)) := by omega
        have hke : ((kk : Int) == (s.size : Int)) = true := by simp; omega
        clear hbad
        go_wp2
        go_ret
        exact ⟨ret_int (by have := HX.out; omega), rfl⟩
    | cons c t =>
      obtain ⟨hlt, hcc, htl⟩ := at_drop s kk c t hl
      have hks : (kk : Int) < (s.size : Int) := by omega
      have hke : ((kk : Int) == (s.size : Int)) = false := by simp; omega
      have kt := hid'' (fun W => kd.out c W)
      obtain ⟨B, hB⟩ : ∃ B, WP.digit c = B := ⟨_, rfl⟩
      rw [hB] at kt
      cases B with
      | true =>
        have HM : Hid (N1 = m + 1 + WP.count WP.digit (s.data.toList.drop (kk + 1))) := by show _ = _; rw [HM0.out, WP.count_more WP.digit _ kk c t hl hB]; omega
        clear hl hB HM0 htl
        go_wp2_with (go_at_call 45; refine (kt.out _).mono ?_; rintro e w1 ⟨rfl, rfl⟩)
        go_round
        case rel => exact ⟨m + 1, by rw [← HK.out]; go_num, by go_num, by omega, by rw [← Nat.add_assoc, HK.out]; exact HM⟩
        case measure => simp [intOf]; omega
      | false =>
        have HM : Hid (N1 = m) := by show _ = _; rw [HM0.out, hl]; simp [WP.count, hB]
        have HL := hid'' hl
        clear hl hB HM0 htl
        by_cases hbad : m < 1 ∨ 6 < m
        · have HX : Hid (E = 0) := by show _ = _; rw [HE.out, HM.out, if_pos hbad]
          rcases hbad with hb | hb
          · have hb1 : (m : Int) < 1 := by omega
            clear hb
            go_wp2_with (go_at_call 45; refine (kt.out _).mono ?_; rintro e w1 ⟨rfl, rfl⟩)
            go_ret
            exact ⟨ret_int (by have := HX.out; omega), rfl⟩
          · have hb1 : ¬ ((m : Int) < 1) := by omega
            have hb2 : (6 : Int) < (m : Int) := by omega
            clear hb
            go_wp2_with (go_at_call 45; refine (kt.out _).mono ?_; rintro e w1 ⟨rfl, rfl⟩)
            go_ret
            exact ⟨ret_int (by have := HX.out; omega), rfl⟩
        · have hb1 : ¬ ((m : Int) < 1) := by omega
          have hb2 : ¬ ((6 : Int) < (m : Int)) := by omega
          by_cases h46 : c.toNat = 46
          · have hc46 : c = 46 := UInt8.toNat_inj.1 h46
            have e46 : ((c.toNat : Int) == 46) = true := by rw [h46]; rfl
            obtain ⟨q2, hq2⟩ : ∃ q2, kk + 1 = q2 := ⟨_, rfl⟩
            obtain ⟨N2, hN2⟩ : ∃ N2, WP.count WP.digit (s.data.toList.drop q2) = N2 := ⟨_, rfl⟩
            have HN2 := hid'' hN2
            have HE2 : Hid (E = if N2 < 1 ∨ 6 < N2 then 0 else 0 + m + 1 + N2) := by
              show _ = _
              rw [HE.out, HM.out, if_neg hbad, HK.out, HL.out, hq2, hN2, hc46, if_pos (by simp [Lib.hasPrefix, List.isPrefixOf])]
            have HQ : Hid (p + (0 + m + 1) = q2) := by show _ = _; have := HQ0.out; omega
            have hq2i : (q2 : Int) = (kk : Int) + 1 := by omega
            have hq2s : q2 ≤ s.size := by omega
            clear hbad hN2 h46 HL HE HM e46
            subst hc46
            go_wp2_with (go_at_call 45; refine (kt.out _).mono ?_; rintro e w1 ⟨rfl, rfl⟩)
            go_loop [5, 6] (fun i n => ∃ mm : Nat, i = .int .i64 ((q2 + mm : Nat) : Int) ∧ n = .int .i64 (mm : Int) ∧ q2 + mm ≤ s.size ∧ Hid (N2 = mm + WP.count WP.digit (s.data.toList.drop (q2 + mm)))) (fun i _ => s.size - (intOf i).toNat)
            case atStart => exact ⟨0, by go_num, rfl, by omega, by rw [Nat.add_zero, Nat.zero_add]; exact HN2.out.symm⟩
            case round =>
              obtain ⟨mm, rfl, rfl, hm, HM0⟩ := hrel
              obtain ⟨kk, hkk⟩ : ∃ kk, q2 + mm = kk := ⟨_, rfl⟩
              rw [hkk] at hm HM0 ⊢
              have HK2 := hid'' hkk
              cases hl2 : s.data.toList.drop kk with
              | nil =>
                have h0 := drop_nil s kk hl2
                have hks : ¬ ((kk : Int) < (s.size : Int)) := by omega
                have HM : Hid (N2 = mm) := by show _ = _; rw [HM0.out, hl2]; rfl
                have hkq : (kk : Int) = (q2 : Int) + (mm : Int) := by omega
                clear hl2 h0 HM0
                by_cases hbad : mm < 1 ∨ 6 < mm
                · have HX : Hid (E = 0) := by show _ = _; rw [HE2.out, HM.out]; rcases hbad with h | h; rw [if_pos (by omega)]; rw [if_pos (.inr h)]
                  rcases hbad with hb | hb
                  · have hb1 : (mm : Int) < 1 := by omega
                    clear hb
                    go_wp2
                    go_ret
                    exact ⟨ret_int (by have := HX.out; omega), rfl⟩
                  · have hb1 : ¬ ((mm : Int) < 1) := by omega
                    have hb2 : (6 : Int) < (mm : Int) := by omega
                    clear hb
                    go_wp2
                    go_ret
                    exact ⟨ret_int (by have := HX.out; omega), rfl⟩
                · have HX : Hid (E = 0 + m + 1 + mm) := by show _ = _; rw [HE2.out, HM.out, if_neg (by omega)]
                  have hb1 : ¬ ((mm : Int) < 1) := by omega
                  have hb2 : ¬ ((6 : Int) < (mm : Int)) := by omega
                  clear hbad
                  go_wp2
                  go_ret
                  exact ⟨ret_int (by have := HX.out; have := HQ.out; omega), rfl⟩
              | cons c2 t2 =>
                obtain ⟨hlt2, hc2, -⟩ := at_drop s kk c2 t2 hl2
                have hks : (kk : Int) < (s.size : Int) := by omega
                have kt := hid'' (fun W => kd.out c2 W)
                obtain ⟨B2, hB2⟩ : ∃ B, WP.digit c2 = B := ⟨_, rfl⟩
                rw [hB2] at kt
                cases B2 with
                | true =>
                  have HM : Hid (N2 = mm + 1 + WP.count WP.digit (s.data.toList.drop (kk + 1))) := by show _ = _; rw [HM0.out, WP.count_more WP.digit _ kk c2 t2 hl2 hB2]; omega
                  clear hl2 hB2 HM0
                  go_wp2_with (go_at_call 45; refine (kt.out _).mono ?_; rintro e w1 ⟨rfl, rfl⟩)
                  go_round
                  case rel => exact ⟨mm + 1, by rw [← HK2.out]; go_num, by go_num, by omega, by rw [← Nat.add_assoc, HK2.out]; exact HM⟩
                  case measure => simp [intOf]; omega
                | false =>
                  have HM : Hid (N2 = mm) := by show _ = _; rw [HM0.out, hl2]; simp [WP.count, hB2]
                  have hkq : (kk : Int) = (q2 : Int) + (mm : Int) := by omega
                  clear hl2 hB2 HM0
                  by_cases hbad : mm < 1 ∨ 6 < mm
                  · have HX : Hid (E = 0) := by show _ = _; rw [HE2.out, HM.out]; rcases hbad with h | h; rw [if_pos (by omega)]; rw [if_pos (.inr h)]
                    rcases hbad with hb | hb
                    · have hb1 : (mm : Int) < 1 := by omega
                      clear hb
                      go_wp2_with (go_at_call 45; refine (kt.out _).mono ?_; rintro e w1 ⟨rfl, rfl⟩)
                      go_ret
                      exact ⟨ret_int (by have := HX.out; omega), rfl⟩
                    · have hb1 : ¬ ((mm : Int) < 1) := by omega
                      have hb2 : (6 : Int) < (mm : Int) := by omega
                      clear hb
                      go_wp2_with (go_at_call 45; refine (kt.out _).mono ?_; rintro e w1 ⟨rfl, rfl⟩)
                      go_ret
                      exact ⟨ret_int (by have := HX.out; omega), rfl⟩
                  · have HX : Hid (E = 0 + m + 1 + mm) := by show _ = _; rw [HE2.out, HM.out, if_neg (by omega)]
                    have hb1 : ¬ ((mm : Int) < 1) := by omega
                    have hb2 : ¬ ((6 : Int) < (mm : Int)) := by omega
                    clear hbad
                    go_wp2_with (go_at_call 45; refine (kt.out _).mono ?_; rintro e w1 ⟨rfl, rfl⟩)
                    go_ret
                    exact ⟨ret_int (by have := HX.out; have := HQ.out; omega), rfl⟩
          · have e46 : ((c.toNat : Int) == 46) = false := by simp; omega
            have f46 : ¬ ((c.toNat : Int) = 46) := by omega
            have HX : Hid (p + E = kk) := by
              show _ = _
              rw [HE.out, HM.out, if_neg hbad, HK.out, HL.out]
              have : ((46 : UInt8) == c) = false := by simp; intro e; exact h46 (by rw [← e]; rfl)
              simp only [Lib.hasPrefix, List.isPrefixOf, this, Bool.false_and, Bool.false_eq_true, if_false]
              have := HQ0.out
              omega
            clear hbad h46
            go_wp2_with (go_at_call 45; refine (kt.out _).mono ?_; rintro e w1 ⟨rfl, rfl⟩)
            go_ret
            exact ⟨ret_int (by have := HX.out; omega), rfl⟩
  

namespace WP
theorem numEnd_eq (l : List UInt8) (p o q N1 N2 : Nat) (ho : minus (l.drop p) = o) (hq : p + o = q) (h1 : count digit (l.drop q) = N1) (h2 : count digit (l.drop (q + N1 + 1)) = N2) :
    numEnd (l.drop p) = if N1 < 1 ∨ 6 < N1 then 0 else if Lib.hasPrefix (l.drop (q + N1)) [46] then (if N2 < 1 ∨ 6 < N2 then 0 else o + N1 + 1 + N2) else o + N1 := by
  have e1 : digits ((l.drop p).drop o) = if 6 < N1 then 0 else N1 := by unfold digits; rw [List.drop_drop, hq, h1]
  unfold numEnd
  rw [ho, e1]
  by_cases g1 : 6 < N1
  · simp [g1]
  · rw [if_neg g1]
    by_cases g2 : N1 = 0
    · simp [g2]
    · have e2 : digits ((l.drop p).drop (o + N1 + 1)) = if 6 < N2 then 0 else N2 := by
        unfold digits
        rw [List.drop_drop, show p + (o + N1 + 1) = q + N1 + 1 by omega, h2]
      rw [if_neg g2, if_neg (show ¬ (N1 < 1 ∨ 6 < N1) by omega), List.drop_drop, show p + (o + N1) = q + N1 by omega, e2]
      by_cases g3 : Lib.hasPrefix (l.drop (q + N1)) [46] = true
      · rw [if_pos g3, if_pos g3]
        by_cases g4 : 6 < N2
        · simp [g4]
        · rw [if_neg g4]
          by_cases g5 : N2 = 0
          · simp [g5]
          · rw [if_neg g5, if_neg (show ¬ (N2 < 1 ∨ 6 < N2) by omega)]
      · rw [if_neg g3, if_neg g3]
theorem minus_cons (c : UInt8) (t : List UInt8) : minus (c :: t) = if c.toNat = 45 then 1 else 0 := by
  unfold minus
  by_cases h : c.toNat = 45
  · have : c = 45 := UInt8.toNat_inj.1 h
    subst this
    simp [Lib.hasPrefix, List.isPrefixOf]
  · have : ((45 : UInt8) == c) = false := by simp; intro e; exact h (by rw [← e]; rfl)
    simp [Lib.hasPrefix, List.isPrefixOf, this, h]
end WP

theorem numeral_any (s : ByteArray) (p : Nat) (w : World) (hp : p < s.size) (hs : s.size ≤ 1000000) :
    Calls Tryd.prog 46 #[.string s, .int .i64 p] w fun e w' => e = .returned (.int .i64 ((p + WP.numEnd (s.data.toList.drop p) : Nat) : Int)) ∧ w' = w := by
  cases hl : s.data.toList.drop p with
  | nil => have := drop_nil s p hl; omega
  | cons c t =>
    obtain ⟨-, hc, -⟩ := at_drop s p c t hl
    have hm := WP.minus_cons c t
    rw [← hl] at hm ⊢
    by_cases h : c.toNat = 45
    · rw [if_pos h] at hm
      exact numeral_1 s p (p + 1) _ _ c w hp hs hc (by rw [h]; rfl) rfl rfl (WP.numEnd_eq _ p 1 (p + 1) _ _ hm rfl rfl rfl)
    · rw [if_neg h] at hm
      exact numeral_0 s p p _ _ c w hp hs hc (by simp; omega) rfl rfl (WP.numEnd_eq _ p 0 p _ _ hm rfl rfl rfl)

end Go.Proofs.YtbniikaebkmbhaaDoor

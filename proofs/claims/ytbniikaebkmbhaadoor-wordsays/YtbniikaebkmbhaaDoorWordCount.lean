/-
  How many bytes of a kind a text begins with; whether it begins with one: walked over the program.
-/
import Derived.Test.YtbniikaebkmbhaaDoorWordLeaf
namespace Go.Proofs.YtbniikaebkmbhaaDoor
open Go.RowKit

theorem at_drop (s : ByteArray) (j : Nat) (c : UInt8) (t : List UInt8) (h : s.data.toList.drop j = c :: t) : j < s.size ∧ (∀ h, s[j]'h = c) ∧ s.data.toList.drop (j + 1) = t := by
  obtain ⟨⟨l⟩⟩ := s
  have h0 : l.drop j = c :: t := h
  have hlt : j < l.length := by
    rcases Nat.lt_or_ge j l.length with h | h
    · exact h
    · rw [List.drop_of_length_le h] at h0; cases h0
  have h1 := List.drop_eq_getElem_cons hlt
  rw [h0] at h1
  injection h1 with h2 h3
  exact ⟨hlt, fun _ => h2.symm, h3.symm⟩

theorem drop_nil (s : ByteArray) (j : Nat) (h : s.data.toList.drop j = []) : s.size ≤ j := by
  rw [Lib.size_eq]; exact List.drop_eq_nil_iff.1 h

set_option maxRecDepth 20000 in
theorem begins_any (K : Nat) (p : UInt8 → Bool) (hT : Tells K p) (hE : Enters K) (s : ByteArray) (w : World) :
    Calls Tryd.prog 42 #[.string s, .func (.func K) #[] #[]] w fun e w' => e = .returned (.bool (WP.begins p s.data.toList)) ∧ w' = w := by
  unfold Enters at hE
  obtain ⟨B, hB⟩ : ∃ B, WP.begins p s.data.toList = B := ⟨_, rfl⟩
  rw [hB]
  cases hl : s.data.toList with
  | nil =>
    rw [hl] at hB
    have h0 := drop_nil s 0 hl
    have HB : Hid (B = false) := hB.symm
    have hs : s = ⟨#[]⟩ := ByteArray.ext (Array.toList_eq_nil_iff.1 hl)
    subst hs
    clear hl h0
    go_enter Tryd.func42, Tryd.ntmps42
    go_wp2
    go_ret
    exact ⟨ret_bool HB.out.symm, rfl⟩
  | cons c t =>
    obtain ⟨hlt, hc, -⟩ := at_drop s 0 c t hl
    rw [hl] at hB
    have hne : s.toList.isEmpty = false := by
      rw [Lib.toList_data, hl]; rfl
    have hbq : p c = B := hB
    have KT := hid'' (fun W => hT c W)
    rw [hbq] at KT
    clear hl hB hbq
    go_enter Tryd.func42, Tryd.ntmps42
    go_wp2_with (refine (KT.out _).mono ?_; rintro e w1 ⟨rfl, rfl⟩)
    all_goals go_ret
    all_goals exact ⟨rfl, rfl⟩

set_option maxRecDepth 20000 in
theorem count_any (K : Nat) (p : UInt8 → Bool) (hT : Tells K p) (hE : Enters K) (s : ByteArray) (w : World) (hs : s.size ≤ 9223372036854775807) :
    Calls Tryd.prog 56 #[.string s, .func (.func K) #[] #[]] w fun e w' => e = .returned (.int .i64 (WP.count p s.data.toList : Nat)) ∧ w' = w := by
  unfold Enters at hE
  obtain ⟨N, hN⟩ : ∃ N, WP.count p s.data.toList = N := ⟨_, rfl⟩
  rw [hN]
  have KT := hid'' hT
  have HN := hid'' hN
  clear hT hN
  go_enter Tryd.func56, Tryd.ntmps56
  go_wp2
  go_loop [8] (fun i => ∃ k : Nat, i = .int .i64 k ∧ k ≤ s.size ∧ N = k + WP.count p (s.data.toList.drop k)) (fun i => s.size - (intOf i).toNat)
  case atStart => exact ⟨0, rfl, Nat.zero_le _, by rw [List.drop_zero, HN.out, Nat.zero_add]⟩
  case round =>
    obtain ⟨k, rfl, hk, hr⟩ := hrel
    have HR := hid'' hr
    clear hr
    cases hl : s.data.toList.drop k with
    | nil =>
      have h0 := drop_nil s k hl
      have hks : k = s.size := by omega
      have HL := hid'' hl
      clear hl
      subst hks
      go_wp2
      go_ret
      exact ⟨ret_int (by rw [HR.out, HL.out]; simp [WP.count]), rfl⟩
    | cons c t =>
      obtain ⟨hlt, hc, ht⟩ := at_drop s k c t hl
      have HL := hid'' hl
      have HT := hid'' ht
      clear hl ht
      have kt := hid'' (fun W => KT.out c W)
      obtain ⟨B, hB⟩ : ∃ B, p c = B := ⟨_, rfl⟩
      rw [hB] at kt
      have HB := hid'' hB
      clear hB
      cases B with
      | false =>
        go_wp2_with (refine (kt.out _).mono ?_; rintro e w1 ⟨rfl, rfl⟩)
        go_ret
        exact ⟨ret_int (by rw [HR.out, HL.out]; simp [WP.count, HB.out]), rfl⟩
      | true =>
        go_wp2_with (refine (kt.out _).mono ?_; rintro e w1 ⟨rfl, rfl⟩)
        go_round
        case rel => exact ⟨k + 1, by go_num, by omega, by rw [HR.out, HL.out, HT.out]; simp [WP.count, HB.out]; omega⟩
        case measure => simp [intOf]; omega

theorem ent_small : Enters 36 := fun args W => Tryd.call36 args W
theorem ent_digit : Enters 39 := fun args W => Tryd.call39 args W
theorem ent_nsign : Enters 57 := fun args W => Tryd.call57 args W
theorem ent_sign : Enters 43 := fun args W => Tryd.call43 args W
theorem ent_cdig : Enters 62 := fun args W => Tryd.call62 args W
theorem ent_poh : Enters 73 := fun args W => Tryd.call73 args W

theorem glued_any (s : ByteArray) (w : World) :
    Calls Tryd.prog 61 #[.string s] w fun e w' => e = .returned (.bool (WP.glued s.data.toList)) ∧ w' = w := by
  have HP : Hid (WP.glued s.data.toList = (WP.begins WP.sign s.data.toList || WP.begins WP.poh s.data.toList)) := rfl
  have k1 := hid'' (fun W => begins_any _ _ isSign_any ent_sign s W)
  have k2 := hid'' (fun W => begins_any _ _ isPointOrHash_any ent_poh s W)
  obtain ⟨P, hP⟩ : ∃ P, WP.glued s.data.toList = P := ⟨_, rfl⟩
  obtain ⟨S, hS⟩ : ∃ S, WP.begins WP.sign s.data.toList = S := ⟨_, rfl⟩
  obtain ⟨D, hD⟩ : ∃ D, WP.begins WP.poh s.data.toList = D := ⟨_, rfl⟩
  rw [hP] at HP ⊢
  rw [hS] at HP k1
  rw [hD] at HP k2
  clear hP hS hD
  cases S <;> cases D
  all_goals
    go_enter Tryd.func61, Tryd.ntmps61
    go_wp2_with (first
      | (have v1 := u1; go_at_call 42; refine (k2.out _).mono ?_; rintro e w1 ⟨rfl, rfl⟩)
      | (go_at_call 42; refine (k1.out _).mono ?_; rintro e w1 ⟨rfl, rfl⟩; have u1 : True := trivial))
    go_ret
    exact ⟨by rw [HP.out]; rfl, rfl⟩

theorem digits_any (s : ByteArray) (w : World) (hs : s.size ≤ 9223372036854775807) :
    Calls Tryd.prog 59 #[.string s] w fun e w' => e = .returned (.int .i64 (WP.digits s.data.toList : Nat)) ∧ w' = w := by
  have k1 := hid'' (fun W => count_any _ _ isDigit_any ent_digit s W hs)
  have HP : Hid (WP.digits s.data.toList = if 6 < WP.count WP.digit s.data.toList then 0 else WP.count WP.digit s.data.toList) := rfl
  obtain ⟨P, hP⟩ : ∃ P, WP.digits s.data.toList = P := ⟨_, rfl⟩
  obtain ⟨n, hn⟩ : ∃ n, WP.count WP.digit s.data.toList = n := ⟨_, rfl⟩
  rw [hP] at HP ⊢
  rw [hn] at HP k1
  clear hP hn
  by_cases h6 : 6 < n
  · go_enter Tryd.func59, Tryd.ntmps59
    go_wp2_with (go_at_call 56; refine (k1.out _).mono ?_; rintro e w1 ⟨rfl, rfl⟩)
    go_ret
    exact ⟨ret_int (by rw [HP.out, if_pos h6]; rfl), rfl⟩
  · go_enter Tryd.func59, Tryd.ntmps59
    go_wp2_with (go_at_call 56; refine (k1.out _).mono ?_; rintro e w1 ⟨rfl, rfl⟩)
    go_ret
    exact ⟨ret_int (by rw [HP.out, if_neg h6]), rfl⟩

theorem nameSize_any (s : ByteArray) (w : World) (hs : s.size ≤ 9223372036854775807) :
    Calls Tryd.prog 37 #[.string s] w fun e w' => e = .returned (.int .i64 (WP.nameSize s.data.toList : Nat)) ∧ w' = w := by
  have k1 := hid'' (fun W => count_any _ _ isNameSign_any ent_nsign s W hs)
  have HP : Hid (WP.nameSize s.data.toList = if 24 < WP.count WP.nsign s.data.toList then 0 else WP.count WP.nsign s.data.toList) := rfl
  obtain ⟨P, hP⟩ : ∃ P, WP.nameSize s.data.toList = P := ⟨_, rfl⟩
  obtain ⟨n, hn⟩ : ∃ n, WP.count WP.nsign s.data.toList = n := ⟨_, rfl⟩
  rw [hP] at HP ⊢
  rw [hn] at HP k1
  clear hP hn
  by_cases h6 : 24 < n
  · go_enter Tryd.func37, Tryd.ntmps37
    go_wp2_with (go_at_call 56; refine (k1.out _).mono ?_; rintro e w1 ⟨rfl, rfl⟩)
    go_ret
    exact ⟨ret_int (by rw [HP.out, if_pos h6]; rfl), rfl⟩
  · go_enter Tryd.func37, Tryd.ntmps37
    go_wp2_with (go_at_call 56; refine (k1.out _).mono ?_; rintro e w1 ⟨rfl, rfl⟩)
    go_ret
    exact ⟨ret_int (by rw [HP.out, if_neg h6]), rfl⟩

end Go.Proofs.YtbniikaebkmbhaaDoor

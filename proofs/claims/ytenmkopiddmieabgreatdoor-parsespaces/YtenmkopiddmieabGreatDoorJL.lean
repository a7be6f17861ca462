import Derived.Test.YtenmkopiddmieabGreatDoorJA
import Derived.Test.YtenmkopiddmieabGreatDoorShelf
import Derived.Lib.IndexBytes
/-
  Which bytes are which, how many a text begins with: walked over the program.
-/
namespace Go.Proofs.YtenmkopiddmieabGreatDoor
open Go.RowKit

/-- A function's own number is called as itself. -/
def Enters (K : Nat) : Prop := ∀ (args : Array Value) (W : World), Sem.run Tryz.prog (callFunc K args) W = .ok (.enter K args) W

/-- A function of one byte tells what p tells. -/
def Tells (K : Nat) (p : UInt8 → Bool) : Prop := ∀ (c : UInt8) (w : World), Calls Tryz.prog K #[.int .u8 (c.toNat : Int)] w fun e w' => e = .returned (.bool (p c)) ∧ w' = w

theorem two_tests {p : UInt8 → Bool} (c : UInt8) (a b : Nat) (hp : p c = (decide (a ≤ c.toNat) && decide (c.toNat ≤ b))) (n : Nat) (hn : c.toNat = n) : p c = (decide (a ≤ n) && decide (n ≤ b)) := by rw [hp, hn]

theorem isSmall_any : Tells 38 WP.small := by
  intro c w
  have HP : Hid (WP.small c = (decide (97 ≤ c.toNat) && decide (c.toNat ≤ 122))) := rfl
  obtain ⟨P, hP⟩ : ∃ P, WP.small c = P := ⟨_, rfl⟩
  obtain ⟨n, hn⟩ : ∃ n, c.toNat = n := ⟨_, rfl⟩
  rw [hn] at HP ⊢
  rw [hP] at HP ⊢
  by_cases h1 : 97 ≤ n <;> by_cases h2 : n ≤ 122
  all_goals
    go_enter Tryz.func38, Tryz.ntmps38
    go_wp2
    all_goals go_ret
    all_goals exact ⟨by rw [HP.out]; simp [h1, h2] <;> omega, rfl⟩

theorem isGreat_any : Tells 75 WP.great := by
  intro c w
  have HP : Hid (WP.great c = (decide (65 ≤ c.toNat) && decide (c.toNat ≤ 90))) := rfl
  obtain ⟨P, hP⟩ : ∃ P, WP.great c = P := ⟨_, rfl⟩
  obtain ⟨n, hn⟩ : ∃ n, c.toNat = n := ⟨_, rfl⟩
  rw [hn] at HP ⊢
  rw [hP] at HP ⊢
  by_cases h1 : 65 ≤ n <;> by_cases h2 : n ≤ 90
  all_goals
    go_enter Tryz.func75, Tryz.ntmps75
    go_wp2
    all_goals go_ret
    all_goals exact ⟨by rw [HP.out]; simp [h1, h2] <;> omega, rfl⟩

theorem isDigit_any : Tells 41 WP.digit := by
  intro c w
  have HP : Hid (WP.digit c = (decide (48 ≤ c.toNat) && decide (c.toNat ≤ 57))) := rfl
  obtain ⟨P, hP⟩ : ∃ P, WP.digit c = P := ⟨_, rfl⟩
  obtain ⟨n, hn⟩ : ∃ n, c.toNat = n := ⟨_, rfl⟩
  rw [hn] at HP ⊢
  rw [hP] at HP ⊢
  by_cases h1 : 48 ≤ n <;> by_cases h2 : n ≤ 57
  all_goals
    go_enter Tryz.func41, Tryz.ntmps41
    go_wp2
    all_goals go_ret
    all_goals exact ⟨by rw [HP.out]; simp [h1, h2] <;> omega, rfl⟩

theorem isPointOrHash_any : Tells 91 WP.poh := by
  intro c w
  have HP : Hid (WP.poh c = (decide (c.toNat = 46) || decide (c.toNat = 35))) := rfl
  obtain ⟨P, hP⟩ : ∃ P, WP.poh c = P := ⟨_, rfl⟩
  obtain ⟨n, hn⟩ : ∃ n, c.toNat = n := ⟨_, rfl⟩
  rw [hn] at HP ⊢
  rw [hP] at HP ⊢
  have d1 : ((n : Int) == 46) = decide (n = 46) := by rw [Bool.eq_iff_iff]; simp; omega
  have d2 : ((n : Int) == 35) = decide (n = 35) := by rw [Bool.eq_iff_iff]; simp; omega
  obtain ⟨D1, hD1⟩ : ∃ D, decide (n = 46) = D := ⟨_, rfl⟩
  obtain ⟨D2, hD2⟩ : ∃ D, decide (n = 35) = D := ⟨_, rfl⟩
  rw [hD1] at d1 HP
  rw [hD2] at d2 HP
  clear hD1 hD2
  cases D1 <;> cases D2
  all_goals
    go_enter Tryz.func91, Tryz.ntmps91
    go_wp2
    go_ret
    exact ⟨by rw [HP.out]; rfl, rfl⟩

theorem isNameSign_any : Tells 69 WP.nsign := by
  intro c w
  have HP : Hid (WP.nsign c = (WP.small c || WP.digit c || decide (c.toNat = 95))) := rfl
  obtain ⟨P, hP⟩ : ∃ P, WP.nsign c = P := ⟨_, rfl⟩
  have k1 := fun W => isSmall_any c W
  have k2 := fun W => isDigit_any c W
  obtain ⟨S, hS⟩ : ∃ S, WP.small c = S := ⟨_, rfl⟩
  obtain ⟨D, hD⟩ : ∃ D, WP.digit c = D := ⟨_, rfl⟩
  obtain ⟨n, hn⟩ : ∃ n, c.toNat = n := ⟨_, rfl⟩
  rw [hn] at HP k1 k2 ⊢
  rw [hP] at HP ⊢
  rw [hS] at HP k1
  rw [hD] at HP k2
  have K1 := hid'' k1
  have K2 := hid'' k2
  clear k1 k2 hP hS hD hn
  have d1 : ((n : Int) == 95) = decide (n = 95) := by rw [Bool.eq_iff_iff]; simp; omega
  obtain ⟨D1, hD1⟩ : ∃ D, decide (n = 95) = D := ⟨_, rfl⟩
  rw [hD1] at d1 HP
  clear hD1
  cases S <;> cases D <;> cases D1
  all_goals
    go_enter Tryz.func69, Tryz.ntmps69
    go_wp2_with (first
      | (go_at_call 38; refine (K1.out _).mono ?_; rintro e w1 ⟨rfl, rfl⟩)
      | (go_at_call 41; refine (K2.out _).mono ?_; rintro e w1 ⟨rfl, rfl⟩))
    go_ret
    exact ⟨by rw [HP.out]; rfl, rfl⟩

theorem isSign_any : Tells 45 WP.sign := by
  intro c w
  have HP : Hid (WP.sign c = (WP.nsign c || WP.great c)) := rfl
  obtain ⟨P, hP⟩ : ∃ P, WP.sign c = P := ⟨_, rfl⟩
  have k1 := fun W => isNameSign_any c W
  have k2 := fun W => isGreat_any c W
  obtain ⟨S, hS⟩ : ∃ S, WP.nsign c = S := ⟨_, rfl⟩
  obtain ⟨D, hD⟩ : ∃ D, WP.great c = D := ⟨_, rfl⟩
  obtain ⟨n, hn⟩ : ∃ n, c.toNat = n := ⟨_, rfl⟩
  rw [hn] at k1 k2 ⊢
  rw [hP] at HP ⊢
  rw [hS] at HP k1
  rw [hD] at HP k2
  have K1 := hid'' k1
  have K2 := hid'' k2
  clear k1 k2 hP hS hD hn
  cases S <;> cases D
  all_goals
    go_enter Tryz.func45, Tryz.ntmps45
    go_wp2_with (first
      | (go_at_call 69; refine (K1.out _).mono ?_; rintro e w1 ⟨rfl, rfl⟩)
      | (go_at_call 75; refine (K2.out _).mono ?_; rintro e w1 ⟨rfl, rfl⟩))
    go_ret
    exact ⟨by rw [HP.out]; rfl, rfl⟩

theorem isColorDigit_any : Tells 74 WP.cdig := by
  intro c w
  have HP : Hid (WP.cdig c = (WP.digit c || (decide (97 ≤ c.toNat) && decide (c.toNat ≤ 102)))) := rfl
  obtain ⟨P, hP⟩ : ∃ P, WP.cdig c = P := ⟨_, rfl⟩
  have k2 := fun W => isDigit_any c W
  obtain ⟨D, hD⟩ : ∃ D, WP.digit c = D := ⟨_, rfl⟩
  obtain ⟨n, hn⟩ : ∃ n, c.toNat = n := ⟨_, rfl⟩
  rw [hn] at HP k2 ⊢
  rw [hP] at HP ⊢
  rw [hD] at HP k2
  have K2 := hid'' k2
  clear k2 hP hD hn
  cases D <;> by_cases h1 : 97 ≤ n <;> by_cases h2 : n ≤ 102
  all_goals
    go_enter Tryz.func74, Tryz.ntmps74
    go_wp2_with (go_at_call 41; refine (K2.out _).mono ?_; rintro e w1 ⟨rfl, rfl⟩)
    all_goals go_ret
    all_goals exact ⟨by rw [HP.out]; simp [h1, h2] <;> omega, rfl⟩

end Go.Proofs.YtenmkopiddmieabGreatDoor

/-
  How many bytes of a kind a text begins with; whether it begins with one: walked over the program.
-/
namespace Go.Proofs.YtenmkopiddmieabGreatDoor
open Go.RowKit

theorem at_drop (s : ByteArray) (j : Nat) (c : UInt8) (t : List UInt8) (h : s.data.toList.drop j = c :: t) : j < s.size ∧ (∀ h, s[j]'h = c) ∧ s.data.toList.drop (j + 1) = t := by
  obtain ⟨⟨l⟩⟩ := s
  have h0 : l.drop j = c :: t := h
  have hlt : j < l.length := by
    rcases Nat.lt_or_ge j l.length with h | h
    · exact h
    · rw [List.drop_of_length_le h] at h0; cases h0
  have h1 := List.drop_eq_getElem_cons hlt
  rw [h0] at h1
  injection h1 with h2 h3
  exact ⟨hlt, fun _ => h2.symm, h3.symm⟩

theorem drop_nil (s : ByteArray) (j : Nat) (h : s.data.toList.drop j = []) : s.size ≤ j := by
  rw [Lib.size_eq]; exact List.drop_eq_nil_iff.1 h

set_option maxRecDepth 20000 in
theorem begins_any (K : Nat) (p : UInt8 → Bool) (hT : Tells K p) (hE : Enters K) (s : ByteArray) (w : World) :
    Calls Tryz.prog 44 #[.string s, .func (.func K) #[] #[]] w fun e w' => e = .returned (.bool (WP.begins p s.data.toList)) ∧ w' = w := by
  unfold Enters at hE
  obtain ⟨B, hB⟩ : ∃ B, WP.begins p s.data.toList = B := ⟨_, rfl⟩
  rw [hB]
  cases hl : s.data.toList with
  | nil =>
    rw [hl] at hB
    have h0 := drop_nil s 0 hl
    have HB : Hid (B = false) := hB.symm
    have hs : s = ⟨#[]⟩ := ByteArray.ext (Array.toList_eq_nil_iff.1 hl)
    subst hs
    clear hl h0
    go_enter Tryz.func44, Tryz.ntmps44
    go_wp2
    go_ret
    exact ⟨ret_bool HB.out.symm, rfl⟩
  | cons c t =>
    obtain ⟨hlt, hc, -⟩ := at_drop s 0 c t hl
    rw [hl] at hB
    have hne : s.toList.isEmpty = false := by
      rw [Lib.toList_data, hl]; rfl
    have hbq : p c = B := hB
    have KT := hid'' (fun W => hT c W)
    rw [hbq] at KT
    clear hl hB hbq
    go_enter Tryz.func44, Tryz.ntmps44
    go_wp2_with (refine (KT.out _).mono ?_; rintro e w1 ⟨rfl, rfl⟩)
    all_goals go_ret
    all_goals exact ⟨rfl, rfl⟩

set_option maxRecDepth 20000 in
theorem count_any (K : Nat) (p : UInt8 → Bool) (hT : Tells K p) (hE : Enters K) (s : ByteArray) (w : World) (hs : s.size ≤ 9223372036854775807) :
    Calls Tryz.prog 68 #[.string s, .func (.func K) #[] #[]] w fun e w' => e = .returned (.int .i64 (WP.count p s.data.toList : Nat)) ∧ w' = w := by
  unfold Enters at hE
  obtain ⟨N, hN⟩ : ∃ N, WP.count p s.data.toList = N := ⟨_, rfl⟩
  rw [hN]
  have KT := hid'' hT
  have HN := hid'' hN
  clear hT hN
  go_enter Tryz.func68, Tryz.ntmps68
  go_wp2
  go_loop [8] (fun i => ∃ k : Nat, i = .int .i64 k ∧ k ≤ s.size ∧ N = k + WP.count p (s.data.toList.drop k)) (fun i => s.size - (intOf i).toNat)
  case atStart => exact ⟨0, rfl, Nat.zero_le _, by rw [List.drop_zero, HN.out, Nat.zero_add]⟩
  case round =>
    obtain ⟨k, rfl, hk, hr⟩ := hrel
    have HR := hid'' hr
    clear hr
    cases hl : s.data.toList.drop k with
    | nil =>
      have h0 := drop_nil s k hl
      have hks : k = s.size := by omega
      have HL := hid'' hl
      clear hl
      subst hks
      go_wp2
      go_ret
      exact ⟨ret_int (by rw [HR.out, HL.out]; simp [WP.count]), rfl⟩
    | cons c t =>
      obtain ⟨hlt, hc, ht⟩ := at_drop s k c t hl
      have HL := hid'' hl
      have HT := hid'' ht
      clear hl ht
      have kt := hid'' (fun W => KT.out c W)
      obtain ⟨B, hB⟩ : ∃ B, p c = B := ⟨_, rfl⟩
      rw [hB] at kt
      have HB := hid'' hB
      clear hB
      cases B with
      | false =>
        go_wp2_with (refine (kt.out _).mono ?_; rintro e w1 ⟨rfl, rfl⟩)
        go_ret
        exact ⟨ret_int (by rw [HR.out, HL.out]; simp [WP.count, HB.out]), rfl⟩
      | true =>
        go_wp2_with (refine (kt.out _).mono ?_; rintro e w1 ⟨rfl, rfl⟩)
        go_round
        case rel => exact ⟨k + 1, by go_num, by omega, by rw [HR.out, HL.out, HT.out]; simp [WP.count, HB.out]; omega⟩
        case measure => simp [intOf]; omega

theorem ent_small : Enters 38 := fun args W => Tryz.call38 args W
theorem ent_digit : Enters 41 := fun args W => Tryz.call41 args W
theorem ent_nsign : Enters 69 := fun args W => Tryz.call69 args W
theorem ent_sign : Enters 45 := fun args W => Tryz.call45 args W
theorem ent_cdig : Enters 74 := fun args W => Tryz.call74 args W
theorem ent_poh : Enters 91 := fun args W => Tryz.call91 args W

theorem glued_any (s : ByteArray) (w : World) :
    Calls Tryz.prog 73 #[.string s] w fun e w' => e = .returned (.bool (WP.glued s.data.toList)) ∧ w' = w := by
  have HP : Hid (WP.glued s.data.toList = (WP.begins WP.sign s.data.toList || WP.begins WP.poh s.data.toList)) := rfl
  have k1 := hid'' (fun W => begins_any _ _ isSign_any ent_sign s W)
  have k2 := hid'' (fun W => begins_any _ _ isPointOrHash_any ent_poh s W)
  obtain ⟨P, hP⟩ : ∃ P, WP.glued s.data.toList = P := ⟨_, rfl⟩
  obtain ⟨S, hS⟩ : ∃ S, WP.begins WP.sign s.data.toList = S := ⟨_, rfl⟩
  obtain ⟨D, hD⟩ : ∃ D, WP.begins WP.poh s.data.toList = D := ⟨_, rfl⟩
  rw [hP] at HP ⊢
  rw [hS] at HP k1
  rw [hD] at HP k2
  clear hP hS hD
  cases S <;> cases D
  all_goals
    go_enter Tryz.func73, Tryz.ntmps73
    go_wp2_with (first
      | (have v1 := u1; go_at_call 44; refine (k2.out _).mono ?_; rintro e w1 ⟨rfl, rfl⟩)
      | (go_at_call 44; refine (k1.out _).mono ?_; rintro e w1 ⟨rfl, rfl⟩; have u1 : True := trivial))
    go_ret
    exact ⟨by rw [HP.out]; rfl, rfl⟩

theorem digits_any (s : ByteArray) (w : World) (hs : s.size ≤ 9223372036854775807) :
    Calls Tryz.prog 71 #[.string s] w fun e w' => e = .returned (.int .i64 (WP.digits s.data.toList : Nat)) ∧ w' = w := by
  have k1 := hid'' (fun W => count_any _ _ isDigit_any ent_digit s W hs)
  have HP : Hid (WP.digits s.data.toList = if 6 < WP.count WP.digit s.data.toList then 0 else WP.count WP.digit s.data.toList) := rfl
  obtain ⟨P, hP⟩ : ∃ P, WP.digits s.data.toList = P := ⟨_, rfl⟩
  obtain ⟨n, hn⟩ : ∃ n, WP.count WP.digit s.data.toList = n := ⟨_, rfl⟩
  rw [hP] at HP ⊢
  rw [hn] at HP k1
  clear hP hn
  by_cases h6 : 6 < n
  · go_enter Tryz.func71, Tryz.ntmps71
    go_wp2_with (go_at_call 68; refine (k1.out _).mono ?_; rintro e w1 ⟨rfl, rfl⟩)
    go_ret
    exact ⟨ret_int (by rw [HP.out, if_pos h6]; rfl), rfl⟩
  · go_enter Tryz.func71, Tryz.ntmps71
    go_wp2_with (go_at_call 68; refine (k1.out _).mono ?_; rintro e w1 ⟨rfl, rfl⟩)
    go_ret
    exact ⟨ret_int (by rw [HP.out, if_neg h6]), rfl⟩

theorem nameSize_any (s : ByteArray) (w : World) (hs : s.size ≤ 9223372036854775807) :
    Calls Tryz.prog 39 #[.string s] w fun e w' => e = .returned (.int .i64 (WP.nameSize s.data.toList : Nat)) ∧ w' = w := by
  have k1 := hid'' (fun W => count_any _ _ isNameSign_any ent_nsign s W hs)
  have HP : Hid (WP.nameSize s.data.toList = if 24 < WP.count WP.nsign s.data.toList then 0 else WP.count WP.nsign s.data.toList) := rfl
  obtain ⟨P, hP⟩ : ∃ P, WP.nameSize s.data.toList = P := ⟨_, rfl⟩
  obtain ⟨n, hn⟩ : ∃ n, WP.count WP.nsign s.data.toList = n := ⟨_, rfl⟩
  rw [hP] at HP ⊢
  rw [hn] at HP k1
  clear hP hn
  by_cases h6 : 24 < n
  · go_enter Tryz.func39, Tryz.ntmps39
    go_wp2_with (go_at_call 68; refine (k1.out _).mono ?_; rintro e w1 ⟨rfl, rfl⟩)
    go_ret
    exact ⟨ret_int (by rw [HP.out, if_pos h6]; rfl), rfl⟩
  · go_enter Tryz.func39, Tryz.ntmps39
    go_wp2_with (go_at_call 68; refine (k1.out _).mono ?_; rintro e w1 ⟨rfl, rfl⟩)
    go_ret
    exact ⟨ret_int (by rw [HP.out, if_neg h6]), rfl⟩

end Go.Proofs.YtenmkopiddmieabGreatDoor

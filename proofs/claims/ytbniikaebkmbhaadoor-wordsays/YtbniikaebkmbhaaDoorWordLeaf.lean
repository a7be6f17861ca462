/-
  Which bytes are which, how many a text begins with: walked over the program.
-/
import Derived.Test.YtbniikaebkmbhaaDoorWordBase
import Derived.Test.YtbniikaebkmbhaaDoorWordPlain
import Derived.Test.YtbniikaebkmbhaaDoorShelf
import Derived.Lib.IndexBytes
namespace Go.Proofs.YtbniikaebkmbhaaDoor
open Go.RowKit

/-- A function's own number is called as itself. -/
def Enters (K : Nat) : Prop := ∀ (args : Array Value) (W : World), Sem.run Tryd.prog (callFunc K args) W = .ok (.enter K args) W

/-- A function of one byte tells what p tells. -/
def Tells (K : Nat) (p : UInt8 → Bool) : Prop := ∀ (c : UInt8) (w : World), Calls Tryd.prog K #[.int .u8 (c.toNat : Int)] w fun e w' => e = .returned (.bool (p c)) ∧ w' = w

theorem two_tests {p : UInt8 → Bool} (c : UInt8) (a b : Nat) (hp : p c = (decide (a ≤ c.toNat) && decide (c.toNat ≤ b))) (n : Nat) (hn : c.toNat = n) : p c = (decide (a ≤ n) && decide (n ≤ b)) := by rw [hp, hn]

theorem isSmall_any : Tells 36 WP.small := by
  intro c w
  have HP : Hid (WP.small c = (decide (97 ≤ c.toNat) && decide (c.toNat ≤ 122))) := rfl
  obtain ⟨P, hP⟩ : ∃ P, WP.small c = P := ⟨_, rfl⟩
  obtain ⟨n, hn⟩ : ∃ n, c.toNat = n := ⟨_, rfl⟩
  rw [hn] at HP ⊢
  rw [hP] at HP ⊢
  by_cases h1 : 97 ≤ n <;> by_cases h2 : n ≤ 122
  all_goals
    go_enter Tryd.func36, Tryd.ntmps36
    go_wp2
    all_goals go_ret
    all_goals exact ⟨by rw [HP.out]; simp [h1, h2] <;> omega, rfl⟩

theorem isGreat_any : Tells 63 WP.great := by
  intro c w
  have HP : Hid (WP.great c = (decide (65 ≤ c.toNat) && decide (c.toNat ≤ 90))) := rfl
  obtain ⟨P, hP⟩ : ∃ P, WP.great c = P := ⟨_, rfl⟩
  obtain ⟨n, hn⟩ : ∃ n, c.toNat = n := ⟨_, rfl⟩
  rw [hn] at HP ⊢
  rw [hP] at HP ⊢
  by_cases h1 : 65 ≤ n <;> by_cases h2 : n ≤ 90
  all_goals
    go_enter Tryd.func63, Tryd.ntmps63
    go_wp2
    all_goals go_ret
    all_goals exact ⟨by rw [HP.out]; simp [h1, h2] <;> omega, rfl⟩

theorem isDigit_any : Tells 39 WP.digit := by
  intro c w
  have HP : Hid (WP.digit c = (decide (48 ≤ c.toNat) && decide (c.toNat ≤ 57))) := rfl
  obtain ⟨P, hP⟩ : ∃ P, WP.digit c = P := ⟨_, rfl⟩
  obtain ⟨n, hn⟩ : ∃ n, c.toNat = n := ⟨_, rfl⟩
  rw [hn] at HP ⊢
  rw [hP] at HP ⊢
  by_cases h1 : 48 ≤ n <;> by_cases h2 : n ≤ 57
  all_goals
    go_enter Tryd.func39, Tryd.ntmps39
    go_wp2
    all_goals go_ret
    all_goals exact ⟨by rw [HP.out]; simp [h1, h2] <;> omega, rfl⟩

theorem isPointOrHash_any : Tells 73 WP.poh := by
  intro c w
  have HP : Hid (WP.poh c = (decide (c.toNat = 46) || decide (c.toNat = 35))) := rfl
  obtain ⟨P, hP⟩ : ∃ P, WP.poh c = P := ⟨_, rfl⟩
  obtain ⟨n, hn⟩ : ∃ n, c.toNat = n := ⟨_, rfl⟩
  rw [hn] at HP ⊢
  rw [hP] at HP ⊢
  have d1 : ((n : Int) == 46) = decide (n = 46) := by rw [Bool.eq_iff_iff]; simp; omega
  have d2 : ((n : Int) == 35) = decide (n = 35) := by rw [Bool.eq_iff_iff]; simp; omega
  obtain ⟨D1, hD1⟩ : ∃ D, decide (n = 46) = D := ⟨_, rfl⟩
  obtain ⟨D2, hD2⟩ : ∃ D, decide (n = 35) = D := ⟨_, rfl⟩
  rw [hD1] at d1 HP
  rw [hD2] at d2 HP
  clear hD1 hD2
  cases D1 <;> cases D2
  all_goals
    go_enter Tryd.func73, Tryd.ntmps73
    go_wp2
    go_ret
    exact ⟨by rw [HP.out]; rfl, rfl⟩

theorem isNameSign_any : Tells 57 WP.nsign := by
  intro c w
  have HP : Hid (WP.nsign c = (WP.small c || WP.digit c || decide (c.toNat = 95))) := rfl
  obtain ⟨P, hP⟩ : ∃ P, WP.nsign c = P := ⟨_, rfl⟩
  have k1 := fun W => isSmall_any c W
  have k2 := fun W => isDigit_any c W
  obtain ⟨S, hS⟩ : ∃ S, WP.small c = S := ⟨_, rfl⟩
  obtain ⟨D, hD⟩ : ∃ D, WP.digit c = D := ⟨_, rfl⟩
  obtain ⟨n, hn⟩ : ∃ n, c.toNat = n := ⟨_, rfl⟩
  rw [hn] at HP k1 k2 ⊢
  rw [hP] at HP ⊢
  rw [hS] at HP k1
  rw [hD] at HP k2
  have K1 := hid'' k1
  have K2 := hid'' k2
  clear k1 k2 hP hS hD hn
  have d1 : ((n : Int) == 95) = decide (n = 95) := by rw [Bool.eq_iff_iff]; simp; omega
  obtain ⟨D1, hD1⟩ : ∃ D, decide (n = 95) = D := ⟨_, rfl⟩
  rw [hD1] at d1 HP
  clear hD1
  cases S <;> cases D <;> cases D1
  all_goals
    go_enter Tryd.func57, Tryd.ntmps57
    go_wp2_with (first
      | (go_at_call 36; refine (K1.out _).mono ?_; rintro e w1 ⟨rfl, rfl⟩)
      | (go_at_call 39; refine (K2.out _).mono ?_; rintro e w1 ⟨rfl, rfl⟩))
    go_ret
    exact ⟨by rw [HP.out]; rfl, rfl⟩

theorem isSign_any : Tells 43 WP.sign := by
  intro c w
  have HP : Hid (WP.sign c = (WP.nsign c || WP.great c)) := rfl
  obtain ⟨P, hP⟩ : ∃ P, WP.sign c = P := ⟨_, rfl⟩
  have k1 := fun W => isNameSign_any c W
  have k2 := fun W => isGreat_any c W
  obtain ⟨S, hS⟩ : ∃ S, WP.nsign c = S := ⟨_, rfl⟩
  obtain ⟨D, hD⟩ : ∃ D, WP.great c = D := ⟨_, rfl⟩
  obtain ⟨n, hn⟩ : ∃ n, c.toNat = n := ⟨_, rfl⟩
  rw [hn] at k1 k2 ⊢
  rw [hP] at HP ⊢
  rw [hS] at HP k1
  rw [hD] at HP k2
  have K1 := hid'' k1
  have K2 := hid'' k2
  clear k1 k2 hP hS hD hn
  cases S <;> cases D
  all_goals
    go_enter Tryd.func43, Tryd.ntmps43
    go_wp2_with (first
      | (go_at_call 57; refine (K1.out _).mono ?_; rintro e w1 ⟨rfl, rfl⟩)
      | (go_at_call 63; refine (K2.out _).mono ?_; rintro e w1 ⟨rfl, rfl⟩))
    go_ret
    exact ⟨by rw [HP.out]; rfl, rfl⟩

theorem isColorDigit_any : Tells 62 WP.cdig := by
  intro c w
  have HP : Hid (WP.cdig c = (WP.digit c || (decide (97 ≤ c.toNat) && decide (c.toNat ≤ 102)))) := rfl
  obtain ⟨P, hP⟩ : ∃ P, WP.cdig c = P := ⟨_, rfl⟩
  have k2 := fun W => isDigit_any c W
  obtain ⟨D, hD⟩ : ∃ D, WP.digit c = D := ⟨_, rfl⟩
  obtain ⟨n, hn⟩ : ∃ n, c.toNat = n := ⟨_, rfl⟩
  rw [hn] at HP k2 ⊢
  rw [hP] at HP ⊢
  rw [hD] at HP k2
  have K2 := hid'' k2
  clear k2 hP hD hn
  cases D <;> by_cases h1 : 97 ≤ n <;> by_cases h2 : n ≤ 102
  all_goals
    go_enter Tryd.func62, Tryd.ntmps62
    go_wp2_with (go_at_call 39; refine (K2.out _).mono ?_; rintro e w1 ⟨rfl, rfl⟩)
    all_goals go_ret
    all_goals exact ⟨by rw [HP.out]; simp [h1, h2] <;> omega, rfl⟩

end Go.Proofs.YtbniikaebkmbhaaDoor

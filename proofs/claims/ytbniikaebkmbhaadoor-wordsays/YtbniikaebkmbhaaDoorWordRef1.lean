/-
  The document's words: which bytes are which, which words are reserved: walked over the document's text.
-/
import Derived.Test.YtbniikaebkmbhaaDoorWordSplit
namespace Go.Proofs.YtbniikaebkmbhaaDoor
open Go.RowKit

theorem rlow_any : Tells 26 WP.small := by
  intro c w
  have HP : Hid (WP.small c = (decide (97 ≤ c.toNat) && decide (c.toNat ≤ 122))) := rfl
  obtain ⟨P, hP⟩ : ∃ P, WP.small c = P := ⟨_, rfl⟩
  obtain ⟨n, hn⟩ : ∃ n, c.toNat = n := ⟨_, rfl⟩
  rw [hn] at HP ⊢
  rw [hP] at HP ⊢
  by_cases h1 : 97 ≤ n <;> by_cases h2 : n ≤ 122
  all_goals
    go_enter Tryd.func26, Tryd.ntmps26
    go_wp2
    all_goals go_ret
    all_goals exact ⟨by rw [HP.out]; simp [h1, h2] <;> omega, rfl⟩

theorem rdigit_any : Tells 45 WP.digit := by
  intro c w
  have HP : Hid (WP.digit c = (decide (48 ≤ c.toNat) && decide (c.toNat ≤ 57))) := rfl
  obtain ⟨P, hP⟩ : ∃ P, WP.digit c = P := ⟨_, rfl⟩
  obtain ⟨n, hn⟩ : ∃ n, c.toNat = n := ⟨_, rfl⟩
  rw [hn] at HP ⊢
  rw [hP] at HP ⊢
  by_cases h1 : 48 ≤ n <;> by_cases h2 : n ≤ 57
  all_goals
    go_enter Tryd.func45, Tryd.ntmps45
    go_wp2
    all_goals go_ret
    all_goals exact ⟨by rw [HP.out]; simp [h1, h2] <;> omega, rfl⟩

theorem rgreat_any : Tells 48 WP.great := by
  intro c w
  have HP : Hid (WP.great c = (decide (65 ≤ c.toNat) && decide (c.toNat ≤ 90))) := rfl
  obtain ⟨P, hP⟩ : ∃ P, WP.great c = P := ⟨_, rfl⟩
  obtain ⟨n, hn⟩ : ∃ n, c.toNat = n := ⟨_, rfl⟩
  rw [hn] at HP ⊢
  rw [hP] at HP ⊢
  by_cases h1 : 65 ≤ n <;> by_cases h2 : n ≤ 90
  all_goals
    go_enter Tryd.func48, Tryd.ntmps48
    go_wp2
    all_goals go_ret
    all_goals exact ⟨by rw [HP.out]; simp [h1, h2] <;> omega, rfl⟩

theorem rinner_any : Tells 28 WP.nsign := by
  intro c w
  have HP : Hid (WP.nsign c = (WP.small c || WP.digit c || decide (c.toNat = 95))) := rfl
  obtain ⟨P, hP⟩ : ∃ P, WP.nsign c = P := ⟨_, rfl⟩
  have k1 := fun W => rlow_any c W
  have k2 := fun W => rdigit_any c W
  obtain ⟨S, hS⟩ : ∃ S, WP.small c = S := ⟨_, rfl⟩
  obtain ⟨D, hD⟩ : ∃ D, WP.digit c = D := ⟨_, rfl⟩
  obtain ⟨n, hn⟩ : ∃ n, c.toNat = n := ⟨_, rfl⟩
  rw [hn] at HP k1 k2 ⊢
  rw [hP] at HP ⊢
  rw [hS] at HP k1
  rw [hD] at HP k2
  have K1 := hid'' k1
  have K2 := hid'' k2
  clear k1 k2 hP hS hD hn
  have d1 : ((n : Int) == 95) = decide (n = 95) := by rw [Bool.eq_iff_iff]; simp; omega
  obtain ⟨D1, hD1⟩ : ∃ D, decide (n = 95) = D := ⟨_, rfl⟩
  rw [hD1] at d1 HP
  clear hD1
  cases S <;> cases D <;> cases D1
  all_goals
    go_enter Tryd.func28, Tryd.ntmps28
    go_wp2_with (first
      | (go_at_call 26; refine (K1.out _).mono ?_; rintro e w1 ⟨rfl, rfl⟩)
      | (go_at_call 45; refine (K2.out _).mono ?_; rintro e w1 ⟨rfl, rfl⟩))
    go_ret
    exact ⟨by rw [HP.out]; rfl, rfl⟩

set_option maxRecDepth 20000 in
/-- Is a text among some? -/
theorem has_any (g : Nat) (ts : List (List UInt8)) (n cap : Nat) (hn : ts.length = n) (s : ByteArray) (w : World) (hc : ∀ (i : Nat) (hi : i < ts.length), w.cell? ⟨g, i, none⟩ = some (.string ⟨ts[i].toArray⟩)) (hn2 : n ≤ 1000) :
    Calls Tryd.prog 51 #[.slice (some ⟨g, 0, none⟩) n cap, .string s] w fun e w' => e = .returned (.bool (ts.contains s.data.toList)) ∧ w' = w := by
  obtain ⟨B, hB⟩ : ∃ B, ts.contains s.data.toList = B := ⟨_, rfl⟩
  rw [hB]
  have HC := hid'' hc
  have HB := hid'' hB
  have HN := hid'' hn
  clear hc hB hn
  go_enter Tryd.func51, Tryd.ntmps51
  go_wp2
  go_loop [5] (fun i => ∃ k : Nat, i = .int .i64 k ∧ k ≤ n ∧ (ts.drop k).contains s.data.toList = B) (fun i => n - (intOf i).toNat)
  case atStart => exact ⟨0, rfl, Nat.zero_le _, HB.out⟩
  case round =>
    obtain ⟨k, rfl, hk, hr⟩ := hrel
    have HR := hid'' hr
    clear hr
    by_cases hkn : k < n
    · have hkt : k < ts.length := by rw [HN.out]; exact hkn
      have c0 := HC.out k hkt
      have HD : Hid (ts.drop k = ts[k] :: ts.drop (k + 1)) := List.drop_eq_getElem_cons hkt
      obtain ⟨t, ht⟩ : ∃ t, ts[k] = t := ⟨_, rfl⟩
      rw [ht] at c0 HD
      clear ht hkt
      have hki : (k : Int) < (n : Int) := by omega
      by_cases he : s.data.toList = t
      · have he2 : s = ⟨t.toArray⟩ := by apply ByteArray.ext; apply Array.toList_inj.1; rw [he]
        have HE := hid'' he
        clear he
        rw [← he2] at c0
        go_wp2
        all_goals go_ret
        all_goals exact ⟨ret_bool (by rw [← HR.out, HD.out, HE.out]; simp), rfl⟩
      · have e1 : ((⟨t.toArray⟩ : ByteArray).toList == s.toList) = false := by rw [Lib.toList_data, Lib.toList_data]; simpa using fun e => he e.symm
        have e2 : (s.toList == (⟨t.toArray⟩ : ByteArray).toList) = false := by rw [Lib.toList_data, Lib.toList_data]; simpa using he
        have HX : Hid ((ts.drop (k + 1)).contains s.data.toList = B) := by
          show _ = _
          rw [← HR.out, HD.out, List.contains_cons]
          have : (s.data.toList == t) = false := by simpa using he
          rw [this, Bool.false_or]
        clear he
        obtain ⟨Tb, hTb⟩ : ∃ Tb : ByteArray, ⟨t.toArray⟩ = Tb := ⟨_, rfl⟩
        rw [hTb] at c0 e1 e2
        clear hTb
        go_wp2
        go_round
        case rel => exact ⟨k + 1, by go_num, by omega, HX.out⟩
        case measure => simp [intOf]; omega
    · obtain rfl : k = n := by omega
      have hki : ¬ ((k : Int) < (k : Int)) := by omega
      have HX : Hid (B = false) := by
        show _ = _
        rw [← HR.out, List.drop_of_length_le (by rw [HN.out]; omega)]
        rfl
      clear hkn
      go_wp2
      go_ret
      exact ⟨ret_bool HX.out.symm, rfl⟩

theorem rkey_cell (w : World) (i : Nat) (hi : i < WP.keys.length) : (w.alloc (.cells #[.string ⟨#[105, 99, 111, 110]⟩, .string ⟨#[115, 99, 97, 108, 101]⟩, .string ⟨#[99, 111, 110, 115, 116]⟩, .string ⟨#[99, 111, 108, 111, 114]⟩, .string ⟨#[115, 104, 97, 112, 101]⟩, .string ⟨#[102, 105, 108, 108]⟩, .string ⟨#[101, 118, 101, 110, 111, 100, 100]⟩, .string ⟨#[110, 111, 110, 122, 101, 114, 111]⟩, .string ⟨#[108, 105, 110, 101]⟩, .string ⟨#[108, 105, 110, 101, 97, 114]⟩, .string ⟨#[114, 97, 100, 105, 97, 108]⟩, .string ⟨#[112, 97, 116, 104]⟩, .string ⟨#[117, 115, 101]⟩, .string ⟨#[97, 116]⟩, .string ⟨#[98, 121]⟩, .string ⟨#[116, 117, 114, 110]⟩] 9)).cell? ⟨w.heap.size, i, none⟩ = some (.string ⟨WP.keys[i].toArray⟩) := by
  rw [World.cell?_alloc_mark]
  have h : i < 16 := hi
  have : i = 0 ∨ i = 1 ∨ i = 2 ∨ i = 3 ∨ i = 4 ∨ i = 5 ∨ i = 6 ∨ i = 7 ∨ i = 8 ∨ i = 9 ∨ i = 10 ∨ i = 11 ∨ i = 12 ∨ i = 13 ∨ i = 14 ∨ i = 15 := by omega
  rcases this with rfl | rfl | rfl | rfl | rfl | rfl | rfl | rfl | rfl | rfl | rfl | rfl | rfl | rfl | rfl | rfl <;> rfl

set_option maxRecDepth 20000 in
theorem rreserved_any (s : ByteArray) (w : World) :
    Calls Tryd.prog 27 #[.string s] w fun e w' => e = .returned (.bool (WP.reserved s.data.toList)) ∧ Below w.heap.size w w' := by
  have k1 := hid'' (has_any w.heap.size WP.keys 16 16 rfl s _ (fun i hi => rkey_cell w i hi) (by decide))
  have HR : Hid (WP.reserved s.data.toList = WP.keys.contains s.data.toList) := rfl
  obtain ⟨B, hB⟩ : ∃ B, WP.keys.contains s.data.toList = B := ⟨_, rfl⟩
  obtain ⟨C, hC⟩ : ∃ C, WP.reserved s.data.toList = C := ⟨_, rfl⟩
  rw [hB] at k1 HR
  rw [hC] at HR ⊢
  clear hB hC
  go_enter Tryd.func27, Tryd.ntmps27
  go_wp2_with (go_at_call 51; refine k1.out.mono ?_; rintro e w1 ⟨rfl, rfl⟩)
  go_ret
  exact ⟨ret_bool HR.out.symm, (Below.refl _ _).alloc (Nat.le_refl _) _⟩

/-- What may not follow, at a place. -/
theorem follows_any (s : ByteArray) (k : Nat) (w : World) (hk : k ≤ s.size) :
    Calls Tryd.prog 47 #[.string s, .int .i64 k] w fun e w' => e = .returned (.bool (WP.glued (s.data.toList.drop k))) ∧ w' = w := by
  cases hl : s.data.toList.drop k with
  | nil =>
    have h0 := drop_nil s k hl
    have hks : k = s.size := by omega
    have hki : ¬ ((k : Int) < (s.size : Int)) := by omega
    clear hl h0
    subst hks
    go_enter Tryd.func47, Tryd.ntmps47
    go_wp2
    go_ret
    exact ⟨rfl, rfl⟩
  | cons c t =>
    obtain ⟨hlt, hc, -⟩ := at_drop s k c t hl
    have HP : Hid (WP.glued (c :: t) = (WP.nsign c || WP.great c || (decide (c.toNat = 46) || decide (c.toNat = 35)))) := rfl
    obtain ⟨P, hP⟩ : ∃ P, WP.glued (c :: t) = P := ⟨_, rfl⟩
    rw [hP] at HP ⊢
    have k1 := hid'' (fun W => rinner_any c W)
    have k2 := hid'' (fun W => rgreat_any c W)
    obtain ⟨S, hS⟩ : ∃ S, WP.nsign c = S := ⟨_, rfl⟩
    obtain ⟨D, hD⟩ : ∃ D, WP.great c = D := ⟨_, rfl⟩
    rw [hS] at HP k1
    rw [hD] at HP k2
    have d1 : ((c.toNat : Int) == 46) = decide (c.toNat = 46) := by rw [Bool.eq_iff_iff]; simp; omega
    have d2 : ((c.toNat : Int) == 35) = decide (c.toNat = 35) := by rw [Bool.eq_iff_iff]; simp; omega
    obtain ⟨D1, hD1⟩ : ∃ D, decide (c.toNat = 46) = D := ⟨_, rfl⟩
    obtain ⟨D2, hD2⟩ : ∃ D, decide (c.toNat = 35) = D := ⟨_, rfl⟩
    rw [hD1] at d1 HP
    rw [hD2] at d2 HP
    have hki : (k : Int) < (s.size : Int) := by omega
    clear hP hS hD hD1 hD2 hl
    cases S <;> cases D <;> cases D1 <;> cases D2
    all_goals
      go_enter Tryd.func47, Tryd.ntmps47
      go_wp2_with (first
        | (go_at_call 28; refine (k1.out _).mono ?_; rintro e w1 ⟨rfl, rfl⟩)
        | (go_at_call 48; refine (k2.out _).mono ?_; rintro e w1 ⟨rfl, rfl⟩))
      go_ret
      exact ⟨by rw [HP.out]; rfl, rfl⟩

end Go.Proofs.YtbniikaebkmbhaaDoor

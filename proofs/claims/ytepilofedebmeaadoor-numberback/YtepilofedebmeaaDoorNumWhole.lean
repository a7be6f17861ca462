/-
  Whole numbers as text: the program's Whole, millionths, the document's Whole: walked.
-/
import Derived.Test.YtepilofedebmeaaDoorWordBase
import Derived.Test.YtepilofedebmeaaDoorNumPlain
import Derived.Test.YtepilofedebmeaaDoorShelf
import Derived.Lib.IndexBytes
namespace Go.Proofs.YtepilofedebmeaaDoor
open Go.RowKit

theorem at_drop (s : ByteArray) (j : Nat) (c : UInt8) (t : List UInt8) (h : s.data.toList.drop j = c :: t) : j < s.size ∧ (∀ h, s[j]'h = c) ∧ s.data.toList.drop (j + 1) = t := by
  obtain ⟨⟨l⟩⟩ := s
  have h0 : l.drop j = c :: t := h
  have hlt : j < l.length := by
    rcases Nat.lt_or_ge j l.length with h | h
    · exact h
    · rw [List.drop_of_length_le h] at h0; cases h0
  have h1 := List.drop_eq_getElem_cons hlt
  rw [h0] at h1
  injection h1 with h2 h3
  exact ⟨hlt, fun _ => h2.symm, h3.symm⟩

theorem drop_nil (s : ByteArray) (j : Nat) (h : s.data.toList.drop j = []) : s.size ≤ j := by
  rw [Lib.size_eq]; exact List.drop_eq_nil_iff.1 h

def wv (r : Option Nat) : Value := .tuple #[.int .i64 (r.getD 0 : Nat), .bool r.isSome]

theorem pow_step (n k : Nat) (c : UInt8) (h : n < 10 ^ k) (hk : k < 6) (hc : WP.digit c = true) : NP.dv n c < 10 ^ (k + 1) ∧ n < 100000 := by
  have h1 := NP.digit_dv hc
  have h2 : 10 ^ k ≤ 10 ^ 5 := Nat.pow_le_pow_right (by omega) (by omega)
  unfold NP.dv
  rw [Nat.pow_succ]
  omega

set_option maxRecDepth 20000 in
theorem whole_any (s : ByteArray) (w : World) :
    Calls Tryd.prog 10 #[.string s] w fun e w' => e = .returned (wv (NP.whole s.data.toList)) ∧ w' = w := by
  obtain ⟨R, hR⟩ : ∃ R, NP.whole s.data.toList = R := ⟨_, rfl⟩
  rw [hR]
  unfold NP.whole at hR
  rw [← Lib.size_eq] at hR
  by_cases h1 : 1 ≤ s.size
  · by_cases h6 : s.size ≤ 6
    · rw [if_pos ⟨h1, h6⟩] at hR
      have HR0 := hid'' hR
      clear hR
      go_enter Tryd.func10, Tryd.ntmps10
      go_wp2
      go_loop [4, 16] (fun n i => ∃ k m : Nat, n = .int .i64 m ∧ i = .int .i64 k ∧ k ≤ s.size ∧ Hid (m < 10 ^ k) ∧ Hid (NP.wholeGo m (s.data.toList.drop k) = R)) (fun _ i => s.size - (intOf i).toNat)
      case atStart => exact ⟨0, 0, rfl, rfl, Nat.zero_le _, hid'' (by simp), hid'' (by rw [List.drop_zero]; exact HR0.out)⟩
      case round =>
        obtain ⟨k, m, rfl, rfl, hk, hm, hr⟩ := hrel
        cases hl : s.data.toList.drop k with
        | nil =>
          have h0 := drop_nil s k hl
          have hks : k = s.size := by omega
          have HX : Hid (R = some m) := by
            have := hr.out
            rw [hl] at this
            exact this.symm
          clear hl
          subst hks
          have hki : ¬ ((s.size : Int) < (s.size : Int)) := by omega
          go_wp2
          exact bodyPost_ret (v := .tuple #[.int .i64 (m : Int), .bool true]) (by simp [results, Tryd.results10, go_sem]) rfl ⟨by rw [HX.out]; rfl, rfl⟩
        | cons c t =>
          obtain ⟨hlt, hc, ht⟩ := at_drop s k c t hl
          have hX := hr.out
          rw [hl] at hX
          unfold NP.wholeGo at hX
          have HT := hid'' ht
          clear hl ht hr
          have hki : (k : Int) < (s.size : Int) := by omega
          by_cases hd : WP.digit c = true
          · rw [if_pos hd] at hX
            obtain ⟨p1, p2⟩ := pow_step m k c hm.out (by omega) hd
            obtain ⟨d1, d2⟩ := NP.digit_dv hd
            have HP := hid'' p1
            have HXX := hid'' hX
            have HDV : Hid (NP.dv m c = m * 10 + (c.toNat - 48)) := rfl
            clear p1 hX hd hm
            obtain ⟨x, hx⟩ : ∃ x, c.toNat = x := ⟨_, rfl⟩
            rw [hx] at d1 d2 HDV
            obtain ⟨y, rfl⟩ : ∃ y, x = 48 + y := ⟨x - 48, by omega⟩
            have q1 : ¬ (48 + (y : Int) < 48) := by omega
            have q2 : ¬ (57 < 48 + (y : Int)) := by omega
            go_wp2
            go_round
            case rel => exact ⟨k + 1, m * 10 + y, by go_num, by go_num, by omega, hid'' (by have := HP.out; rw [HDV.out] at this; simpa using this), hid'' (by have := HXX.out; rw [HT.out]; rw [HDV.out] at this; simpa using this)⟩
            case measure => simp [intOf]; omega
          · rw [if_neg hd] at hX
            have HXX := hid'' hX
            have hdd : c.toNat < 48 ∨ 57 < c.toNat := by
              unfold WP.digit at hd
              simp at hd
              omega
            clear hX hd hm
            obtain ⟨x, hx⟩ : ∃ x, c.toNat = x := ⟨_, rfl⟩
            rw [hx] at hdd
            rcases hdd with q | q
            · go_wp2
              exact bodyPost_ret (v := .tuple #[.int .i64 0, .bool false]) (by simp [results, Tryd.results10, go_sem]) rfl ⟨by rw [← HXX.out]; rfl, rfl⟩
            · have q0 : ¬ ((x : Int) < 48) := by omega
              go_wp2
              exact bodyPost_ret (v := .tuple #[.int .i64 0, .bool false]) (by simp [results, Tryd.results10, go_sem]) rfl ⟨by rw [← HXX.out]; rfl, rfl⟩
    · rw [if_neg (fun h => h6 h.2)] at hR
      subst hR
      go_enter Tryd.func10, Tryd.ntmps10
      go_wp2
      exact bodyPost_ret (v := .tuple #[.int .i64 0, .bool false]) (by simp [results, Tryd.results10, go_sem]) rfl ⟨rfl, rfl⟩
  · rw [if_neg (fun h => h1 h.1)] at hR
    subst hR
    go_enter Tryd.func10, Tryd.ntmps10
    go_wp2
    exact bodyPost_ret (v := .tuple #[.int .i64 0, .bool false]) (by simp [results, Tryd.results10, go_sem]) rfl ⟨rfl, rfl⟩

end Go.Proofs.YtepilofedebmeaaDoor

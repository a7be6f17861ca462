/-
  The word at a text's front, what lies between words: walked over the program.
-/
import Derived.Test.YtbniikaebkmbhaaDoorWordSize
namespace Go.Proofs.YtbniikaebkmbhaaDoor
open Go.RowKit

namespace WP
theorem byteAll (p : UInt8 → Prop) (h : ∀ n : Fin 256, p (UInt8.ofFin n)) (c : UInt8) : p c := h c.toFin
theorem idx_blank (c : UInt8) : (0 ≤ Lib.indexByte [32, 9, 10, 13] c) ↔ blank c = true := byteAll (fun c => (0 ≤ Lib.indexByte [32, 9, 10, 13] c) ↔ blank c = true) (by decide +kernel) c
theorem idx_mark (c : UInt8) : (0 ≤ Lib.indexByte [123, 125, 59, 61] c) ↔ mark c = true := byteAll (fun c => (0 ≤ Lib.indexByte [123, 125, 59, 61] c) ↔ mark c = true) (by decide +kernel) c
theorem idx_step (c : UInt8) : (0 ≤ Lib.indexByte [77, 76, 81, 67, 65, 66, 90] c) ↔ step c = true := byteAll (fun c => (0 ≤ Lib.indexByte [77, 76, 81, 67, 65, 66, 90] c) ↔ step c = true) (by decide +kernel) c

theorem idx_line (l : List UInt8) : (0 ≤ Lib.indexByte l 10 ∧ Lib.indexByte l 10 = (line l : Int)) ∨ (Lib.indexByte l 10 = -1 ∧ line l = l.length) := by
  induction l with
  | nil => exact .inr ⟨rfl, rfl⟩
  | cons c l ih =>
    unfold Lib.indexByte line
    by_cases h : c = 10
    · subst h; exact .inl (by simp)
    · have h1 : ¬ c.toNat = 10 := fun e => h (UInt8.toNat_inj.1 e)
      have h2 : (c == 10) = false := by simpa using h
      rw [if_neg h1, h2, if_neg Bool.false_ne_true]
      rcases ih with ⟨i1, i2⟩ | ⟨i1, i2⟩
      · left
        have h3 : (Lib.indexByte l 10 == -1) = false := by simp; omega
        rw [h3, if_neg Bool.false_ne_true]
        constructor
        · omega
        · rw [i2]; push_cast; rfl
      · right
        rw [i1]
        exact ⟨rfl, by rw [i2]; rfl⟩
end WP

theorem toByte (c : UInt8) : ((c.toNat : Int)).toNat.toUInt8 = c := by simp

theorem idx_any (s : ByteArray) (p : UInt8 → Bool) (hp : ∀ c, (0 ≤ Lib.indexByte s.data.toList c) ↔ p c = true) (c : UInt8) (w : World) :
    Calls Tryd.prog 33 #[.string s, .int .u8 (c.toNat : Int)] w fun e w' => ∃ i : Int, e = .returned (.int .i64 i) ∧ (0 ≤ i ↔ p c = true) ∧ w' = w :=
  (Tryd.strings_IndexByte s (c.toNat : Int) w).mono (by rintro e w' ⟨rfl, rfl⟩; exact ⟨_, rfl, by rw [toByte]; exact hp c, rfl⟩)

theorem remark_any (s : ByteArray) (w : World) :
    Calls Tryd.prog 35 #[.string s] w fun e w' => e = .returned (.int .i64 (WP.line s.data.toList : Nat)) ∧ w' = w := by
  have k1 : Hid (∀ W, Calls Tryd.prog 33 #[.string s, .int .u8 10] W fun e w' => e = .returned (.int .i64 (Lib.indexByte s.data.toList 10)) ∧ w' = W) := fun W => Tryd.strings_IndexByte s 10 W
  have hL := WP.idx_line s.data.toList
  obtain ⟨n, hn⟩ : ∃ n, WP.line s.data.toList = n := ⟨_, rfl⟩
  rw [hn] at hL ⊢
  rw [← Lib.size_eq] at hL
  obtain ⟨i, hi⟩ : ∃ i, Lib.indexByte s.data.toList 10 = i := ⟨_, rfl⟩
  rw [hi] at hL k1
  clear hn hi
  rcases hL with ⟨h1, h2⟩ | ⟨h1, h2⟩
  · subst h2
    go_enter Tryd.func35, Tryd.ntmps35
    go_wp2_with (go_at_call 33; refine (k1.out _).mono ?_; rintro e w1 ⟨rfl, rfl⟩)
    go_ret
    exact ⟨rfl, rfl⟩
  · subst h1
    have H2 := hid'' h2
    clear h2
    go_enter Tryd.func35, Tryd.ntmps35
    go_wp2_with (go_at_call 33; refine (k1.out _).mono ?_; rintro e w1 ⟨rfl, rfl⟩)
    go_ret
    exact ⟨ret_int (by rw [H2.out]), rfl⟩

set_option maxRecDepth 20000 in
set_option maxHeartbeats 1000000 in
theorem gap_any (s : ByteArray) (w : World) (hs : s.size ≤ 1000000) :
    Calls Tryd.prog 18 #[.string s] w fun e w' => e = .returned (.int .i64 (WP.gap s.data.toList : Nat)) ∧ w' = w := by
  obtain ⟨G, hG⟩ : ∃ G, WP.gap s.data.toList = G := ⟨_, rfl⟩
  rw [hG]
  have HG := hid'' hG
  clear hG
  have HI : Hid (∀ (c : UInt8) W, Calls Tryd.prog 33 #[.string ⟨#[32, 9, 10, 13]⟩, .int .u8 (c.toNat : Int)] W fun e w' => ∃ i : Int, e = .returned (.int .i64 i) ∧ (0 ≤ i ↔ WP.blank c = true) ∧ w' = W) := fun c W => idx_any ⟨#[32, 9, 10, 13]⟩ WP.blank WP.idx_blank c W
  have HH : Hid (∀ k W, Calls Tryd.prog 34 #[.string (s.extract k s.size), .string ⟨#[47, 47]⟩] W fun e w' => e = .returned (.bool (Lib.hasPrefix (s.data.toList.drop k) [47, 47])) ∧ w' = W) := fun k W => by rw [← tail_data]; exact Tryd.strings_HasPrefix _ ⟨#[47, 47]⟩ W
  have HM : Hid (∀ k W, Calls Tryd.prog 35 #[.string (s.extract k s.size)] W fun e w' => e = .returned (.int .i64 (WP.line (s.data.toList.drop k) : Nat)) ∧ w' = W) := fun k W => by rw [← tail_data]; exact remark_any _ W
  go_enter Tryd.func18, Tryd.ntmps18
  go_wp2
  go_loop [3] (fun i => ∃ k : Nat, i = .int .i64 k ∧ k ≤ s.size ∧ G = k + WP.gap (s.data.toList.drop k)) (fun i => s.size - (intOf i).toNat)
  case atStart => exact ⟨0, rfl, Nat.zero_le _, by rw [List.drop_zero, HG.out, Nat.zero_add]⟩
  case round =>
    obtain ⟨k, rfl, hk, hr⟩ := hrel
    have HR := hid'' hr
    clear hr
    cases hl : s.data.toList.drop k with
    | nil =>
      have h0 := drop_nil s k hl
      have hks : k = s.size := by omega
      have HL := hid'' hl
      clear hl
      subst hks
      go_wp2
      go_ret
      exact ⟨ret_int (by rw [HR.out, HL.out]; simp [WP.gap, WP.gaps]), rfl⟩
    | cons c t =>
      obtain ⟨hlt, hc, ht⟩ := at_drop s k c t hl
      have hlin := WP.line_le (s.data.toList.drop k)
      rw [List.length_drop, ← Lib.size_eq] at hlin
      have ki := hid'' (fun W => HI.out c W)
      have kh := hid'' (fun W => HH.out k W)
      have km := hid'' (fun W => HM.out k W)
      obtain ⟨B, hB⟩ : ∃ B, WP.blank c = B := ⟨_, rfl⟩
      rw [hB] at ki
      have HT := hid'' ht
      have HL := hid'' hl
      have HB := hid'' hB
      clear ht hl hB
      cases B with
      | true =>
        clear kh km hlin
        go_wp2_with (go_at_call 33; refine (ki.out _).mono ?_; rintro e w1 ⟨i, rfl, hi, rfl⟩; have hi0 : 0 ≤ i := hi.2 (by trivial); clear hi)
        go_round
        case rel => exact ⟨k + 1, by go_num, by omega, by rw [HR.out, HL.out, HT.out, WP.gap_blank _ _ HB.out]; omega⟩
        case measure => simp [intOf]; omega
      | false =>
        obtain ⟨H, hH⟩ : ∃ H, Lib.hasPrefix (s.data.toList.drop k) [47, 47] = H := ⟨_, rfl⟩
        rw [hH] at kh
        have HP := hid'' hH
        clear hH
        obtain ⟨n, hn⟩ : ∃ n, WP.line (s.data.toList.drop k) = n := ⟨_, rfl⟩
        rw [hn] at km hlin
        have HN := hid'' hn
        clear hn
        cases H with
        | false =>
          have HE : Hid (G = k) := by
            show _ = _
            rw [HR.out, HL.out, WP.gap_none _ _ HB.out (by rw [← HL.out]; exact HP.out), Nat.add_zero]
          clear km hlin
          go_wp2_with (first
            | (go_at_call 33; refine (ki.out _).mono ?_; rintro e w1 ⟨i, rfl, hi, rfl⟩; have hi0 : i < 0 := by { rcases Int.lt_or_le i 0 with h | h; exact h; exact absurd (hi.1 h) (by decide) }; clear hi)
            | (go_at_call 34; refine (kh.out _).mono ?_; rintro e w2 ⟨rfl, rfl⟩))
          go_ret
          exact ⟨ret_int (by rw [HE.out]), rfl⟩
        | true =>
          have HG2 : Hid (G = k + (n + WP.gap (s.data.toList.drop (k + n))) ∧ 0 < n) := by
            have h := WP.gap_remark _ HP.out
            rw [HN.out, List.drop_drop] at h
            exact ⟨by rw [HR.out, h.1], h.2⟩
          have hn0 := HG2.out.2
          go_wp2_with (first
            | (go_at_call 33; refine (ki.out _).mono ?_; rintro e w1 ⟨i, rfl, hi, rfl⟩; have hi0 : i < 0 := by { rcases Int.lt_or_le i 0 with h | h; exact h; exact absurd (hi.1 h) (by decide) }; clear hi)
            | (go_at_call 34; refine (kh.out _).mono ?_; rintro e w2 ⟨rfl, rfl⟩)
            | (go_at_call 35; refine (km.out _).mono ?_; rintro e w2 ⟨rfl, rfl⟩))
          go_round
          case rel => exact ⟨k + n, by go_num, by omega, by rw [HG2.out.1]; omega⟩
          case measure => simp [intOf]; omega

set_option maxRecDepth 20000 in
set_option maxHeartbeats 1000000 in
theorem isReserved_any (s : ByteArray) (w : World) :
    Calls Tryd.prog 38 #[.string s] w fun e w' => e = .returned (.bool (WP.reserved s.data.toList)) ∧ w' = w := by
  by_cases h : s.data.toList ∈ WP.keys
  · have HP : Hid (WP.reserved s.data.toList = true) := List.contains_iff_mem.2 h
    obtain ⟨P, hP⟩ : ∃ P, WP.reserved s.data.toList = P := ⟨_, rfl⟩
    rw [hP] at HP ⊢
    clear hP
    obtain ⟨⟨l⟩⟩ := s
    simp only [WP.keys, List.mem_cons, List.not_mem_nil, or_false] at h
    rcases h with rfl | rfl | rfl | rfl | rfl | rfl | rfl | rfl | rfl | rfl | rfl | rfl | rfl | rfl | rfl | rfl
    all_goals
      go_enter Tryd.func38, Tryd.ntmps38
      go_wp2
      go_ret
      exact ⟨ret_bool HP.out.symm, rfl⟩
  · have HP : Hid (WP.reserved s.data.toList = false) := by
      show _ = _
      rw [WP.reserved, Bool.eq_false_iff]
      exact fun e => h (List.contains_iff_mem.1 e)
    obtain ⟨P, hP⟩ : ∃ P, WP.reserved s.data.toList = P := ⟨_, rfl⟩
    rw [hP] at HP ⊢
    clear hP
    simp only [WP.keys, List.mem_cons, List.not_mem_nil, or_false, not_or] at h
    rw [← Lib.toList_data] at h
    obtain ⟨h0, h1, h2, h3, h4, h5, h6, h7, h8, h9, h10, h11, h12, h13, h14, h15⟩ := h
    have e0 : (s.toList == [105, 99, 111, 110]) = false := by simpa using h0
    have e1 : (s.toList == [115, 99, 97, 108, 101]) = false := by simpa using h1
    have e2 : (s.toList == [99, 111, 110, 115, 116]) = false := by simpa using h2
    have e3 : (s.toList == [99, 111, 108, 111, 114]) = false := by simpa using h3
    have e4 : (s.toList == [115, 104, 97, 112, 101]) = false := by simpa using h4
    have e5 : (s.toList == [102, 105, 108, 108]) = false := by simpa using h5
    have e6 : (s.toList == [101, 118, 101, 110, 111, 100, 100]) = false := by simpa using h6
    have e7 : (s.toList == [110, 111, 110, 122, 101, 114, 111]) = false := by simpa using h7
    have e8 : (s.toList == [108, 105, 110, 101]) = false := by simpa using h8
    have e9 : (s.toList == [108, 105, 110, 101, 97, 114]) = false := by simpa using h9
    have e10 : (s.toList == [114, 97, 100, 105, 97, 108]) = false := by simpa using h10
    have e11 : (s.toList == [112, 97, 116, 104]) = false := by simpa using h11
    have e12 : (s.toList == [117, 115, 101]) = false := by simpa using h12
    have e13 : (s.toList == [97, 116]) = false := by simpa using h13
    have e14 : (s.toList == [98, 121]) = false := by simpa using h14
    have e15 : (s.toList == [116, 117, 114, 110]) = false := by simpa using h15
    clear h0 h1 h2 h3 h4 h5 h6 h7 h8 h9 h10 h11 h12 h13 h14 h15
    go_enter Tryd.func38, Tryd.ntmps38
    go_wp2
    go_ret
    exact ⟨ret_bool HP.out.symm, rfl⟩

end Go.Proofs.YtbniikaebkmbhaaDoor

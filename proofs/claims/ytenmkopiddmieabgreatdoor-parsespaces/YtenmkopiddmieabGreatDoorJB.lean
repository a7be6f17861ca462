import Derived.Test.YtenmkopiddmieabGreatDoorJL
/-
  How far a number, a color goes at a text's front; which words are reserved: walked over the program.
-/
namespace Go.Proofs.YtenmkopiddmieabGreatDoor
open Go.RowKit

theorem mk_data (l : List UInt8) : (⟨l.toArray⟩ : ByteArray).data.toList = l := by simp
theorem size_mk (l : List UInt8) : (⟨l.toArray⟩ : ByteArray).size = l.length := by rw [Lib.size_eq, mk_data]
theorem tail_data (s : ByteArray) (k : Nat) : (s.extract k s.size).data.toList = s.data.toList.drop k := Lib.extract_to_end s k
theorem head_data (s : ByteArray) (k : Nat) : (s.extract 0 k).data.toList = s.data.toList.take k := by rw [Lib.extract_data]; simp
theorem tail_size (s : ByteArray) (k : Nat) : (s.extract k s.size).size = s.size - k := by rw [Lib.size_eq, tail_data, List.length_drop, ← Lib.size_eq]

set_option maxRecDepth 20000 in
theorem colorSize_any (s : ByteArray) (w : World) (hs : s.size ≤ 1000000) (h1 : 1 ≤ s.size) :
    Calls Tryz.prog 43 #[.string s] w fun e w' => e = .returned (.int .i64 (WP.colSize s.data.toList : Nat)) ∧ w' = w := by
  have k1 := hid'' (fun W => count_any _ _ isColorDigit_any ent_cdig (s.extract 1 s.size) W (by rw [tail_size]; omega))
  have k2 := hid'' (fun k W => glued_any (s.extract k s.size) W)
  have hle := WP.count_le WP.cdig (s.data.toList.drop 1)
  have HP : Hid (WP.colSize s.data.toList = if (WP.count WP.cdig (s.data.toList.drop 1) ≠ 6 ∧ WP.count WP.cdig (s.data.toList.drop 1) ≠ 8) ∨ WP.glued (s.data.toList.drop (1 + WP.count WP.cdig (s.data.toList.drop 1))) = true then 0 else 1 + WP.count WP.cdig (s.data.toList.drop 1)) := rfl
  rw [tail_data] at k1
  obtain ⟨P, hP⟩ : ∃ P, WP.colSize s.data.toList = P := ⟨_, rfl⟩
  obtain ⟨n, hn⟩ : ∃ n, WP.count WP.cdig (s.data.toList.drop 1) = n := ⟨_, rfl⟩
  rw [hP] at HP ⊢
  rw [hn] at HP k1 hle
  rw [List.length_drop, ← Lib.size_eq] at hle
  have k3 := hid'' (fun W => k2.out (1 + n) W)
  rw [tail_data] at k3
  obtain ⟨G, hG⟩ : ∃ G, WP.glued (s.data.toList.drop (1 + n)) = G := ⟨_, rfl⟩
  rw [hG] at HP k3
  clear hP hn hG k2
  have d6 : ((n : Int) == 6) = decide (n = 6) := by rw [Bool.eq_iff_iff]; simp; omega
  have d8 : ((n : Int) == 8) = decide (n = 8) := by rw [Bool.eq_iff_iff]; simp; omega
  by_cases h6 : n = 6
  · subst h6
    cases G
    all_goals
      go_enter Tryz.func43, Tryz.ntmps43
      go_wp2_with (first
        | (go_at_call 68; refine (k1.out _).mono ?_; rintro e w1 ⟨rfl, rfl⟩)
        | (go_at_call 73; refine (k3.out _).mono ?_; rintro e w1 ⟨rfl, rfl⟩))
      all_goals go_ret
      all_goals exact ⟨ret_int (by rw [HP.out]; simp), rfl⟩
  · by_cases h8 : n = 8
    · subst h8
      cases G
      all_goals
        go_enter Tryz.func43, Tryz.ntmps43
        go_wp2_with (first
          | (go_at_call 68; refine (k1.out _).mono ?_; rintro e w1 ⟨rfl, rfl⟩)
          | (go_at_call 73; refine (k3.out _).mono ?_; rintro e w1 ⟨rfl, rfl⟩))
        all_goals go_ret
        all_goals exact ⟨ret_int (by rw [HP.out]; simp), rfl⟩
    · have e6 : ((n : Int) == 6) = false := by rw [d6]; simp [h6]
      have e8 : ((n : Int) == 8) = false := by rw [d8]; simp [h8]
      have HN : Hid (n ≠ 6 ∧ n ≠ 8) := ⟨h6, h8⟩
      have f6 : ¬ ((n : Int) = 6) := by omega
      have f8 : ¬ ((n : Int) = 8) := by omega
      clear d6 d8 h6 h8
      go_enter Tryz.func43, Tryz.ntmps43
      go_wp2_with (first
        | (go_at_call 68; refine (k1.out _).mono ?_; rintro e w1 ⟨rfl, rfl⟩)
        | (go_at_call 73; refine (k3.out _).mono ?_; rintro e w1 ⟨rfl, rfl⟩))
      all_goals go_ret
      all_goals exact ⟨ret_int (by rw [HP.out, if_pos (.inl HN.out)]; rfl), rfl⟩

set_option maxRecDepth 20000 in
set_option maxHeartbeats 1000000 in
theorem numberSize_any (s : ByteArray) (w : World) (hs : s.size ≤ 1000000) :
    Calls Tryz.prog 42 #[.string s] w fun e w' => e = .returned (.int .i64 (WP.numSize s.data.toList : Nat)) ∧ w' = w := by
  obtain ⟨r, hr⟩ : ∃ r : ByteArray, r = ⟨(Lib.trimPrefix s.data.toList [45]).toArray⟩ := ⟨_, rfl⟩
  have hrd : r.data.toList = Lib.trimPrefix s.data.toList [45] := by rw [hr]
  have hrz : r.size ≤ s.size := by rw [Lib.size_eq, hrd, Lib.size_eq]; exact Lib.trimPrefix_le _ _
  have k1 : Hid (∀ W, Calls Tryz.prog 70 #[.string s, .string ⟨#[45]⟩] W fun e w' => e = .returned (.string r) ∧ w' = W) := fun W => by rw [hr]; exact Tryz.strings_TrimPrefix s ⟨#[45]⟩ W
  have k2 : Hid (∀ W, Calls Tryz.prog 71 #[.string r] W fun e w' => e = .returned (.int .i64 (WP.digits r.data.toList : Nat)) ∧ w' = W) := fun W => digits_any r W (by omega)
  have hn := WP.digits_le r.data.toList
  rw [← Lib.size_eq] at hn
  have HS : Hid (WP.numSize s.data.toList = match WP.numRest s.data.toList with | none => 0 | some r => s.data.toList.length - r.length) := rfl
  have HR : Hid (WP.numRest s.data.toList = if WP.digits r.data.toList = 0 then none else if Lib.hasPrefix (r.data.toList.drop (WP.digits r.data.toList)) [46] then (if WP.digits (Lib.trimPrefix (r.data.toList.drop (WP.digits r.data.toList)) [46]) = 0 then none else if WP.glued ((Lib.trimPrefix (r.data.toList.drop (WP.digits r.data.toList)) [46]).drop (WP.digits (Lib.trimPrefix (r.data.toList.drop (WP.digits r.data.toList)) [46]))) then none else some ((Lib.trimPrefix (r.data.toList.drop (WP.digits r.data.toList)) [46]).drop (WP.digits (Lib.trimPrefix (r.data.toList.drop (WP.digits r.data.toList)) [46])))) else if WP.glued (r.data.toList.drop (WP.digits r.data.toList)) then none else some (r.data.toList.drop (WP.digits r.data.toList))) := by rw [hrd]; rfl
  rw [← Lib.size_eq] at HS
  obtain ⟨S, hS⟩ : ∃ S, WP.numSize s.data.toList = S := ⟨_, rfl⟩
  obtain ⟨X, hX⟩ : ∃ X, WP.numRest s.data.toList = X := ⟨_, rfl⟩
  obtain ⟨n, hnn⟩ : ∃ n, WP.digits r.data.toList = n := ⟨_, rfl⟩
  rw [hS] at HS ⊢
  rw [hX] at HS HR
  rw [hnn] at HR k2 hn
  rw [← tail_data] at HR
  obtain ⟨r1, hr1⟩ : ∃ r1 : ByteArray, r.extract n r.size = r1 := ⟨_, rfl⟩
  have hz1 : r1.size = r.size - n := by rw [← hr1, tail_size]
  rw [hr1] at HR
  clear hS hX hnn hr hrd
  by_cases h0 : n = 0
  · subst h0
    have HX : Hid (X = none) := by rw [HR.out]; rfl
    clear HR
    go_enter Tryz.func42, Tryz.ntmps42
    go_wp2_with (first
      | (go_at_call 70; refine (k1.out _).mono ?_; rintro e w1 ⟨rfl, rfl⟩)
      | (go_at_call 71; refine (k2.out _).mono ?_; rintro e w1 ⟨rfl, rfl⟩))
    go_ret
    exact ⟨ret_int (by rw [HS.out, HX.out]; rfl), rfl⟩
  rw [if_neg h0] at HR
  have d0 : ((n : Int) == 0) = false := by simp; omega
  obtain ⟨b, hb⟩ : ∃ b : ByteArray, b = ⟨(Lib.trimPrefix r1.data.toList [46]).toArray⟩ := ⟨_, rfl⟩
  have hbd : b.data.toList = Lib.trimPrefix r1.data.toList [46] := by rw [hb]
  have hbz : b.size ≤ r1.size := by rw [Lib.size_eq, hbd, Lib.size_eq]; exact Lib.trimPrefix_le _ _
  have k3 : Hid (∀ W, Calls Tryz.prog 72 #[.string (r.extract n r.size), .string ⟨#[46]⟩] W fun e w' => e = .returned (.tuple #[.string b, .bool (Lib.hasPrefix r1.data.toList [46])]) ∧ w' = W) := fun W => by rw [hb, hr1]; exact Tryz.strings_CutPrefix r1 ⟨#[46]⟩ W
  rw [← hbd] at HR
  obtain ⟨H, hH⟩ : ∃ H, Lib.hasPrefix r1.data.toList [46] = H := ⟨_, rfl⟩
  rw [hH] at HR k3
  clear hH hb hbd
  cases H with
  | false =>
    rw [if_neg Bool.false_ne_true] at HR
    have k4 : Hid (∀ W, Calls Tryz.prog 73 #[.string (r.extract n r.size)] W fun e w' => e = .returned (.bool (WP.glued r1.data.toList)) ∧ w' = W) := fun W => by rw [hr1]; exact glued_any r1 W
    have HL : Hid (r1.data.toList.length = (r.extract n r.size).size) := by show _ = _; rw [hr1, Lib.size_eq]
    have HZ : Hid ((r.extract n r.size).size = r.size - n) := by show _ = _; rw [hr1]; exact hz1
    obtain ⟨G, hG⟩ : ∃ G, WP.glued r1.data.toList = G := ⟨_, rfl⟩
    rw [hG] at HR k4
    clear hG hr1 hz1 hbz
    cases G
    · have HX : Hid (X = some r1.data.toList) := by rw [HR.out]; rfl
      clear HR
      go_enter Tryz.func42, Tryz.ntmps42
      go_wp2_with (first
        | (go_at_call 70; refine (k1.out _).mono ?_; rintro e w1 ⟨rfl, rfl⟩)
        | (go_at_call 71; refine (k2.out _).mono ?_; rintro e w1 ⟨rfl, rfl⟩)
        | (go_at_call 72; refine (k3.out _).mono ?_; rintro e w1 ⟨rfl, rfl⟩)
        | (go_at_call 73; refine (k4.out _).mono ?_; rintro e w1 ⟨rfl, rfl⟩))
      go_ret
      exact ⟨ret_int (by rw [HS.out, HX.out]; simp only [HL.out, HZ.out]; omega), rfl⟩
    · have HX : Hid (X = none) := by rw [HR.out]; rfl
      clear HR
      go_enter Tryz.func42, Tryz.ntmps42
      go_wp2_with (first
        | (go_at_call 70; refine (k1.out _).mono ?_; rintro e w1 ⟨rfl, rfl⟩)
        | (go_at_call 71; refine (k2.out _).mono ?_; rintro e w1 ⟨rfl, rfl⟩)
        | (go_at_call 72; refine (k3.out _).mono ?_; rintro e w1 ⟨rfl, rfl⟩)
        | (go_at_call 73; refine (k4.out _).mono ?_; rintro e w1 ⟨rfl, rfl⟩))
      go_ret
      exact ⟨ret_int (by rw [HS.out, HX.out]; rfl), rfl⟩
  | true =>
    rw [if_pos rfl] at HR
    have k5 : Hid (∀ W, Calls Tryz.prog 71 #[.string b] W fun e w' => e = .returned (.int .i64 (WP.digits b.data.toList : Nat)) ∧ w' = W) := fun W => digits_any b W (by omega)
    have hm := WP.digits_le b.data.toList
    rw [← Lib.size_eq] at hm
    obtain ⟨m, hmm⟩ : ∃ m, WP.digits b.data.toList = m := ⟨_, rfl⟩
    rw [hmm] at HR k5 hm
    have k4 : Hid (∀ W, Calls Tryz.prog 73 #[.string (b.extract m b.size)] W fun e w' => e = .returned (.bool (WP.glued (b.data.toList.drop m))) ∧ w' = W) := fun W => by rw [← tail_data]; exact glued_any _ W
    have HZ : Hid ((b.data.toList.drop m).length = b.size - m) := by show _ = _; rw [List.length_drop, ← Lib.size_eq]
    obtain ⟨D, hD⟩ : ∃ D, b.data.toList.drop m = D := ⟨_, rfl⟩
    rw [hD] at HR k4 HZ
    obtain ⟨G, hG⟩ : ∃ G, WP.glued D = G := ⟨_, rfl⟩
    rw [hG] at HR k4
    clear hG hD hmm hr1
    by_cases g0 : m = 0
    · subst g0
      have HX : Hid (X = none) := by rw [HR.out]; rfl
      clear HR
      go_enter Tryz.func42, Tryz.ntmps42
      go_wp2_with (first
        | (go_at_call 70; refine (k1.out _).mono ?_; rintro e w1 ⟨rfl, rfl⟩)
        | (have v3 := u3; go_at_call 71; refine (k5.out _).mono ?_; rintro e w1 ⟨rfl, rfl⟩)
        | (go_at_call 71; refine (k2.out _).mono ?_; rintro e w1 ⟨rfl, rfl⟩)
        | (go_at_call 72; refine (k3.out _).mono ?_; rintro e w1 ⟨rfl, rfl⟩; have u3 : True := trivial)
        | (go_at_call 73; refine (k4.out _).mono ?_; rintro e w1 ⟨rfl, rfl⟩))
      go_ret
      exact ⟨ret_int (by rw [HS.out, HX.out]; rfl), rfl⟩
    rw [if_neg g0] at HR
    have e0 : ((m : Int) == 0) = false := by simp; omega
    cases G
    · have HX : Hid (X = some D) := by rw [HR.out]; rfl
      clear HR
      go_enter Tryz.func42, Tryz.ntmps42
      go_wp2_with (first
        | (go_at_call 70; refine (k1.out _).mono ?_; rintro e w1 ⟨rfl, rfl⟩)
        | (have v3 := u3; go_at_call 71; refine (k5.out _).mono ?_; rintro e w1 ⟨rfl, rfl⟩)
        | (go_at_call 71; refine (k2.out _).mono ?_; rintro e w1 ⟨rfl, rfl⟩)
        | (go_at_call 72; refine (k3.out _).mono ?_; rintro e w1 ⟨rfl, rfl⟩; have u3 : True := trivial)
        | (go_at_call 73; refine (k4.out _).mono ?_; rintro e w1 ⟨rfl, rfl⟩))
      go_ret
      exact ⟨ret_int (by rw [HS.out, HX.out]; simp only [HZ.out]; omega), rfl⟩
    · have HX : Hid (X = none) := by rw [HR.out]; rfl
      clear HR
      go_enter Tryz.func42, Tryz.ntmps42
      go_wp2_with (first
        | (go_at_call 70; refine (k1.out _).mono ?_; rintro e w1 ⟨rfl, rfl⟩)
        | (have v3 := u3; go_at_call 71; refine (k5.out _).mono ?_; rintro e w1 ⟨rfl, rfl⟩)
        | (go_at_call 71; refine (k2.out _).mono ?_; rintro e w1 ⟨rfl, rfl⟩)
        | (go_at_call 72; refine (k3.out _).mono ?_; rintro e w1 ⟨rfl, rfl⟩; have u3 : True := trivial)
        | (go_at_call 73; refine (k4.out _).mono ?_; rintro e w1 ⟨rfl, rfl⟩))
      go_ret
      exact ⟨ret_int (by rw [HS.out, HX.out]; rfl), rfl⟩

end Go.Proofs.YtenmkopiddmieabGreatDoor

/-
  The word at a text's front, what lies between words: walked over the program.
-/
namespace Go.Proofs.YtenmkopiddmieabGreatDoor
open Go.RowKit

namespace WP
theorem byteAll (p : UInt8 → Prop) (h : ∀ n : Fin 256, p (UInt8.ofFin n)) (c : UInt8) : p c := h c.toFin
theorem idx_blank (c : UInt8) : (0 ≤ Lib.indexByte [32, 9, 10, 13] c) ↔ blank c = true := byteAll (fun c => (0 ≤ Lib.indexByte [32, 9, 10, 13] c) ↔ blank c = true) (by decide +kernel) c
theorem idx_mark (c : UInt8) : (0 ≤ Lib.indexByte [123, 125, 59, 61] c) ↔ mark c = true := byteAll (fun c => (0 ≤ Lib.indexByte [123, 125, 59, 61] c) ↔ mark c = true) (by decide +kernel) c
theorem idx_step (c : UInt8) : (0 ≤ Lib.indexByte [77, 76, 81, 67, 65, 66, 90] c) ↔ step c = true := byteAll (fun c => (0 ≤ Lib.indexByte [77, 76, 81, 67, 65, 66, 90] c) ↔ step c = true) (by decide +kernel) c

theorem idx_line (l : List UInt8) : (0 ≤ Lib.indexByte l 10 ∧ Lib.indexByte l 10 = (line l : Int)) ∨ (Lib.indexByte l 10 = -1 ∧ line l = l.length) := by
  induction l with
  | nil => exact .inr ⟨rfl, rfl⟩
  | cons c l ih =>
    unfold Lib.indexByte line
    by_cases h : c = 10
    · subst h; exact .inl (by simp)
    · have h1 : ¬ c.toNat = 10 := fun e => h (UInt8.toNat_inj.1 e)
      have h2 : (c == 10) = false := by simpa using h
      rw [if_neg h1, h2, if_neg Bool.false_ne_true]
      rcases ih with ⟨i1, i2⟩ | ⟨i1, i2⟩
      · left
        have h3 : (Lib.indexByte l 10 == -1) = false := by simp; omega
        rw [h3, if_neg Bool.false_ne_true]
        constructor
        · omega
        · rw [i2]; push_cast; rfl
      · right
        rw [i1]
        exact ⟨rfl, by rw [i2]; rfl⟩
end WP

theorem toByte (c : UInt8) : ((c.toNat : Int)).toNat.toUInt8 = c := by simp

theorem idx_any (s : ByteArray) (p : UInt8 → Bool) (hp : ∀ c, (0 ≤ Lib.indexByte s.data.toList c) ↔ p c = true) (c : UInt8) (w : World) :
    Calls Tryz.prog 35 #[.string s, .int .u8 (c.toNat : Int)] w fun e w' => ∃ i : Int, e = .returned (.int .i64 i) ∧ (0 ≤ i ↔ p c = true) ∧ w' = w :=
  (Tryz.strings_IndexByte s (c.toNat : Int) w).mono (by rintro e w' ⟨rfl, rfl⟩; exact ⟨_, rfl, by rw [toByte]; exact hp c, rfl⟩)

theorem remark_any (s : ByteArray) (w : World) :
    Calls Tryz.prog 37 #[.string s] w fun e w' => e = .returned (.int .i64 (WP.line s.data.toList : Nat)) ∧ w' = w := by
  have k1 : Hid (∀ W, Calls Tryz.prog 35 #[.string s, .int .u8 10] W fun e w' => e = .returned (.int .i64 (Lib.indexByte s.data.toList 10)) ∧ w' = W) := fun W => Tryz.strings_IndexByte s 10 W
  have hL := WP.idx_line s.data.toList
  obtain ⟨n, hn⟩ : ∃ n, WP.line s.data.toList = n := ⟨_, rfl⟩
  rw [hn] at hL ⊢
  rw [← Lib.size_eq] at hL
  obtain ⟨i, hi⟩ : ∃ i, Lib.indexByte s.data.toList 10 = i := ⟨_, rfl⟩
  rw [hi] at hL k1
  clear hn hi
  rcases hL with ⟨h1, h2⟩ | ⟨h1, h2⟩
  · subst h2
    go_enter Tryz.func37, Tryz.ntmps37
    go_wp2_with (go_at_call 35; refine (k1.out _).mono ?_; rintro e w1 ⟨rfl, rfl⟩)
    go_ret
    exact ⟨rfl, rfl⟩
  · subst h1
    have H2 := hid'' h2
    clear h2
    go_enter Tryz.func37, Tryz.ntmps37
    go_wp2_with (go_at_call 35; refine (k1.out _).mono ?_; rintro e w1 ⟨rfl, rfl⟩)
    go_ret
    exact ⟨ret_int (by rw [H2.out]), rfl⟩

set_option maxRecDepth 20000 in
set_option maxHeartbeats 1000000 in
theorem gap_any (s : ByteArray) (w : World) (hs : s.size ≤ 1000000) :
    Calls Tryz.prog 23 #[.string s] w fun e w' => e = .returned (.int .i64 (WP.gap s.data.toList : Nat)) ∧ w' = w := by
  obtain ⟨G, hG⟩ : ∃ G, WP.gap s.data.toList = G := ⟨_, rfl⟩
  rw [hG]
  have HG := hid'' hG
  clear hG
  have HI : Hid (∀ (c : UInt8) W, Calls Tryz.prog 35 #[.string ⟨#[32, 9, 10, 13]⟩, .int .u8 (c.toNat : Int)] W fun e w' => ∃ i : Int, e = .returned (.int .i64 i) ∧ (0 ≤ i ↔ WP.blank c = true) ∧ w' = W) := fun c W => idx_any ⟨#[32, 9, 10, 13]⟩ WP.blank WP.idx_blank c W
  have HH : Hid (∀ k W, Calls Tryz.prog 36 #[.string (s.extract k s.size), .string ⟨#[47, 47]⟩] W fun e w' => e = .returned (.bool (Lib.hasPrefix (s.data.toList.drop k) [47, 47])) ∧ w' = W) := fun k W => by rw [← tail_data]; exact Tryz.strings_HasPrefix _ ⟨#[47, 47]⟩ W
  have HM : Hid (∀ k W, Calls Tryz.prog 37 #[.string (s.extract k s.size)] W fun e w' => e = .returned (.int .i64 (WP.line (s.data.toList.drop k) : Nat)) ∧ w' = W) := fun k W => by rw [← tail_data]; exact remark_any _ W
  go_enter Tryz.func23, Tryz.ntmps23
  go_wp2
  go_loop [3] (fun i => ∃ k : Nat, i = .int .i64 k ∧ k ≤ s.size ∧ G = k + WP.gap (s.data.toList.drop k)) (fun i => s.size - (intOf i).toNat)
  case atStart => exact ⟨0, rfl, Nat.zero_le _, by rw [List.drop_zero, HG.out, Nat.zero_add]⟩
  case round =>
    obtain ⟨k, rfl, hk, hr⟩ := hrel
    have HR := hid'' hr
    clear hr
    cases hl : s.data.toList.drop k with
    | nil =>
      have h0 := drop_nil s k hl
      have hks : k = s.size := by omega
      have HL := hid'' hl
      clear hl
      subst hks
      go_wp2
      go_ret
      exact ⟨ret_int (by rw [HR.out, HL.out]; simp [WP.gap, WP.gaps]), rfl⟩
    | cons c t =>
      obtain ⟨hlt, hc, ht⟩ := at_drop s k c t hl
      have hlin := WP.line_le (s.data.toList.drop k)
      rw [List.length_drop, ← Lib.size_eq] at hlin
      have ki := hid'' (fun W => HI.out c W)
      have kh := hid'' (fun W => HH.out k W)
      have km := hid'' (fun W => HM.out k W)
      obtain ⟨B, hB⟩ : ∃ B, WP.blank c = B := ⟨_, rfl⟩
      rw [hB] at ki
      have HT := hid'' ht
      have HL := hid'' hl
      have HB := hid'' hB
      clear ht hl hB
      cases B with
      | true =>
        clear kh km hlin
        go_wp2_with (go_at_call 35; refine (ki.out _).mono ?_; rintro e w1 ⟨i, rfl, hi, rfl⟩; have hi0 : 0 ≤ i := hi.2 (by trivial); clear hi)
        go_round
        case rel => exact ⟨k + 1, by go_num, by omega, by rw [HR.out, HL.out, HT.out, WP.gap_blank _ _ HB.out]; omega⟩
        case measure => simp [intOf]; omega
      | false =>
        obtain ⟨H, hH⟩ : ∃ H, Lib.hasPrefix (s.data.toList.drop k) [47, 47] = H := ⟨_, rfl⟩
        rw [hH] at kh
        have HP := hid'' hH
        clear hH
        obtain ⟨n, hn⟩ : ∃ n, WP.line (s.data.toList.drop k) = n := ⟨_, rfl⟩
        rw [hn] at km hlin
        have HN := hid'' hn
        clear hn
        cases H with
        | false =>
          have HE : Hid (G = k) := by
            show _ = _
            rw [HR.out, HL.out, WP.gap_none _ _ HB.out (by rw [← HL.out]; exact HP.out), Nat.add_zero]
          clear km hlin
          go_wp2_with (first
            | (go_at_call 35; refine (ki.out _).mono ?_; rintro e w1 ⟨i, rfl, hi, rfl⟩; have hi0 : i < 0 := by { rcases Int.lt_or_le i 0 with h | h; exact h; exact absurd (hi.1 h) (by decide) }; clear hi)
            | (go_at_call 36; refine (kh.out _).mono ?_; rintro e w2 ⟨rfl, rfl⟩))
          go_ret
          exact ⟨ret_int (by rw [HE.out]), rfl⟩
        | true =>
          have HG2 : Hid (G = k + (n + WP.gap (s.data.toList.drop (k + n))) ∧ 0 < n) := by
            have h := WP.gap_remark _ HP.out
            rw [HN.out, List.drop_drop] at h
            exact ⟨by rw [HR.out, h.1], h.2⟩
          have hn0 := HG2.out.2
          go_wp2_with (first
            | (go_at_call 35; refine (ki.out _).mono ?_; rintro e w1 ⟨i, rfl, hi, rfl⟩; have hi0 : i < 0 := by { rcases Int.lt_or_le i 0 with h | h; exact h; exact absurd (hi.1 h) (by decide) }; clear hi)
            | (go_at_call 36; refine (kh.out _).mono ?_; rintro e w2 ⟨rfl, rfl⟩)
            | (go_at_call 37; refine (km.out _).mono ?_; rintro e w2 ⟨rfl, rfl⟩))
          go_round
          case rel => exact ⟨k + n, by go_num, by omega, by rw [HG2.out.1]; omega⟩
          case measure => simp [intOf]; omega

set_option maxRecDepth 20000 in
set_option maxHeartbeats 1000000 in
theorem isReserved_any (s : ByteArray) (w : World) :
    Calls Tryz.prog 40 #[.string s] w fun e w' => e = .returned (.bool (WP.reserved s.data.toList)) ∧ w' = w := by
  by_cases h : s.data.toList ∈ WP.keys
  · have HP : Hid (WP.reserved s.data.toList = true) := List.contains_iff_mem.2 h
    obtain ⟨P, hP⟩ : ∃ P, WP.reserved s.data.toList = P := ⟨_, rfl⟩
    rw [hP] at HP ⊢
    clear hP
    obtain ⟨⟨l⟩⟩ := s
    simp only [WP.keys, List.mem_cons, List.not_mem_nil, or_false] at h
    rcases h with rfl | rfl | rfl | rfl | rfl | rfl | rfl | rfl | rfl | rfl | rfl | rfl | rfl | rfl | rfl | rfl
    all_goals
      go_enter Tryz.func40, Tryz.ntmps40
      go_wp2
      go_ret
      exact ⟨ret_bool HP.out.symm, rfl⟩
  · have HP : Hid (WP.reserved s.data.toList = false) := by
      show _ = _
      rw [WP.reserved, Bool.eq_false_iff]
      exact fun e => h (List.contains_iff_mem.1 e)
    obtain ⟨P, hP⟩ : ∃ P, WP.reserved s.data.toList = P := ⟨_, rfl⟩
    rw [hP] at HP ⊢
    clear hP
    simp only [WP.keys, List.mem_cons, List.not_mem_nil, or_false, not_or] at h
    rw [← Lib.toList_data] at h
    obtain ⟨h0, h1, h2, h3, h4, h5, h6, h7, h8, h9, h10, h11, h12, h13, h14, h15⟩ := h
    have e0 : (s.toList == [105, 99, 111, 110]) = false := by simpa using h0
    have e1 : (s.toList == [115, 99, 97, 108, 101]) = false := by simpa using h1
    have e2 : (s.toList == [99, 111, 110, 115, 116]) = false := by simpa using h2
    have e3 : (s.toList == [99, 111, 108, 111, 114]) = false := by simpa using h3
    have e4 : (s.toList == [115, 104, 97, 112, 101]) = false := by simpa using h4
    have e5 : (s.toList == [102, 105, 108, 108]) = false := by simpa using h5
    have e6 : (s.toList == [101, 118, 101, 110, 111, 100, 100]) = false := by simpa using h6
    have e7 : (s.toList == [110, 111, 110, 122, 101, 114, 111]) = false := by simpa using h7
    have e8 : (s.toList == [108, 105, 110, 101]) = false := by simpa using h8
    have e9 : (s.toList == [108, 105, 110, 101, 97, 114]) = false := by simpa using h9
    have e10 : (s.toList == [114, 97, 100, 105, 97, 108]) = false := by simpa using h10
    have e11 : (s.toList == [112, 97, 116, 104]) = false := by simpa using h11
    have e12 : (s.toList == [117, 115, 101]) = false := by simpa using h12
    have e13 : (s.toList == [97, 116]) = false := by simpa using h13
    have e14 : (s.toList == [98, 121]) = false := by simpa using h14
    have e15 : (s.toList == [116, 117, 114, 110]) = false := by simpa using h15
    clear h0 h1 h2 h3 h4 h5 h6 h7 h8 h9 h10 h11 h12 h13 h14 h15
    go_enter Tryz.func40, Tryz.ntmps40
    go_wp2
    go_ret
    exact ⟨ret_bool HP.out.symm, rfl⟩

end Go.Proofs.YtenmkopiddmieabGreatDoor

/-
  The word at a text's front: walked over the program.
-/
namespace Go.Proofs.YtenmkopiddmieabGreatDoor
open Go.RowKit

def FstPost (w : World) (p : Nat × Nat) (e : Ending) (w' : World) : Prop := e = .returned (.tuple #[.int .i64 (p.1 : Nat), .int .i64 (p.2 : Nat)]) ∧ w' = w

set_option maxRecDepth 20000 in
set_option maxHeartbeats 1000000 in
theorem first_any (s : ByteArray) (w : World) (hs : s.size ≤ 1000000) :
    Calls Tryz.prog 24 #[.string s] w (FstPost w (WP.first s.data.toList)) := by
  cases hl : s.data.toList with
  | nil =>
    have hs : s = ⟨#[]⟩ := ByteArray.ext (Array.toList_eq_nil_iff.1 hl)
    subst hs
    clear hl
    go_enter Tryz.func24, Tryz.ntmps24
    go_wp2
    exact bodyPost_ret (v := .tuple #[.int .i64 0, .int .i64 0]) (by simp [results, Tryz.results24, go_sem]) rfl ⟨rfl, rfl⟩
  | cons c t =>
    obtain ⟨hlt, hc, ht⟩ := at_drop s 0 c t hl
    have hne : s.toList.isEmpty = false := by rw [Lib.toList_data, hl]; rfl
    have ks := hid'' (fun W => isSmall_any c W)
    have kd := hid'' (fun W => isDigit_any c W)
    have kn := hid'' (fun W => nameSize_any s W (by omega))
    have kr := hid'' (fun k W => isReserved_any (s.extract 0 k) W)
    have ku := hid'' (fun W => numberSize_any s W hs)
    have kc := hid'' (fun W => colorSize_any s W hs hlt)
    have km : Hid (∀ W, Calls Tryz.prog 35 #[.string ⟨#[123, 125, 59, 61]⟩, .int .u8 (c.toNat : Int)] W fun e w' => ∃ i : Int, e = .returned (.int .i64 i) ∧ (0 ≤ i ↔ WP.mark c = true) ∧ w' = W) := fun W => idx_any ⟨#[123, 125, 59, 61]⟩ WP.mark WP.idx_mark c W
    have kt : Hid (∀ W, Calls Tryz.prog 35 #[.string ⟨#[77, 76, 81, 67, 65, 66, 90]⟩, .int .u8 (c.toNat : Int)] W fun e w' => ∃ i : Int, e = .returned (.int .i64 i) ∧ (0 ≤ i ↔ WP.step c = true) ∧ w' = W) := fun W => idx_any ⟨#[77, 76, 81, 67, 65, 66, 90]⟩ WP.step WP.idx_step c W
    have kb := hid'' (fun W => begins_any _ _ isSign_any ent_sign (s.extract 1 s.size) W)
    rw [tail_data] at kb
    rw [show s.data.toList.drop 1 = t from ht] at kb
    have hnl := WP.nameSize_le s.data.toList
    rw [← Lib.size_eq] at hnl
    have HF : Hid (WP.first (c :: t) = if WP.small c then (if WP.reserved (s.data.toList.take (WP.nameSize s.data.toList)) then (2, WP.nameSize s.data.toList) else (1, WP.nameSize s.data.toList)) else if c.toNat = 45 ∨ WP.digit c = true then (3, WP.numSize s.data.toList) else if c.toNat = 35 then (4, WP.colSize s.data.toList) else if WP.mark c then (5, 1) else if WP.step c && !WP.begins WP.sign t then (6, 1) else (0, 0)) := by rw [hl]; rfl
    obtain ⟨F, hF⟩ : ∃ F, WP.first (c :: t) = F := ⟨_, rfl⟩
    rw [hF] at HF ⊢
    obtain ⟨n, hn⟩ : ∃ n, WP.nameSize s.data.toList = n := ⟨_, rfl⟩
    rw [hn] at HF kn hnl
    have kr' := hid'' (fun W => kr.out n W)
    rw [head_data] at kr'
    obtain ⟨R, hR⟩ : ∃ R, WP.reserved (s.data.toList.take n) = R := ⟨_, rfl⟩
    rw [hR] at HF kr'
    obtain ⟨u, hu⟩ : ∃ u, WP.numSize s.data.toList = u := ⟨_, rfl⟩
    rw [hu] at HF ku
    obtain ⟨o, ho⟩ : ∃ o, WP.colSize s.data.toList = o := ⟨_, rfl⟩
    rw [ho] at HF kc
    obtain ⟨S, hS⟩ : ∃ S, WP.small c = S := ⟨_, rfl⟩
    rw [hS] at HF ks
    obtain ⟨D, hD⟩ : ∃ D, WP.digit c = D := ⟨_, rfl⟩
    rw [hD] at HF kd
    obtain ⟨M, hM⟩ : ∃ M, WP.mark c = M := ⟨_, rfl⟩
    rw [hM] at HF km
    obtain ⟨T, hT⟩ : ∃ T, WP.step c = T := ⟨_, rfl⟩
    rw [hT] at HF kt
    obtain ⟨B, hB⟩ : ∃ B, WP.begins WP.sign t = B := ⟨_, rfl⟩
    rw [hB] at HF kb
    clear hF hn hR hu ho hS hD hM hT hB hl ht kr
    cases S with
    | true =>
      clear kd ku kc km kt kb
      cases R
      all_goals
        go_enter Tryz.func24, Tryz.ntmps24
        go_wp2_with (first
          | (go_at_call 38; refine (ks.out _).mono ?_; rintro e w1 ⟨rfl, rfl⟩)
          | (go_at_call 39; refine (kn.out _).mono ?_; rintro e w1 ⟨rfl, rfl⟩)
          | (go_at_call 40; refine (kr'.out _).mono ?_; rintro e w1 ⟨rfl, rfl⟩))
      · refine bodyPost_ret (v := .tuple #[.int .i64 1, .int .i64 n]) (by simp [results, Tryz.results24, go_sem]) rfl ⟨?_, rfl⟩
        rw [HF.out]; rfl
      · refine bodyPost_ret (v := .tuple #[.int .i64 2, .int .i64 n]) (by simp [results, Tryz.results24, go_sem]) rfl ⟨?_, rfl⟩
        rw [HF.out]; rfl
    | false =>
      clear kn kr' hnl
      by_cases h45 : c.toNat = 45
      · have d45 : ((c.toNat : Int) == 45) = true := by rw [h45]; rfl
        have HX : Hid (F = (3, u)) := by show _ = _; rw [HF.out, if_neg Bool.false_ne_true, if_pos (.inl h45)]
        clear h45 HF
        go_enter Tryz.func24, Tryz.ntmps24
        go_wp2_with (first
          | (go_at_call 38; refine (ks.out _).mono ?_; rintro e w1 ⟨rfl, rfl⟩)
          | (go_at_call 41; refine (kd.out _).mono ?_; rintro e w1 ⟨rfl, rfl⟩)
          | (go_at_call 42; refine (ku.out _).mono ?_; rintro e w1 ⟨rfl, rfl⟩))
        refine bodyPost_ret (v := .tuple #[.int .i64 3, .int .i64 u]) (by simp [results, Tryz.results24, go_sem]) rfl ⟨?_, rfl⟩
        rw [HX.out]; rfl
      have d45 : ((c.toNat : Int) == 45) = false := by simp; omega
      cases D with
      | true =>
        have HX : Hid (F = (3, u)) := by show _ = _; rw [HF.out, if_neg Bool.false_ne_true, if_pos (.inr rfl)]
        clear h45 HF
        go_enter Tryz.func24, Tryz.ntmps24
        go_wp2_with (first
          | (go_at_call 38; refine (ks.out _).mono ?_; rintro e w1 ⟨rfl, rfl⟩)
          | (go_at_call 41; refine (kd.out _).mono ?_; rintro e w1 ⟨rfl, rfl⟩)
          | (go_at_call 42; refine (ku.out _).mono ?_; rintro e w1 ⟨rfl, rfl⟩))
        refine bodyPost_ret (v := .tuple #[.int .i64 3, .int .i64 u]) (by simp [results, Tryz.results24, go_sem]) rfl ⟨?_, rfl⟩
        rw [HX.out]; rfl
      | false =>
        clear ku
        rw [if_neg Bool.false_ne_true, if_neg (by simp [h45])] at HF
        by_cases h35 : c.toNat = 35
        · have d35 : ((c.toNat : Int) == 35) = true := by rw [h35]; rfl
          have HX : Hid (F = (4, o)) := by show _ = _; rw [HF.out, if_pos h35]
          clear h45 h35 HF
          go_enter Tryz.func24, Tryz.ntmps24
          go_wp2_with (first
            | (go_at_call 38; refine (ks.out _).mono ?_; rintro e w1 ⟨rfl, rfl⟩)
            | (go_at_call 41; refine (kd.out _).mono ?_; rintro e w1 ⟨rfl, rfl⟩)
            | (go_at_call 43; refine (kc.out _).mono ?_; rintro e w1 ⟨rfl, rfl⟩))
          refine bodyPost_ret (v := .tuple #[.int .i64 4, .int .i64 o]) (by simp [results, Tryz.results24, go_sem]) rfl ⟨?_, rfl⟩
          rw [HX.out]; rfl
        have d35 : ((c.toNat : Int) == 35) = false := by simp; omega
        clear kc
        rw [if_neg h35] at HF
        clear h45 h35
        cases M with
        | true =>
          go_enter Tryz.func24, Tryz.ntmps24
          go_wp2_with (first
            | (go_at_call 38; refine (ks.out _).mono ?_; rintro e w1 ⟨rfl, rfl⟩)
            | (go_at_call 41; refine (kd.out _).mono ?_; rintro e w1 ⟨rfl, rfl⟩)
            | (go_at_call 35; refine (km.out _).mono ?_; rintro e w1 ⟨i, rfl, hi, rfl⟩; have hi0 : 0 ≤ i := hi.2 (by trivial); clear hi))
          refine bodyPost_ret (v := .tuple #[.int .i64 5, .int .i64 1]) (by simp [results, Tryz.results24, go_sem]) rfl ⟨?_, rfl⟩
          rw [HF.out]; rfl
        | false =>
          cases T with
          | false =>
            go_enter Tryz.func24, Tryz.ntmps24
            go_wp2_with (first
              | (go_at_call 38; refine (ks.out _).mono ?_; rintro e w1 ⟨rfl, rfl⟩)
              | (go_at_call 41; refine (kd.out _).mono ?_; rintro e w1 ⟨rfl, rfl⟩)
              | (have v1 := u1; go_at_call 35; refine (kt.out _).mono ?_; rintro e w1 ⟨j, rfl, hj, rfl⟩; have hj0 : j < 0 := by { rcases Int.lt_or_le j 0 with h | h; exact h; exact absurd (hj.1 h) (by decide) }; clear hj)
              | (go_at_call 35; refine (km.out _).mono ?_; rintro e w1 ⟨i, rfl, hi, rfl⟩; have hi0 : i < 0 := by { rcases Int.lt_or_le i 0 with h | h; exact h; exact absurd (hi.1 h) (by decide) }; clear hi; have u1 : True := trivial)
              | (go_at_call 44; refine (kb.out _).mono ?_; rintro e w1 ⟨rfl, rfl⟩))
            refine bodyPost_ret (v := .tuple #[.int .i64 0, .int .i64 0]) (by simp [results, Tryz.results24, go_sem]) rfl ⟨?_, rfl⟩
            rw [HF.out]; rfl
          | true =>
            cases B
            all_goals
              go_enter Tryz.func24, Tryz.ntmps24
              go_wp2_with (first
                | (go_at_call 38; refine (ks.out _).mono ?_; rintro e w1 ⟨rfl, rfl⟩)
                | (go_at_call 41; refine (kd.out _).mono ?_; rintro e w1 ⟨rfl, rfl⟩)
                | (have v1 := u1; go_at_call 35; refine (kt.out _).mono ?_; rintro e w1 ⟨j, rfl, hj, rfl⟩; have hj0 : 0 ≤ j := hj.2 (by trivial); clear hj)
                | (go_at_call 35; refine (km.out _).mono ?_; rintro e w1 ⟨i, rfl, hi, rfl⟩; have hi0 : i < 0 := by { rcases Int.lt_or_le i 0 with h | h; exact h; exact absurd (hi.1 h) (by decide) }; clear hi; have u1 : True := trivial)
                | (go_at_call 44; refine (kb.out _).mono ?_; rintro e w1 ⟨rfl, rfl⟩))
            · refine bodyPost_ret (v := .tuple #[.int .i64 6, .int .i64 1]) (by simp [results, Tryz.results24, go_sem]) rfl ⟨?_, rfl⟩
              rw [HF.out]; rfl
            · refine bodyPost_ret (v := .tuple #[.int .i64 0, .int .i64 0]) (by simp [results, Tryz.results24, go_sem]) rfl ⟨?_, rfl⟩
              rw [HF.out]; rfl

end Go.Proofs.YtenmkopiddmieabGreatDoor

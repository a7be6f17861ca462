/-
  How far a number, a color goes at a text's front; which words are reserved: walked over the program.
-/
import Derived.Test.YtbniikaebkmbhaaDoorWordCount
namespace Go.Proofs.YtbniikaebkmbhaaDoor
open Go.RowKit

theorem mk_data (l : List UInt8) : (⟨l.toArray⟩ : ByteArray).data.toList = l := by simp
theorem size_mk (l : List UInt8) : (⟨l.toArray⟩ : ByteArray).size = l.length := by rw [Lib.size_eq, mk_data]
theorem tail_data (s : ByteArray) (k : Nat) : (s.extract k s.size).data.toList = s.data.toList.drop k := Lib.extract_to_end s k
theorem head_data (s : ByteArray) (k : Nat) : (s.extract 0 k).data.toList = s.data.toList.take k := by rw [Lib.extract_data]; simp
theorem tail_size (s : ByteArray) (k : Nat) : (s.extract k s.size).size = s.size - k := by rw [Lib.size_eq, tail_data, List.length_drop, ← Lib.size_eq]

set_option maxRecDepth 20000 in
theorem colorSize_any (s : ByteArray) (w : World) (hs : s.size ≤ 1000000) (h1 : 1 ≤ s.size) :
    Calls Tryd.prog 41 #[.string s] w fun e w' => e = .returned (.int .i64 (WP.colSize s.data.toList : Nat)) ∧ w' = w := by
  have k1 := hid'' (fun W => count_any _ _ isColorDigit_any ent_cdig (s.extract 1 s.size) W (by rw [tail_size]; omega))
  have k2 := hid'' (fun k W => glued_any (s.extract k s.size) W)
  have hle := WP.count_le WP.cdig (s.data.toList.drop 1)
  have HP : Hid (WP.colSize s.data.toList = if (WP.count WP.cdig (s.data.toList.drop 1) ≠ 6 ∧ WP.count WP.cdig (s.data.toList.drop 1) ≠ 8) ∨ WP.glued (s.data.toList.drop (1 + WP.count WP.cdig (s.data.toList.drop 1))) = true then 0 else 1 + WP.count WP.cdig (s.data.toList.drop 1)) := rfl
  rw [tail_data] at k1
  obtain ⟨P, hP⟩ : ∃ P, WP.colSize s.data.toList = P := ⟨_, rfl⟩
  obtain ⟨n, hn⟩ : ∃ n, WP.count WP.cdig (s.data.toList.drop 1) = n := ⟨_, rfl⟩
  rw [hP] at HP ⊢
  rw [hn] at HP k1 hle
  rw [List.length_drop, ← Lib.size_eq] at hle
  have k3 := hid'' (fun W => k2.out (1 + n) W)
  rw [tail_data] at k3
  obtain ⟨G, hG⟩ : ∃ G, WP.glued (s.data.toList.drop (1 + n)) = G := ⟨_, rfl⟩
  rw [hG] at HP k3
  clear hP hn hG k2
  have d6 : ((n : Int) == 6) = decide (n = 6) := by rw [Bool.eq_iff_iff]; simp; omega
  have d8 : ((n : Int) == 8) = decide (n = 8) := by rw [Bool.eq_iff_iff]; simp; omega
  by_cases h6 : n = 6
  · subst h6
    cases G
    all_goals
      go_enter Tryd.func41, Tryd.ntmps41
      go_wp2_with (first
        | (go_at_call 56; refine (k1.out _).mono ?_; rintro e w1 ⟨rfl, rfl⟩)
        | (go_at_call 61; refine (k3.out _).mono ?_; rintro e w1 ⟨rfl, rfl⟩))
      all_goals go_ret
      all_goals exact ⟨ret_int (by rw [HP.out]; simp), rfl⟩
  · by_cases h8 : n = 8
    · subst h8
      cases G
      all_goals
        go_enter Tryd.func41, Tryd.ntmps41
        go_wp2_with (first
          | (go_at_call 56; refine (k1.out _).mono ?_; rintro e w1 ⟨rfl, rfl⟩)
          | (go_at_call 61; refine (k3.out _).mono ?_; rintro e w1 ⟨rfl, rfl⟩))
        all_goals go_ret
        all_goals exact ⟨ret_int (by rw [HP.out]; simp), rfl⟩
    · have e6 : ((n : Int) == 6) = false := by rw [d6]; simp [h6]
      have e8 : ((n : Int) == 8) = false := by rw [d8]; simp [h8]
      have HN : Hid (n ≠ 6 ∧ n ≠ 8) := ⟨h6, h8⟩
      have f6 : ¬ ((n : Int) = 6) := by omega
      have f8 : ¬ ((n : Int) = 8) := by omega
      clear d6 d8 h6 h8
      go_enter Tryd.func41, Tryd.ntmps41
      go_wp2_with (first
        | (go_at_call 56; refine (k1.out _).mono ?_; rintro e w1 ⟨rfl, rfl⟩)
        | (go_at_call 61; refine (k3.out _).mono ?_; rintro e w1 ⟨rfl, rfl⟩))
      all_goals go_ret
      all_goals exact ⟨ret_int (by rw [HP.out, if_pos (.inl HN.out)]; rfl), rfl⟩

set_option maxRecDepth 20000 in
set_option maxHeartbeats 1000000 in
theorem numberSize_any (s : ByteArray) (w : World) (hs : s.size ≤ 1000000) :
    Calls Tryd.prog 40 #[.string s] w fun e w' => e = .returned (.int .i64 (WP.numSize s.data.toList : Nat)) ∧ w' = w := by
  obtain ⟨r, hr⟩ : ∃ r : ByteArray, r = ⟨(Lib.trimPrefix s.data.toList [45]).toArray⟩ := ⟨_, rfl⟩
  have hrd : r.data.toList = Lib.trimPrefix s.data.toList [45] := by rw [hr]
  have hrz : r.size ≤ s.size := by rw [Lib.size_eq, hrd, Lib.size_eq]; exact Lib.trimPrefix_le _ _
  have k1 : Hid (∀ W, Calls Tryd.prog 58 #[.string s, .string ⟨#[45]⟩] W fun e w' => e = .returned (.string r) ∧ w' = W) := fun W => by rw [hr]; exact Tryd.strings_TrimPrefix s ⟨#[45]⟩ W
  have k2 : Hid (∀ W, Calls Tryd.prog 59 #[.string r] W fun e w' => e = .returned (.int .i64 (WP.digits r.data.toList : Nat)) ∧ w' = W) := fun W => digits_any r W (by omega)
  have hn := WP.digits_le r.data.toList
  rw [← Lib.size_eq] at hn
  have HS : Hid (WP.numSize s.data.toList = match WP.numRest s.data.toList with | none => 0 | some r => s.data.toList.length - r.length) := rfl
  have HR : Hid (WP.numRest s.data.toList = if WP.digits r.data.toList = 0 then none else if Lib.hasPrefix (r.data.toList.drop (WP.digits r.data.toList)) [46] then (if WP.digits (Lib.trimPrefix (r.data.toList.drop (WP.digits r.data.toList)) [46]) = 0 then none else if WP.glued ((Lib.trimPrefix (r.data.toList.drop (WP.digits r.data.toList)) [46]).drop (WP.digits (Lib.trimPrefix (r.data.toList.drop (WP.digits r.data.toList)) [46]))) then none else some ((Lib.trimPrefix (r.data.toList.drop (WP.digits r.data.toList)) [46]).drop (WP.digits (Lib.trimPrefix (r.data.toList.drop (WP.digits r.data.toList)) [46])))) else if WP.glued (r.data.toList.drop (WP.digits r.data.toList)) then none else some (r.data.toList.drop (WP.digits r.data.toList))) := by rw [hrd]; rfl
  rw [← Lib.size_eq] at HS
  obtain ⟨S, hS⟩ : ∃ S, WP.numSize s.data.toList = S := ⟨_, rfl⟩
  obtain ⟨X, hX⟩ : ∃ X, WP.numRest s.data.toList = X := ⟨_, rfl⟩
  obtain ⟨n, hnn⟩ : ∃ n, WP.digits r.data.toList = n := ⟨_, rfl⟩
  rw [hS] at HS ⊢
  rw [hX] at HS HR
  rw [hnn] at HR k2 hn
  rw [← tail_data] at HR
  obtain ⟨r1, hr1⟩ : ∃ r1 : ByteArray, r.extract n r.size = r1 := ⟨_, rfl⟩
  have hz1 : r1.size = r.size - n := by rw [← hr1, tail_size]
  rw [hr1] at HR
  clear hS hX hnn hr hrd
  by_cases h0 : n = 0
  · subst h0
    have HX : Hid (X = none) := by rw [HR.out]; rfl
    clear HR
    go_enter Tryd.func40, Tryd.ntmps40
    go_wp2_with (first
      | (go_at_call 58; refine (k1.out _).mono ?_; rintro e w1 ⟨rfl, rfl⟩)
      | (go_at_call 59; refine (k2.out _).mono ?_; rintro e w1 ⟨rfl, rfl⟩))
    go_ret
    exact ⟨ret_int (by rw [HS.out, HX.out]; rfl), rfl⟩
  rw [if_neg h0] at HR
  have d0 : ((n : Int) == 0) = false := by simp; omega
  obtain ⟨b, hb⟩ : ∃ b : ByteArray, b = ⟨(Lib.trimPrefix r1.data.toList [46]).toArray⟩ := ⟨_, rfl⟩
  have hbd : b.data.toList = Lib.trimPrefix r1.data.toList [46] := by rw [hb]
  have hbz : b.size ≤ r1.size := by rw [Lib.size_eq, hbd, Lib.size_eq]; exact Lib.trimPrefix_le _ _
  have k3 : Hid (∀ W, Calls Tryd.prog 60 #[.string (r.extract n r.size), .string ⟨#[46]⟩] W fun e w' => e = .returned (.tuple #[.string b, .bool (Lib.hasPrefix r1.data.toList [46])]) ∧ w' = W) := fun W => by rw [hb, hr1]; exact Tryd.strings_CutPrefix r1 ⟨#[46]⟩ W
  rw [← hbd] at HR
  obtain ⟨H, hH⟩ : ∃ H, Lib.hasPrefix r1.data.toList [46] = H := ⟨_, rfl⟩
  rw [hH] at HR k3
  clear hH hb hbd
  cases H with
  | false =>
    rw [if_neg Bool.false_ne_true] at HR
    have k4 : Hid (∀ W, Calls Tryd.prog 61 #[.string (r.extract n r.size)] W fun e w' => e = .returned (.bool (WP.glued r1.data.toList)) ∧ w' = W) := fun W => by rw [hr1]; exact glued_any r1 W
    have HL : Hid (r1.data.toList.length = (r.extract n r.size).size) := by show _ = _; rw [hr1, Lib.size_eq]
    have HZ : Hid ((r.extract n r.size).size = r.size - n) := by show _ = _; rw [hr1]; exact hz1
    obtain ⟨G, hG⟩ : ∃ G, WP.glued r1.data.toList = G := ⟨_, rfl⟩
    rw [hG] at HR k4
    clear hG hr1 hz1 hbz
    cases G
    · have HX : Hid (X = some r1.data.toList) := by rw [HR.out]; rfl
      clear HR
      go_enter Tryd.func40, Tryd.ntmps40
      go_wp2_with (first
        | (go_at_call 58; refine (k1.out _).mono ?_; rintro e w1 ⟨rfl, rfl⟩)
        | (go_at_call 59; refine (k2.out _).mono ?_; rintro e w1 ⟨rfl, rfl⟩)
        | (go_at_call 60; refine (k3.out _).mono ?_; rintro e w1 ⟨rfl, rfl⟩)
        | (go_at_call 61; refine (k4.out _).mono ?_; rintro e w1 ⟨rfl, rfl⟩))
      go_ret
      exact ⟨ret_int (by rw [HS.out, HX.out]; simp only [HL.out, HZ.out]; omega), rfl⟩
    · have HX : Hid (X = none) := by rw [HR.out]; rfl
      clear HR
      go_enter Tryd.func40, Tryd.ntmps40
      go_wp2_with (first
        | (go_at_call 58; refine (k1.out _).mono ?_; rintro e w1 ⟨rfl, rfl⟩)
        | (go_at_call 59; refine (k2.out _).mono ?_; rintro e w1 ⟨rfl, rfl⟩)
        | (go_at_call 60; refine (k3.out _).mono ?_; rintro e w1 ⟨rfl, rfl⟩)
        | (go_at_call 61; refine (k4.out _).mono ?_; rintro e w1 ⟨rfl, rfl⟩))
      go_ret
      exact ⟨ret_int (by rw [HS.out, HX.out]; rfl), rfl⟩
  | true =>
    rw [if_pos rfl] at HR
    have k5 : Hid (∀ W, Calls Tryd.prog 59 #[.string b] W fun e w' => e = .returned (.int .i64 (WP.digits b.data.toList : Nat)) ∧ w' = W) := fun W => digits_any b W (by omega)
    have hm := WP.digits_le b.data.toList
    rw [← Lib.size_eq] at hm
    obtain ⟨m, hmm⟩ : ∃ m, WP.digits b.data.toList = m := ⟨_, rfl⟩
    rw [hmm] at HR k5 hm
    have k4 : Hid (∀ W, Calls Tryd.prog 61 #[.string (b.extract m b.size)] W fun e w' => e = .returned (.bool (WP.glued (b.data.toList.drop m))) ∧ w' = W) := fun W => by rw [← tail_data]; exact glued_any _ W
    have HZ : Hid ((b.data.toList.drop m).length = b.size - m) := by show _ = _; rw [List.length_drop, ← Lib.size_eq]
    obtain ⟨D, hD⟩ : ∃ D, b.data.toList.drop m = D := ⟨_, rfl⟩
    rw [hD] at HR k4 HZ
    obtain ⟨G, hG⟩ : ∃ G, WP.glued D = G := ⟨_, rfl⟩
    rw [hG] at HR k4
    clear hG hD hmm hr1
    by_cases g0 : m = 0
    · subst g0
      have HX : Hid (X = none) := by rw [HR.out]; rfl
      clear HR
      go_enter Tryd.func40, Tryd.ntmps40
      go_wp2_with (first
        | (go_at_call 58; refine (k1.out _).mono ?_; rintro e w1 ⟨rfl, rfl⟩)
        | (have v3 := u3; go_at_call 59; refine (k5.out _).mono ?_; rintro e w1 ⟨rfl, rfl⟩)
        | (go_at_call 59; refine (k2.out _).mono ?_; rintro e w1 ⟨rfl, rfl⟩)
        | (go_at_call 60; refine (k3.out _).mono ?_; rintro e w1 ⟨rfl, rfl⟩; have u3 : True := trivial)
        | (go_at_call 61; refine (k4.out _).mono ?_; rintro e w1 ⟨rfl, rfl⟩))
      go_ret
      exact ⟨ret_int (by rw [HS.out, HX.out]; rfl), rfl⟩
    rw [if_neg g0] at HR
    have e0 : ((m : Int) == 0) = false := by simp; omega
    cases G
    · have HX : Hid (X = some D) := by rw [HR.out]; rfl
      clear HR
      go_enter Tryd.func40, Tryd.ntmps40
      go_wp2_with (first
        | (go_at_call 58; refine (k1.out _).mono ?_; rintro e w1 ⟨rfl, rfl⟩)
        | (have v3 := u3; go_at_call 59; refine (k5.out _).mono ?_; rintro e w1 ⟨rfl, rfl⟩)
        | (go_at_call 59; refine (k2.out _).mono ?_; rintro e w1 ⟨rfl, rfl⟩)
        | (go_at_call 60; refine (k3.out _).mono ?_; rintro e w1 ⟨rfl, rfl⟩; have u3 : True := trivial)
        | (go_at_call 61; refine (k4.out _).mono ?_; rintro e w1 ⟨rfl, rfl⟩))
      go_ret
      exact ⟨ret_int (by rw [HS.out, HX.out]; simp only [HZ.out]; omega), rfl⟩
    · have HX : Hid (X = none) := by rw [HR.out]; rfl
      clear HR
      go_enter Tryd.func40, Tryd.ntmps40
      go_wp2_with (first
        | (go_at_call 58; refine (k1.out _).mono ?_; rintro e w1 ⟨rfl, rfl⟩)
        | (have v3 := u3; go_at_call 59; refine (k5.out _).mono ?_; rintro e w1 ⟨rfl, rfl⟩)
        | (go_at_call 59; refine (k2.out _).mono ?_; rintro e w1 ⟨rfl, rfl⟩)
        | (go_at_call 60; refine (k3.out _).mono ?_; rintro e w1 ⟨rfl, rfl⟩; have u3 : True := trivial)
        | (go_at_call 61; refine (k4.out _).mono ?_; rintro e w1 ⟨rfl, rfl⟩))
      go_ret
      exact ⟨ret_int (by rw [HS.out, HX.out]; rfl), rfl⟩

end Go.Proofs.YtbniikaebkmbhaaDoor

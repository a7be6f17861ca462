/-
  A number's text: where it is cut, its part behind the point, the whole: walked over the program.
-/
import Derived.Test.YtepilofedebmeaaDoorNumWhole
namespace Go.Proofs.YtepilofedebmeaaDoor
open Go.RowKit

theorem whole_some_any (s : ByteArray) (n : Nat) (h : NP.whole s.data.toList = some n) (w : World) :
    Calls Tryd.prog 10 #[.string s] w fun e w' => e = .returned (.tuple #[.int .i64 (n : Int), .bool true]) ∧ w' = w := by
  have := whole_any s w
  rw [h] at this
  exact this
theorem whole_none_any (s : ByteArray) (h : NP.whole s.data.toList = none) (w : World) :
    Calls Tryd.prog 10 #[.string s] w fun e w' => e = .returned (.tuple #[.int .i64 0, .bool false]) ∧ w' = w := by
  have := whole_any s w
  rw [h] at this
  exact this

theorem mill_step (n j k : Nat) (h : n * 10 ^ k < 1000000) (hj : j < k) : n * 10 ^ j * 10 = n * 10 ^ (j + 1) ∧ n * 10 ^ (j + 1) < 1000000 := by
  have h1 : n * 10 ^ (j + 1) ≤ n * 10 ^ k := Nat.mul_le_mul_left _ (Nat.pow_le_pow_right (by omega) hj)
  refine ⟨by rw [Nat.pow_succ, Nat.mul_assoc], by omega⟩

set_option maxRecDepth 20000 in
theorem mill_any (s : ByteArray) (w : World) :
    Calls Tryd.prog 19 #[.string s] w fun e w' => e = .returned (wv (NP.mill s.data.toList)) ∧ w' = w := by
  cases hw : NP.whole s.data.toList with
  | none =>
    have k1 := hid'' (fun W => whole_none_any s hw W)
    have hm : NP.mill s.data.toList = none := by unfold NP.mill; rw [hw]; rfl
    rw [hm]
    clear hw hm
    go_enter Tryd.func19, Tryd.ntmps19
    go_wp2_with (go_at_call 10; refine (k1.out _).mono ?_; rintro e w1 ⟨rfl, rfl⟩)
    exact bodyPost_ret (v := .tuple #[.int .i64 0, .bool false]) (by simp [results, Tryd.results19, go_sem]) rfl ⟨rfl, rfl⟩
  | some n =>
    have k1 := hid'' (fun W => whole_some_any s n hw W)
    have hm : NP.mill s.data.toList = some (n * 10 ^ (6 - s.size)) := by unfold NP.mill; rw [hw, Lib.size_eq]; rfl
    have HLT := hid'' (NP.mill_lt hm)
    rw [hm]
    obtain ⟨-, g1, g6, -⟩ := NP.whole_some hw
    have e1 : 1 ≤ s.size := by rw [Lib.size_eq]; exact g1
    have e6 : s.size ≤ 6 := by rw [Lib.size_eq]; exact g6
    have hn := NP.whole_lt hw
    obtain ⟨z, hz⟩ : ∃ z, s.size = z := ⟨_, rfl⟩
    clear hw hm g1 g6
    rw [hz] at e1 e6 HLT ⊢
    go_enter Tryd.func19, Tryd.ntmps19
    go_wp2_with (go_at_call 10; refine (k1.out _).mono ?_; rintro e w1 ⟨rfl, rfl⟩)
    go_loop [4, 16] (fun v i => ∃ j M : Nat, v = .int .i64 (M : Int) ∧ i = .int .i64 j ∧ j ≤ 6 - z ∧ Hid (M = n * 10 ^ j)) (fun _ i => 6 - (intOf i).toNat)
    case atStart => exact ⟨0, n, rfl, rfl, Nat.zero_le _, hid'' (by simp)⟩
    case round =>
      obtain ⟨j, M, rfl, rfl, hj, hM⟩ := hrel
      by_cases hlt : j < 6 - z
      · have HS := hid'' (mill_step n j (6 - z) HLT.out hlt)
        have hMb : M * 10 < 1000000 := by rw [hM.out]; have := HS.out; omega
        have q1 : (j : Int) < 6 - (z : Int) := by omega
        go_wp2
        go_round
        case rel => exact ⟨j + 1, M * 10, by go_num, by go_num, by omega, hid'' (by rw [hM.out, HS.out.1])⟩
        case measure => simp [intOf]; omega
      · have HE : Hid (M = n * 10 ^ (6 - z)) := by
          have e : j = 6 - z := by omega
          show _ = _
          rw [hM.out, e]
        have hMb : M < 1000000 := by rw [HE.out]; exact HLT.out
        have q1 : ¬ ((j : Int) < 6 - (z : Int)) := by omega
        go_wp2
        exact bodyPost_ret (v := .tuple #[.int .i64 (M : Int), .bool true]) (by simp [results, Tryd.results19, go_sem]) rfl ⟨by rw [HE.out]; rfl, rfl⟩

theorem index_any (s : ByteArray) (w : World) :
    Calls Tryd.prog 35 #[.string s, .string ⟨#[46]⟩] w fun e w' => e = .returned (.int .i64 (Lib.indexByte s.data.toList 46)) ∧ w' = w := by
  have k1 := hid'' (fun W => Tryd.stringslite_IndexByte s 46 W)
  have e46 : (46 : Int).toNat.toUInt8 = 46 := by decide
  rw [e46] at k1
  clear e46
  obtain ⟨I, hI⟩ : ∃ I, Lib.indexByte s.data.toList 46 = I := ⟨_, rfl⟩
  rw [hI] at k1 ⊢
  by_cases h0 : s.toList = [46]
  · have HI : Hid (I = 0) := by
      show _ = _
      rw [← hI, ← Lib.toList_data, h0]; rfl
    have h1 : ([46] == s.toList) = true := by rw [h0]; rfl
    clear h0 hI
    go_enter Tryd.func35, Tryd.ntmps35
    go_wp2_with (go_at_call 47; refine (k1.out _).mono ?_; rintro e w1 ⟨rfl, rfl⟩)
    go_ret
    exact ⟨ret_int HI.out.symm, rfl⟩
  · have h1 : ([46] == s.toList) = false := by rw [beq_eq_false_iff_ne]; exact fun e => h0 e.symm
    clear h0 hI
    go_enter Tryd.func35, Tryd.ntmps35
    go_wp2_with (go_at_call 47; refine (k1.out _).mono ?_; rintro e w1 ⟨rfl, rfl⟩)
    go_ret
    exact ⟨rfl, rfl⟩

def cv (r : List UInt8 × Option (List UInt8)) : Value := .tuple #[.string ⟨r.1.toArray⟩, .string ⟨(r.2.getD []).toArray⟩, .bool r.2.isSome]

theorem cutlite_any (s : ByteArray) (w : World) (hs : s.size ≤ 1000) :
    Calls Tryd.prog 28 #[.string s, .string ⟨#[46]⟩] w fun e w' => e = .returned (cv (NP.cutAt s.data.toList)) ∧ ∃ m, w' = w.drewN m := by
  have k1 := hid'' (fun W => index_any s W)
  obtain ⟨R, hR⟩ : ∃ R, NP.cutAt s.data.toList = R := ⟨_, rfl⟩
  rw [hR]
  cases hb : R.2 with
  | none =>
    rw [← hR] at hb
    obtain ⟨h1, h2⟩ := NP.cut_none _ hb
    rw [h1] at k1
    have HV : Hid (cv R = .tuple #[.string s, .string ⟨#[]⟩, .bool false]) := by
      show _ = _
      unfold cv
      rw [← hR, hb, h2]
      rfl
    clear hR hb h1 h2
    go_enter Tryd.func28, Tryd.ntmps28
    go_wp2_with (go_at_call 35; refine (k1.out _).mono ?_; rintro e w1 ⟨rfl, rfl⟩)
    exact bodyPost_ret (v := .tuple #[.string s, .string ⟨#[]⟩, .bool false]) (by simp [results, Tryd.results28, go_sem]) rfl ⟨by rw [HV.out], 0, rfl⟩
  | some b =>
    rw [← hR] at hb
    obtain ⟨k, h1, h2, h3, h4⟩ := NP.cut_some _ b hb
    rw [h1] at k1
    rw [← Lib.size_eq] at h2
    have HV : Hid (cv R = .tuple #[.string (s.extract 0 k), .string (s.extract (k + 1) s.size), .bool true]) := by
      show _ = _
      unfold cv
      rw [← hR, hb, h3, h4, Lib.extract_eq, Lib.extract_eq, List.drop_zero, Nat.sub_zero, List.take_of_length_le (l := s.data.toList.drop (k + 1)) (by rw [List.length_drop, ← Lib.size_eq]; exact Nat.le_refl _)]
      rfl
    clear hR hb h1 h3 h4
    go_enter Tryd.func28, Tryd.ntmps28
    go_wp2_with (go_at_call 35; refine (k1.out _).mono ?_; rintro e w1 ⟨rfl, rfl⟩)
    have i2 : ((k : Int) ≤ (s.size : Int)) := by omega
    have i3 : ((k : Int) + 1 ≤ (s.size : Int)) := by omega
    go_quiet (fail)
    go_wp2
    exact bodyPost_ret (v := .tuple #[.string (s.extract 0 k), .string (s.extract (k + 1) s.size), .bool true]) (by simp [results, Tryd.results28, go_sem]) rfl ⟨by rw [HV.out], _, rfl⟩

theorem cut_any (s : ByteArray) (w : World) (hs : s.size ≤ 1000) :
    Calls Tryd.prog 18 #[.string s, .string ⟨#[46]⟩] w fun e w' => e = .returned (cv (NP.cutAt s.data.toList)) ∧ ∃ m, w' = w.drewN m := by
  have k1 := hid'' (fun W => cutlite_any s W hs)
  obtain ⟨R, hR⟩ : ∃ R, NP.cutAt s.data.toList = R := ⟨_, rfl⟩
  rw [hR] at k1 ⊢
  have HV : Hid (cv R = .tuple #[.string ⟨R.1.toArray⟩, .string ⟨(R.2.getD []).toArray⟩, .bool R.2.isSome]) := rfl
  obtain ⟨a, ha⟩ : ∃ a, (⟨R.1.toArray⟩ : ByteArray) = a := ⟨_, rfl⟩
  obtain ⟨b, hb⟩ : ∃ b, (⟨(R.2.getD []).toArray⟩ : ByteArray) = b := ⟨_, rfl⟩
  obtain ⟨c, hc⟩ : ∃ c, R.2.isSome = c := ⟨_, rfl⟩
  rw [ha, hb, hc] at HV
  rw [show cv R = .tuple #[.string a, .string b, .bool c] from HV.out] at k1 ⊢
  clear ha hb hc hR HV
  go_enter Tryd.func18, Tryd.ntmps18
  go_wp2_with (go_at_call 28; refine (k1.out _).mono ?_; rintro e w1 ⟨rfl, m, rfl⟩)
  exact bodyPost_ret (v := .tuple #[.string a, .string b, .bool c]) (by simp [results, Tryd.results18, go_sem]) rfl ⟨rfl, _, rfl⟩

end Go.Proofs.YtepilofedebmeaaDoor

/-
  The document's reading of a number: walked over the document's text.
-/
import Derived.Test.YtepilofedebmeaaDoorNumForm
namespace Go.Proofs.YtepilofedebmeaaDoor
open Go.RowKit

def rv : Option Int → Value
  | some n => .tuple #[.int .i64 n, .bool true]
  | none => .tuple #[.int .i64 0, .bool false]

theorem dc_cons (c : UInt8) (t : List UInt8) : NP.dc (c :: t) = if WP.digit c = true then NP.dc t + 1 else NP.dc t := by
  unfold NP.dc
  by_cases h : WP.digit c = true
  · rw [if_pos h, List.filter_cons_of_pos h]; rfl
  · rw [if_neg h, List.filter_cons_of_neg h]

set_option maxRecDepth 20000 in
set_option maxHeartbeats 2000000 in
theorem rparse_form (s : ByteArray) (w : World) (m : Bool) (d : List UInt8) (o : Option (List UInt8)) (hF : NP.Form s.data.toList m d o) :
    Calls Tryd.prog 9 #[.string s] w fun e w' => e = .returned (.tuple #[.int .i64 (NP.sgn m (NP.val 0 (d ++ o.getD []) * 10 ^ (6 - (o.getD []).length) : Nat)), .bool true]) ∧ w' = w := by
  have kd := Lib.hid (fun c W => rdigit_any c W)
  obtain ⟨q1, q2, q3, q4⟩ := NP.dc_form hF
  obtain ⟨c, hc, hcd⟩ := NP.head_form hF
  have hsz14 : s.size ≤ 14 := by rw [Lib.size_eq]; exact q2
  have hne : 0 < s.size := by
    rw [Lib.size_eq]
    exact List.length_pos_iff.2 q3
  have hc0 : ∀ h, s[0]'h = c := fun h => by
    have e := hc
    rw [List.head?_eq_getElem?, List.getElem?_eq_getElem (by rw [← Lib.size_eq]; exact h)] at e
    exact Option.some.inj e
  have kn := Lib.hid (fun W => numeral_any s 0 W hne (by omega))
  rw [List.drop_zero, NP.end_form hF, ← Lib.size_eq, Nat.zero_add] at kn
  have hscan := NP.scan_form hF
  obtain ⟨V, hV⟩ : ∃ V, NP.val 0 (d ++ o.getD []) = V := ⟨_, rfl⟩
  rw [hV] at hscan ⊢
  have hf6 := NP.form_o hF
  obtain ⟨K, hK⟩ : ∃ K, (o.getD []).length = K := ⟨_, rfl⟩
  rw [hK] at hf6 ⊢
  obtain ⟨b0, hb0⟩ : ∃ b0, NP.bh o = b0 := ⟨_, rfl⟩
  rw [hb0] at hscan
  have hbK : (b0 = -1 ∧ K = 0) ∨ b0 = (K : Int) := by
    cases o with
    | none => exact .inl ⟨hb0.symm, by rw [← hK]; rfl⟩
    | some f => exact .inr (by rw [← hb0, ← hK]; rfl)
  have HS := Lib.hid hscan
  have HQ := Lib.hid q1
  have hm45 : ((c.toNat : Int) == 45) = m := by
    rw [hc] at q4
    cases m with
    | true =>
      have := q4.1 rfl
      obtain rfl := Option.some.inj this
      rfl
    | false =>
      rw [beq_eq_false_iff_ne]
      intro e
      have : c = 45 := UInt8.toNat_inj.1 (show c.toNat = 45 by omega)
      exact absurd (q4.2 (by rw [this])) (by decide)
  have kc := Lib.hid (fun W => rdigit_any c W)
  have hBm : WP.digit c = !m := by
    cases hd : WP.digit c with
    | true =>
      obtain ⟨g1, g2⟩ := NP.digit_dv hd
      have : m = false := by rw [← hm45, beq_eq_false_iff_ne]; omega
      rw [this]; rfl
    | false =>
      rcases hcd with h | h
      · rw [hd] at h; cases h
      · have : m = true := by rw [← hm45, h]; rfl
        rw [this]; rfl
  rw [hBm] at kc
  have hne' : ((s.size : Int) == 0) = false := by rw [beq_eq_false_iff_ne]; omega
  clear hF q1 q2 q3 q4 hc hV hK hb0 hscan hcd hBm
  go_enter Tryd.func9, Tryd.ntmps9
  cases m with
  | false =>
    go_wp2_with (first
      | (go_at_call 20; refine (kc.out _).mono ?_; rintro e w1 ⟨rfl, rfl⟩)
      | (go_at_call 21; refine (kn.out _).mono ?_; rintro e w1 ⟨rfl, rfl⟩))
    go_loop [4, 5, 6] (fun n b i => ∃ (k x : Nat) (y : Int), n = .int .i64 x ∧ b = .int .i64 y ∧ i = .int .i64 k ∧ k ≤ s.size ∧ -1 ≤ y ∧ y ≤ k ∧ Hid (NP.scan x y (s.data.toList.drop k) = (V, b0)) ∧ Hid (∃ j, x < 10 ^ j ∧ j + NP.dc (s.data.toList.drop k) ≤ 12)) (fun _ _ i => s.size - (intOf i).toNat)
    case atStart => exact ⟨0, 0, -1, rfl, rfl, rfl, Nat.zero_le _, by omega, by omega, by rw [List.drop_zero]; exact HS, 0, by omega, by rw [List.drop_zero, Nat.zero_add]; exact HQ.out⟩
    case round =>
      obtain ⟨k, x, y, rfl, rfl, rfl, hk, hy1, hy2, hsc, hj⟩ := hrel
      cases hl : s.data.toList.drop k with
      | nil =>
        have h0 := drop_nil s k hl
        have hks : k = s.size := by omega
        have HX : Hid (x = V ∧ y = b0) := by
          have := hsc.out
          rw [hl, NP.scan] at this
          exact ⟨congrArg Prod.fst this, congrArg Prod.snd this⟩
        have hxb : x < 1000000000000 := by
          obtain ⟨j, h1, h2⟩ := hj.out
          have : 10 ^ j ≤ 10 ^ 12 := Nat.pow_le_pow_right (by omega) (by omega)
          omega
        clear hl hsc hj
        subst hks
        have hki : ¬ ((s.size : Int) < (s.size : Int)) := by omega
        have HVK : Hid (V = x) := HX.out.1.symm
        have hmx : max y 0 = (K : Int) := by have := HX.out.2; omega
        go_wp2
        go_loop [4, 7] (fun n k => ∃ (p z : Nat), n = .int .i64 z ∧ k = .int .i64 p ∧ K ≤ p ∧ p ≤ 6 ∧ Hid (z = x * 10 ^ (p - K))) (fun _ k => 6 - (intOf k).toNat)
        case atStart => exact ⟨K, x, rfl, rfl, Nat.le_refl _, hf6, hid'' (by simp)⟩
        case round =>
          obtain ⟨p, z, rfl, rfl, hp1, hp2, hz⟩ := hrel
          have hzb : z < 1000000000000000000 := by
            have h1 : 10 ^ (p - K) ≤ 10 ^ 6 := Nat.pow_le_pow_right (by omega) (by omega)
            have h2 := Nat.mul_le_mul_left x h1
            rw [hz.out]; omega
          by_cases hpl : p < 6
          · have HZ : Hid (10 * z = x * 10 ^ (p + 1 - K)) := by
              show _ = _
              rw [hz.out, show p + 1 - K = (p - K) + 1 by omega, Nat.pow_succ, Nat.mul_comm 10, Nat.mul_assoc]
            have hzb' : z < 100000000000000000 := by
              have h1 : 10 ^ (p - K) ≤ 10 ^ 5 := Nat.pow_le_pow_right (by omega) (by omega)
              have h2 := Nat.mul_le_mul_left x h1
              rw [hz.out]; omega
            go_wp2
            go_round
            case rel => exact ⟨p + 1, 10 * z, by go_num, by go_num, by omega, by omega, HZ⟩
            case measure => simp [intOf]; omega
          · have HZ : Hid (z = V * 10 ^ (6 - K)) := by
              show _ = _
              rw [hz.out, HVK.out, show p = 6 by omega]
            go_wp2
            exact bodyPost_ret (v := .tuple #[.int .i64 (z : Int), .bool true]) (by simp [results, Tryd.results9, go_sem]) rfl ⟨by rw [← HZ.out]; rfl, rfl⟩
      | cons c' t =>
        obtain ⟨hlt, hc, ht⟩ := at_drop s k c' t hl
        have hX := hsc.out
        rw [hl, NP.scan] at hX
        have hdc := dc_cons c' t
        have HJ : Hid (∃ j, x < 10 ^ j ∧ j + (if WP.digit c' = true then NP.dc t + 1 else NP.dc t) ≤ 12) := by
          obtain ⟨j, h1, h2⟩ := hj.out
          rw [hl, hdc] at h2
          exact ⟨j, h1, h2⟩
        have HT := hid'' ht
        have hki : (k : Int) < (s.size : Int) := by omega
        have kt := Lib.hid (fun W => kd.out c' W)
        have h46 : ((c'.toNat : Int) == 46) = decide (c' = 46) := by
          rw [Bool.eq_iff_iff]
          simp
          constructor
          · intro e; exact UInt8.toNat_inj.1 (show c'.toNat = 46 by omega)
          · intro e; rw [e]; rfl
        clear hl ht hsc hj hdc
        by_cases hp : c' = 46
        · rw [if_pos hp] at hX
          have HXX := hid'' hX
          have hd0 : WP.digit c' = false := by rw [hp]; decide
          have HJ' : Hid (∃ j, x < 10 ^ j ∧ j + NP.dc t ≤ 12) := by have := HJ.out; rw [hd0] at this; exact this
          rw [decide_eq_true hp] at h46
          clear hX HJ hd0 hp
          go_wp2
          go_round
          case rel => exact ⟨k + 1, x, 0, by go_num, by go_num, by go_num, by omega, by omega, by omega, by rw [HT.out]; exact HXX, by rw [HT.out]; exact HJ'⟩
          case measure => simp [intOf]; omega
        · rw [if_neg hp] at hX
          rw [decide_eq_false hp] at h46
          by_cases hd : WP.digit c' = true
          · rw [if_pos hd] at hX
            obtain ⟨d1, d2⟩ := NP.digit_dv hd
            have HXX := hid'' hX
            have HDV : Hid (NP.dv x c' = x * 10 + (c'.toNat - 48)) := rfl
            rw [hd] at kt
            have HJ' : Hid (∃ j, NP.dv x c' < 10 ^ j ∧ j + NP.dc t ≤ 12) := by
              obtain ⟨j, g1, g2⟩ := HJ.out
              rw [if_pos hd] at g2
              refine ⟨j + 1, ?_, by omega⟩
              unfold NP.dv
              rw [Nat.pow_succ]
              omega
            have hxb : x < 100000000000 := by
              obtain ⟨j, g1, g2⟩ := HJ.out
              rw [if_pos hd] at g2
              have : 10 ^ j ≤ 10 ^ 11 := Nat.pow_le_pow_right (by omega) (by omega)
              omega
            clear hX hd HJ hp
            obtain ⟨z, hz⟩ : ∃ z, c'.toNat = z := ⟨_, rfl⟩
            rw [hz] at d1 d2 HDV kt h46
            obtain ⟨v, rfl⟩ : ∃ v, z = 48 + v := ⟨z - 48, by omega⟩
            rw [show 48 + v - 48 = v by omega] at HDV
            by_cases hy : 0 ≤ y
            · rw [if_pos hy] at HXX
              go_wp2_with (go_at_call 20; refine (kt.out _).mono ?_; rintro e w1 ⟨rfl, rfl⟩)
              go_round
              case rel => exact ⟨k + 1, x * 10 + v, y + 1, by go_num, by go_num, by go_num, by omega, by omega, by omega, by rw [HT.out, ← HDV.out]; exact HXX, by rw [HT.out, ← HDV.out]; exact HJ'⟩
              case measure => simp [intOf]; omega
            · rw [if_neg hy] at HXX
              go_wp2_with (go_at_call 20; refine (kt.out _).mono ?_; rintro e w1 ⟨rfl, rfl⟩)
              go_round
              case rel => exact ⟨k + 1, x * 10 + v, y, by go_num, by go_num, by go_num, by omega, by omega, by omega, by rw [HT.out, ← HDV.out]; exact HXX, by rw [HT.out, ← HDV.out]; exact HJ'⟩
              case measure => simp [intOf]; omega
          · rw [if_neg hd] at hX
            have HXX := hid'' hX
            have hdf : WP.digit c' = false := by simpa using hd
            have HJ' : Hid (∃ j, x < 10 ^ j ∧ j + NP.dc t ≤ 12) := by have := HJ.out; rw [hdf] at this; exact this
            rw [hdf] at kt
            clear hX hd hdf HJ hp
            go_wp2_with (go_at_call 20; refine (kt.out _).mono ?_; rintro e w1 ⟨rfl, rfl⟩)
            go_round
            case rel => exact ⟨k + 1, x, y, by go_num, by go_num, by go_num, by omega, by omega, by omega, by rw [HT.out]; exact HXX, by rw [HT.out]; exact HJ'⟩
            case measure => simp [intOf]; omega
  | true =>
    have c45 : c = 45 := UInt8.toNat_inj.1 (show c.toNat = 45 by have := eq_of_beq hm45; omega)
    subst c45
    have kc' : Hid (∀ W, Calls Tryd.prog 20 #[.int .u8 45] W fun e w' => e = .returned (.bool false) ∧ w' = W) := kc
    clear kc hm45
    go_wp2_with (first
      | (go_at_call 20; refine (kc'.out _).mono ?_; rintro e w1 ⟨rfl, rfl⟩)
      | (go_at_call 21; refine (kn.out _).mono ?_; rintro e w1 ⟨rfl, rfl⟩))
    go_loop [4, 5, 6] (fun n b i => ∃ (k x : Nat) (y : Int), n = .int .i64 x ∧ b = .int .i64 y ∧ i = .int .i64 k ∧ k ≤ s.size ∧ -1 ≤ y ∧ y ≤ k ∧ Hid (NP.scan x y (s.data.toList.drop k) = (V, b0)) ∧ Hid (∃ j, x < 10 ^ j ∧ j + NP.dc (s.data.toList.drop k) ≤ 12)) (fun _ _ i => s.size - (intOf i).toNat)
    case atStart => exact ⟨0, 0, -1, rfl, rfl, rfl, Nat.zero_le _, by omega, by omega, by rw [List.drop_zero]; exact HS, 0, by omega, by rw [List.drop_zero, Nat.zero_add]; exact HQ.out⟩
    case round =>
      obtain ⟨k, x, y, rfl, rfl, rfl, hk, hy1, hy2, hsc, hj⟩ := hrel
      cases hl : s.data.toList.drop k with
      | nil =>
        have h0 := drop_nil s k hl
        have hks : k = s.size := by omega
        have HX : Hid (x = V ∧ y = b0) := by
          have := hsc.out
          rw [hl, NP.scan] at this
          exact ⟨congrArg Prod.fst this, congrArg Prod.snd this⟩
        have hxb : x < 1000000000000 := by
          obtain ⟨j, h1, h2⟩ := hj.out
          have : 10 ^ j ≤ 10 ^ 12 := Nat.pow_le_pow_right (by omega) (by omega)
          omega
        clear hl hsc hj
        subst hks
        have hki : ¬ ((s.size : Int) < (s.size : Int)) := by omega
        have HVK : Hid (V = x) := HX.out.1.symm
        have hmx : max y 0 = (K : Int) := by have := HX.out.2; omega
        go_wp2
        go_loop [4, 7] (fun n k => ∃ (p z : Nat), n = .int .i64 z ∧ k = .int .i64 p ∧ K ≤ p ∧ p ≤ 6 ∧ Hid (z = x * 10 ^ (p - K))) (fun _ k => 6 - (intOf k).toNat)
        case atStart => exact ⟨K, x, rfl, rfl, Nat.le_refl _, hf6, hid'' (by simp)⟩
        case round =>
          obtain ⟨p, z, rfl, rfl, hp1, hp2, hz⟩ := hrel
          have hzb : z < 1000000000000000000 := by
            have h1 : 10 ^ (p - K) ≤ 10 ^ 6 := Nat.pow_le_pow_right (by omega) (by omega)
            have h2 := Nat.mul_le_mul_left x h1
            rw [hz.out]; omega
          by_cases hpl : p < 6
          · have HZ : Hid (10 * z = x * 10 ^ (p + 1 - K)) := by
              show _ = _
              rw [hz.out, show p + 1 - K = (p - K) + 1 by omega, Nat.pow_succ, Nat.mul_comm 10, Nat.mul_assoc]
            have hzb' : z < 100000000000000000 := by
              have h1 : 10 ^ (p - K) ≤ 10 ^ 5 := Nat.pow_le_pow_right (by omega) (by omega)
              have h2 := Nat.mul_le_mul_left x h1
              rw [hz.out]; omega
            go_wp2
            go_round
            case rel => exact ⟨p + 1, 10 * z, by go_num, by go_num, by omega, by omega, HZ⟩
            case measure => simp [intOf]; omega
          · have HZ : Hid (z = V * 10 ^ (6 - K)) := by
              show _ = _
              rw [hz.out, HVK.out, show p = 6 by omega]
            go_wp2
            exact bodyPost_ret (v := .tuple #[.int .i64 (-(z : Int)), .bool true]) (by simp [results, Tryd.results9, go_sem]) rfl ⟨by rw [← HZ.out]; rfl, rfl⟩
      | cons c' t =>
        obtain ⟨hlt, hc, ht⟩ := at_drop s k c' t hl
        have hX := hsc.out
        rw [hl, NP.scan] at hX
        have hdc := dc_cons c' t
        have HJ : Hid (∃ j, x < 10 ^ j ∧ j + (if WP.digit c' = true then NP.dc t + 1 else NP.dc t) ≤ 12) := by
          obtain ⟨j, h1, h2⟩ := hj.out
          rw [hl, hdc] at h2
          exact ⟨j, h1, h2⟩
        have HT := hid'' ht
        have hki : (k : Int) < (s.size : Int) := by omega
        have kt := Lib.hid (fun W => kd.out c' W)
        have h46 : ((c'.toNat : Int) == 46) = decide (c' = 46) := by
          rw [Bool.eq_iff_iff]
          simp
          constructor
          · intro e; exact UInt8.toNat_inj.1 (show c'.toNat = 46 by omega)
          · intro e; rw [e]; rfl
        clear hl ht hsc hj hdc
        by_cases hp : c' = 46
        · rw [if_pos hp] at hX
          have HXX := hid'' hX
          have hd0 : WP.digit c' = false := by rw [hp]; decide
          have HJ' : Hid (∃ j, x < 10 ^ j ∧ j + NP.dc t ≤ 12) := by have := HJ.out; rw [hd0] at this; exact this
          rw [decide_eq_true hp] at h46
          clear hX HJ hd0 hp
          go_wp2
          go_round
          case rel => exact ⟨k + 1, x, 0, by go_num, by go_num, by go_num, by omega, by omega, by omega, by rw [HT.out]; exact HXX, by rw [HT.out]; exact HJ'⟩
          case measure => simp [intOf]; omega
        · rw [if_neg hp] at hX
          rw [decide_eq_false hp] at h46
          by_cases hd : WP.digit c' = true
          · rw [if_pos hd] at hX
            obtain ⟨d1, d2⟩ := NP.digit_dv hd
            have HXX := hid'' hX
            have HDV : Hid (NP.dv x c' = x * 10 + (c'.toNat - 48)) := rfl
            rw [hd] at kt
            have HJ' : Hid (∃ j, NP.dv x c' < 10 ^ j ∧ j + NP.dc t ≤ 12) := by
              obtain ⟨j, g1, g2⟩ := HJ.out
              rw [if_pos hd] at g2
              refine ⟨j + 1, ?_, by omega⟩
              unfold NP.dv
              rw [Nat.pow_succ]
              omega
            have hxb : x < 100000000000 := by
              obtain ⟨j, g1, g2⟩ := HJ.out
              rw [if_pos hd] at g2
              have : 10 ^ j ≤ 10 ^ 11 := Nat.pow_le_pow_right (by omega) (by omega)
              omega
            clear hX hd HJ hp
            obtain ⟨z, hz⟩ : ∃ z, c'.toNat = z := ⟨_, rfl⟩
            rw [hz] at d1 d2 HDV kt h46
            obtain ⟨v, rfl⟩ : ∃ v, z = 48 + v := ⟨z - 48, by omega⟩
            rw [show 48 + v - 48 = v by omega] at HDV
            by_cases hy : 0 ≤ y
            · rw [if_pos hy] at HXX
              go_wp2_with (go_at_call 20; refine (kt.out _).mono ?_; rintro e w1 ⟨rfl, rfl⟩)
              go_round
              case rel => exact ⟨k + 1, x * 10 + v, y + 1, by go_num, by go_num, by go_num, by omega, by omega, by omega, by rw [HT.out, ← HDV.out]; exact HXX, by rw [HT.out, ← HDV.out]; exact HJ'⟩
              case measure => simp [intOf]; omega
            · rw [if_neg hy] at HXX
              go_wp2_with (go_at_call 20; refine (kt.out _).mono ?_; rintro e w1 ⟨rfl, rfl⟩)
              go_round
              case rel => exact ⟨k + 1, x * 10 + v, y, by go_num, by go_num, by go_num, by omega, by omega, by omega, by rw [HT.out, ← HDV.out]; exact HXX, by rw [HT.out, ← HDV.out]; exact HJ'⟩
              case measure => simp [intOf]; omega
          · rw [if_neg hd] at hX
            have HXX := hid'' hX
            have hdf : WP.digit c' = false := by simpa using hd
            have HJ' : Hid (∃ j, x < 10 ^ j ∧ j + NP.dc t ≤ 12) := by have := HJ.out; rw [hdf] at this; exact this
            rw [hdf] at kt
            clear hX hd hdf HJ hp
            go_wp2_with (go_at_call 20; refine (kt.out _).mono ?_; rintro e w1 ⟨rfl, rfl⟩)
            go_round
            case rel => exact ⟨k + 1, x, y, by go_num, by go_num, by go_num, by omega, by omega, by omega, by rw [HT.out]; exact HXX, by rw [HT.out]; exact HJ'⟩
            case measure => simp [intOf]; omega

set_option maxRecDepth 20000 in
theorem rparse_any (s : ByteArray) (w : World) (hs : s.size ≤ 30) :
    Calls Tryd.prog 9 #[.string s] w fun e w' => e = .returned (rv (NP.parse s.data.toList)) ∧ w' = w := by
  cases hp : NP.parse s.data.toList with
  | some v =>
    obtain ⟨m, d, o, hF⟩ := NP.form_of_parse _ _ hp
    have h := rparse_form s w m d o hF
    have e := NP.parse_form hF
    rw [hp] at e
    have e' := Option.some.inj e
    rw [show rv (some v) = .tuple #[.int .i64 v, .bool true] from rfl, e']
    exact h
  | none =>
    have hno : ¬ ∃ m d o, NP.Form s.data.toList m d o := by
      rintro ⟨m, d, o, hF⟩
      have := NP.parse_form hF
      rw [hp] at this
      cases this
    have HV : rv none = .tuple #[.int .i64 0, .bool false] := rfl
    rw [HV]
    cases hl : s.data.toList with
    | nil =>
      have hz : s = ⟨#[]⟩ := by
        obtain ⟨⟨l⟩⟩ := s
        have : l = [] := hl
        rw [this]
      subst hz
      go_enter Tryd.func9, Tryd.ntmps9
      go_wp2
      exact bodyPost_ret (v := .tuple #[.int .i64 0, .bool false]) (by simp [results, Tryd.results9, go_sem]) rfl ⟨rfl, rfl⟩
    | cons c t =>
      have hne : 0 < s.size := by rw [Lib.size_eq, hl]; simp
      have hc0 : ∀ h, s[0]'h = c := fun h => by
        have e : s.data.toList[0]? = some c := by rw [hl]; rfl
        rw [List.getElem?_eq_getElem (by rw [← Lib.size_eq]; exact h)] at e
        exact Option.some.inj e
      have hne' : ((s.size : Int) == 0) = false := by rw [beq_eq_false_iff_ne]; omega
      obtain ⟨E, hE⟩ : ∃ E, WP.numEnd s.data.toList = E := ⟨_, rfl⟩
      have hEs : E ≠ s.size := by
        intro e
        refine hno (NP.form_of_end _ (by rw [hl]; simp) ?_)
        rw [hE, e, Lib.size_eq]
      have kn := Lib.hid (fun W => numeral_any s 0 W hne (by omega))
      rw [List.drop_zero, hE, Nat.zero_add] at kn
      have hes : ((E : Int) == (s.size : Int)) = false := by rw [beq_eq_false_iff_ne]; omega
      have kc := Lib.hid (fun W => rdigit_any c W)
      obtain ⟨B, hB⟩ : ∃ B, WP.digit c = B := ⟨_, rfl⟩
      rw [hB] at kc
      clear hl hno hp HV hE hB
      cases B with
      | true =>
        go_enter Tryd.func9, Tryd.ntmps9
        go_wp2_with (first
          | (go_at_call 20; refine (kc.out _).mono ?_; rintro e w1 ⟨rfl, rfl⟩)
          | (go_at_call 21; refine (kn.out _).mono ?_; rintro e w1 ⟨rfl, rfl⟩))
        exact bodyPost_ret (v := .tuple #[.int .i64 0, .bool false]) (by simp [results, Tryd.results9, go_sem]) rfl ⟨rfl, rfl⟩
      | false =>
        by_cases h45 : c.toNat = 45
        · have c45 : c = 45 := UInt8.toNat_inj.1 (show c.toNat = 45 from h45)
          subst c45
          have kc' : Hid (∀ W, Calls Tryd.prog 20 #[.int .u8 45] W fun e w' => e = .returned (.bool false) ∧ w' = W) := kc
          clear kc h45
          go_enter Tryd.func9, Tryd.ntmps9
          go_wp2_with (first
            | (go_at_call 20; refine (kc'.out _).mono ?_; rintro e w1 ⟨rfl, rfl⟩)
            | (go_at_call 21; refine (kn.out _).mono ?_; rintro e w1 ⟨rfl, rfl⟩))
          exact bodyPost_ret (v := .tuple #[.int .i64 0, .bool false]) (by simp [results, Tryd.results9, go_sem]) rfl ⟨rfl, rfl⟩
        · have h45' : ((c.toNat : Int) == 45) = false := by rw [beq_eq_false_iff_ne]; omega
          clear h45
          go_enter Tryd.func9, Tryd.ntmps9
          go_wp2_with (first
            | (go_at_call 20; refine (kc.out _).mono ?_; rintro e w1 ⟨rfl, rfl⟩)
            | (go_at_call 21; refine (kn.out _).mono ?_; rintro e w1 ⟨rfl, rfl⟩))
          exact bodyPost_ret (v := .tuple #[.int .i64 0, .bool false]) (by simp [results, Tryd.results9, go_sem]) rfl ⟨rfl, rfl⟩

end Go.Proofs.YtepilofedebmeaaDoor

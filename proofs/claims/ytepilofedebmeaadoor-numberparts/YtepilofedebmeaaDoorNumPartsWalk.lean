/-
  Units and a fraction: walked over the program.
-/
import Derived.Test.YtepilofedebmeaaDoorNumPlaces
import Derived.Test.YtepilofedebmeaaDoorErrsSee
namespace Go.Proofs.YtepilofedebmeaaDoor
open Go.RowKit

theorem app_toArray (a b : List UInt8) : (⟨a.toArray⟩ : ByteArray) ++ ⟨b.toArray⟩ = ⟨(a ++ b).toArray⟩ := by apply ByteArray.ext; simp

theorem places_s (n least B : Nat) (w : World) (hB : B ≤ 6) (hl : least ≤ B) (hn : n < 10 ^ B) :
    Calls Tryd.prog 16 #[.int .i64 n, .int .i64 least] w fun e w' => ∃ S : ByteArray, e = .returned (.string S) ∧ S.size ≤ 6 ∧ Hid (NP.Dig S.data.toList ∧ least ≤ S.data.toList.length ∧ S.data.toList.length ≤ B ∧ NP.val 0 S.data.toList = n) ∧ Below w.heap.size w w' := by
  refine (places_any n least B w hB hl hn).mono ?_
  rintro e w' ⟨l, rfl, h, hb⟩
  refine ⟨⟨l.toArray⟩, rfl, ?_, h, hb⟩
  have := h.out.2.2.1
  rw [Lib.size_eq]
  show l.length ≤ 6
  omega

theorem pp_pos (S1 S2 : ByteArray) (u f D M : Nat) (h1 : NP.Dig S1.data.toList ∧ 1 ≤ S1.data.toList.length ∧ S1.data.toList.length ≤ 6 ∧ NP.val 0 S1.data.toList = u) (h2 : NP.Dig S2.data.toList ∧ D + 1 ≤ S2.data.toList.length ∧ S2.data.toList.length ≤ D + 1 ∧ NP.val 0 S2.data.toList = f) (hD : D < 6) (hM : M = 10 ^ (6 - (D + 1))) :
    NP.parse (S1 ++ ⟨#[46]⟩ ++ S2).data.toList = some ((u : Int) * 1000000 + (f : Int) * (M : Int)) := by
  have e : (S1 ++ ⟨#[46]⟩ ++ S2).data.toList = NP.sg false ++ (S1.data.toList ++ 46 :: S2.data.toList) := by simp [NP.sg]
  rw [e, NP.parse_two false _ _ h1.1 h1.2.1 h1.2.2.1 h2.1 (by omega) (by omega), h1.2.2.2, h2.2.2.2, show S2.data.toList.length = D + 1 by omega, ← hM]
  simp [NP.sgn]
theorem pp_neg (S1 S2 : ByteArray) (u f D M : Nat) (h1 : NP.Dig S1.data.toList ∧ 1 ≤ S1.data.toList.length ∧ S1.data.toList.length ≤ 6 ∧ NP.val 0 S1.data.toList = u) (h2 : NP.Dig S2.data.toList ∧ D + 1 ≤ S2.data.toList.length ∧ S2.data.toList.length ≤ D + 1 ∧ NP.val 0 S2.data.toList = f) (hD : D < 6) (hM : M = 10 ^ (6 - (D + 1))) :
    NP.parse (⟨#[45]⟩ ++ (S1 ++ ⟨#[46]⟩ ++ S2)).data.toList = some (-((u : Int) * 1000000 + (f : Int) * (M : Int))) := by
  have e : (⟨#[45]⟩ ++ (S1 ++ ⟨#[46]⟩ ++ S2) : ByteArray).data.toList = NP.sg true ++ (S1.data.toList ++ 46 :: S2.data.toList) := by simp [NP.sg]
  rw [e, NP.parse_two true _ _ h1.1 h1.2.1 h1.2.2.1 h2.1 (by omega) (by omega), h1.2.2.2, h2.2.2.2, show S2.data.toList.length = D + 1 by omega, ← hM]
  simp [NP.sgn]

theorem pparse_pos (u f D M Z : Nat) (hD : D < 6) (hM : M = 10 ^ (6 - (D + 1))) (hZ : (f : Int) * (M : Int) = (Z : Int)) (ea : Addr) (S1 S2 : ByteArray) (W : World) (hE : W.cell? ⟨0, 0, none⟩ = some (.iface 105 (.pointer (some ea)))) (z1 : S1.size ≤ 6) (z2 : S2.size ≤ 6)
    (h1 : Hid (NP.Dig S1.data.toList ∧ 1 ≤ S1.data.toList.length ∧ S1.data.toList.length ≤ 6 ∧ NP.val 0 S1.data.toList = u)) (h2 : Hid (NP.Dig S2.data.toList ∧ D + 1 ≤ S2.data.toList.length ∧ S2.data.toList.length ≤ D + 1 ∧ NP.val 0 S2.data.toList = f)) :
    Calls Tryd.prog 8 #[.string (S1 ++ ⟨#[46]⟩ ++ S2)] W fun e w' => e = .returned (.tuple #[.int .i64 ((u : Int) * 1000000 + (Z : Int)), .nilIface]) ∧ ∃ m, w' = W.drewN m := by
  have e1 : (⟨#[46]⟩ : ByteArray).size = 1 := rfl
  have e2 : (⟨#[45]⟩ : ByteArray).size = 1 := rfl
  have h := parse_any (S1 ++ ⟨#[46]⟩ ++ S2) W (by simp only [ByteArray.size_append]; omega) ea hE
  rw [pp_pos S1 S2 u f D M h1.out h2.out hD hM, hZ] at h
  exact h

theorem pparse_neg (u f D M Z : Nat) (hD : D < 6) (hM : M = 10 ^ (6 - (D + 1))) (hZ : (f : Int) * (M : Int) = (Z : Int)) (ea : Addr) (S1 S2 : ByteArray) (W : World) (hE : W.cell? ⟨0, 0, none⟩ = some (.iface 105 (.pointer (some ea)))) (z1 : S1.size ≤ 6) (z2 : S2.size ≤ 6)
    (h1 : Hid (NP.Dig S1.data.toList ∧ 1 ≤ S1.data.toList.length ∧ S1.data.toList.length ≤ 6 ∧ NP.val 0 S1.data.toList = u)) (h2 : Hid (NP.Dig S2.data.toList ∧ D + 1 ≤ S2.data.toList.length ∧ S2.data.toList.length ≤ D + 1 ∧ NP.val 0 S2.data.toList = f)) :
    Calls Tryd.prog 8 #[.string (⟨#[45]⟩ ++ (S1 ++ ⟨#[46]⟩ ++ S2))] W fun e w' => e = .returned (.tuple #[.int .i64 (-((u : Int) * 1000000 + (Z : Int))), .nilIface]) ∧ ∃ m, w' = W.drewN m := by
  have e1 : (⟨#[46]⟩ : ByteArray).size = 1 := rfl
  have e2 : (⟨#[45]⟩ : ByteArray).size = 1 := rfl
  have h := parse_any (⟨#[45]⟩ ++ (S1 ++ ⟨#[46]⟩ ++ S2)) W (by simp only [ByteArray.size_append]; omega) ea hE
  rw [pp_neg S1 S2 u f D M h1.out h2.out hD hM, hZ] at h
  exact h

set_option maxRecDepth 100000 in
set_option maxHeartbeats 4000000 in
theorem nparts_at (a0 a1 a2 : Int) (neg : Bool) (w : World) (ea : Addr) (hE : ∀ W, Below w.heap.size w W → W.cell? ⟨0, 0, none⟩ = some (.iface 105 (.pointer (some ea)))) (htab : Lib.TabIs Tryd.prog w "internal/strconv.uint64pow10" .u64 Lib.pow10Tab)
    (u f D : Nat) (hu : u < 1000000) (hD : D < 6)
    (ku : ∀ W, Calls Tryd.prog 15 #[.int .i64 a0, .int .i64 1000000] W fun e w' => e = .returned (.int .i64 (u : Int)) ∧ w' = W)
    (kd : ∀ W, Calls Tryd.prog 15 #[.int .i64 a2, .int .i64 6] W fun e w' => e = .returned (.int .i64 (D : Int)) ∧ w' = W)
    (hf : f < 10 ^ (D + 1)) (kn : ∀ W, Calls Tryd.prog 15 #[.int .i64 a1, .int .i64 ((10 ^ (D + 1) : Nat) : Int)] W fun e w' => e = .returned (.int .i64 (f : Int)) ∧ w' = W) :
    Calls Tryd.prog 5 #[.int .i64 a0, .int .i64 a1, .int .i64 a2, .bool neg] w fun e w' => e = .returned (.bool true) ∧ Below w.heap.size w w' := by
  have kf := Lib.hid (first9_any w htab)
  have HE := Lib.hid hE
  have KU := Lib.hid ku
  have KD := Lib.hid kd
  have KN := Lib.hid kn
  have k1 := Lib.hid (fun W => places_s u 1 6 W (by omega) (by omega) (by omega))
  have k2 := Lib.hid (fun W => places_s f (D + 1) (D + 1) W (by omega) (by omega) hf)
  have k3 := Lib.hid (fun W => places_s u 6 6 W (by omega) (by omega) (by omega))
  have HF := Lib.hid hf
  clear hE htab ku kd kn hf
  go_enter Tryd.func5, Tryd.ntmps5
  go_wp2_with (first
    | (have v1 := u1; go_at_call 15; refine (KD.out _).mono ?_; rintro e w3 ⟨rfl, rfl⟩)
    | (go_at_call 15; refine (KU.out _).mono ?_; rintro e w3 ⟨rfl, rfl⟩; have u1 : True := trivial)
    | (go_at_call 7; refine kf.out.mono ?_; rintro e w1 ⟨rfl, hb1⟩; have B1 := Lib.hid hb1; clear hb1))
  rename World => wa
  go_loop [10, 11] (fun p i => ∃ P j : Nat, p = .int .i64 P ∧ i = .int .i64 j ∧ j ≤ D + 1 ∧ Hid (P = 10 ^ j)) (fun _ i => 7 - (intOf i).toNat)
  case atStart => exact ⟨1, 0, rfl, rfl, Nat.zero_le _, hid'' (by simp)⟩
  case round =>
    obtain ⟨P, j, rfl, rfl, hj, hP⟩ := hrel
    by_cases hjD : j < D + 1
    · have hPb : P ≤ 100000 := by
        have : 10 ^ j ≤ 10 ^ 5 := Nat.pow_le_pow_right (by omega) (by omega)
        rw [hP.out]; omega
      have q1 : (j : Int) < (D : Int) + 1 := by omega
      go_wp2
      go_round
      case rel => exact ⟨10 * P, j + 1, by go_num, by go_num, by omega, hid'' (by rw [hP.out, Nat.pow_succ, Nat.mul_comm])⟩
      case measure => simp [intOf]; omega
    · have hjj : j = D + 1 := by omega
      subst hjj
      have q1 : ¬ (((D + 1 : Nat) : Int) < (D : Int) + 1) := by omega
      obtain ⟨M, hM⟩ : ∃ M, 10 ^ (6 - (D + 1)) = M := ⟨_, rfl⟩
      have HPM : Hid (P * M = 1000000) := by
        show _ = _
        rw [hP.out, ← hM, ← Nat.pow_add, show D + 1 + (6 - (D + 1)) = 6 by omega]
      have HM := Lib.hid hM.symm
      have hM1 : 1 ≤ M := by rw [← hM]; exact Nat.pow_pos (by omega)
      have hP1 : 1 ≤ P := by rw [hP.out]; exact Nat.pow_pos (by omega)
      have hPb : P ≤ 1000000 := by have := HPM.out; have := Nat.mul_le_mul_left P hM1; omega
      have hMb : M ≤ 1000000 := by have := HPM.out; have := Nat.mul_le_mul_right M hP1; omega
      have hfP : f < P := by rw [hP.out]; exact HF.out
      have hfM : f * M < 1000000 := by
        have := Nat.mul_lt_mul_of_pos_right hfP hM1
        have := HPM.out
        omega
      have hq : (1000000 : Int) / (P : Int) = (M : Int) := by
        have h : 1000000 / P = M := by rw [← HPM.out]; exact Nat.mul_div_cancel_left M (by omega)
        rw [show (1000000 : Int) = ((1000000 : Nat) : Int) from rfl, ← Int.natCast_ediv, h]
      have KN' : Hid (∀ W, Calls Tryd.prog 15 #[.int .i64 a1, .int .i64 (P : Int)] W fun e w' => e = .returned (.int .i64 (f : Int)) ∧ w' = W) := by
        have := KN.out
        rw [← hP.out] at this
        exact this
      obtain ⟨Z, hZ⟩ : ∃ Z, f * M = Z := ⟨_, rfl⟩
      have hZi : (f : Int) * (M : Int) = (Z : Int) := by rw [← hZ]; push_cast; rfl
      rw [hZ] at hfM
      clear hM hj hjD hZ KN
      cases neg with
      | false =>
        have KP := Lib.hid (pparse_pos u f D M Z hD HM.out hZi ea)
        go_wp2_with (first
          | (go_at_call 15; refine (KN'.out _).mono ?_; rintro e w4 ⟨rfl, rfl⟩)
          | (go_at_call 10; refine (whole_some_any S3 u (hw6.out) _).mono ?_; rintro e w8 ⟨rfl, rfl⟩)
          | (go_at_call 8; refine (KP.out S1 S2 w5 (HE.out _ B5.out) z1 z2 h1 h2).mono ?_; rintro e w7 ⟨rfl, mm, rfl⟩)
          | (have v5 := B5; go_at_call 16; refine (k3.out _).mono ?_; rintro e w6 ⟨S3, rfl, z3, h3, hb6⟩
             have B6 := hid'' ((below_drewN B5.out mm).trans (hb6.mono (below_drewN B5.out mm).size))
             have hw6 : Hid (NP.whole S3.data.toList = some u) := (NP.whole_dig h3.out.1 (by have := h3.out.2.1; omega) h3.out.2.2.1).trans (by rw [h3.out.2.2.2]))
          | (have v4 := B4; go_at_call 16; refine (k2.out _).mono ?_; rintro e w5 ⟨S2, rfl, z2, h2, hb5⟩; have B5 := hid'' (B4.out.trans (hb5.mono B4.out.size)))
          | (go_at_call 16; refine (k1.out _).mono ?_; rintro e w4 ⟨S1, rfl, z1, h1, hb4⟩; have B4 := hid'' (B1.out.trans (hb4.mono B1.out.size))))
        go_ret
        exact ⟨rfl, B6.out⟩
      | true =>
        have KP := Lib.hid (pparse_neg u f D M Z hD HM.out hZi ea)
        go_wp2_with (first
          | (go_at_call 15; refine (KN'.out _).mono ?_; rintro e w4 ⟨rfl, rfl⟩)
          | (go_at_call 10; refine (whole_some_any S3 u (hw6.out) _).mono ?_; rintro e w8 ⟨rfl, rfl⟩)
          | (go_at_call 8; refine (KP.out S1 S2 w5 (HE.out _ B5.out) z1 z2 h1 h2).mono ?_; rintro e w7 ⟨rfl, mm, rfl⟩)
          | (have v5 := B5; go_at_call 16; refine (k3.out _).mono ?_; rintro e w6 ⟨S3, rfl, z3, h3, hb6⟩
             have B6 := hid'' ((below_drewN B5.out mm).trans (hb6.mono (below_drewN B5.out mm).size))
             have hw6 : Hid (NP.whole S3.data.toList = some u) := (NP.whole_dig h3.out.1 (by have := h3.out.2.1; omega) h3.out.2.2.1).trans (by rw [h3.out.2.2.2]))
          | (have v4 := B4; go_at_call 16; refine (k2.out _).mono ?_; rintro e w5 ⟨S2, rfl, z2, h2, hb5⟩; have B5 := hid'' (B4.out.trans (hb5.mono B4.out.size)))
          | (go_at_call 16; refine (k1.out _).mono ?_; rintro e w4 ⟨S1, rfl, z1, h1, hb4⟩; have B4 := hid'' (B1.out.trans (hb4.mono B1.out.size))))
        go_ret
        exact ⟨rfl, B6.out⟩

theorem number_nat (n : Int) (b : Nat) (hb : 0 < b) (hb' : b ≤ 1000000000) : ∃ t : Nat, t < b ∧ ∀ W, Calls Tryd.prog 15 #[.int .i64 n, .int .i64 (b : Int)] W fun e w' => e = .returned (.int .i64 (t : Int)) ∧ w' = W := by
  obtain ⟨T, hT, h1, h2⟩ := rem_down n b (by omega)
  refine ⟨(if T < 0 then T + b else T).toNat, by split <;> omega, fun W => ?_⟩
  have h := number_any n b W (by omega) (by omega) T hT
  rw [show (((if T < 0 then T + (b : Int) else T).toNat : Nat) : Int) = (if T < 0 then T + (b : Int) else T) by split <;> omega]
  exact h

theorem wnumparts (a0 a1 a2 : Int) (neg : Bool) (w : World) (A : Nat → Addr) (hE : ErrsL [0] w A) (htab : Lib.TabIs Tryd.prog w "internal/strconv.uint64pow10" .u64 Lib.pow10Tab) :
    Calls Tryd.prog 5 #[.int .i64 a0, .int .i64 a1, .int .i64 a2, .bool neg] w fun e w' => e = .returned (.bool true) ∧ Below w.heap.size w w' := by
  obtain ⟨u, hu, ku⟩ := number_nat a0 1000000 (by omega) (by omega)
  obtain ⟨D, hD, kd⟩ := number_nat a2 6 (by omega) (by omega)
  have hp : 10 ^ (D + 1) ≤ 10 ^ 6 := Nat.pow_le_pow_right (by omega) (by omega)
  obtain ⟨f, hf, kn⟩ := number_nat a1 (10 ^ (D + 1)) (Nat.pow_pos (by omega)) (by omega)
  exact nparts_at a0 a1 a2 neg w (A 0) (fun W hb => ((hE.below hb) 0 (by simp)).1) htab u f D hu hD ku kd hf kn

end Go.Proofs.YtepilofedebmeaaDoor

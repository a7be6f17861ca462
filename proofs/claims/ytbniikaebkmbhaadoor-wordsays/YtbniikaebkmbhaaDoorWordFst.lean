/-
  The word at a text's front: walked over the program.
-/
import Derived.Test.YtbniikaebkmbhaaDoorWordFirst
namespace Go.Proofs.YtbniikaebkmbhaaDoor
open Go.RowKit

def FstPost (w : World) (p : Nat × Nat) (e : Ending) (w' : World) : Prop := e = .returned (.tuple #[.int .i64 (p.1 : Nat), .int .i64 (p.2 : Nat)]) ∧ w' = w

set_option maxRecDepth 20000 in
set_option maxHeartbeats 1000000 in
theorem first_any (s : ByteArray) (w : World) (hs : s.size ≤ 1000000) :
    Calls Tryd.prog 19 #[.string s] w (FstPost w (WP.first s.data.toList)) := by
  cases hl : s.data.toList with
  | nil =>
    have hs : s = ⟨#[]⟩ := ByteArray.ext (Array.toList_eq_nil_iff.1 hl)
    subst hs
    clear hl
    go_enter Tryd.func19, Tryd.ntmps19
    go_wp2
    exact bodyPost_ret (v := .tuple #[.int .i64 0, .int .i64 0]) (by simp [results, Tryd.results19, go_sem]) rfl ⟨rfl, rfl⟩
  | cons c t =>
    obtain ⟨hlt, hc, ht⟩ := at_drop s 0 c t hl
    have hne : s.toList.isEmpty = false := by rw [Lib.toList_data, hl]; rfl
    have ks := hid'' (fun W => isSmall_any c W)
    have kd := hid'' (fun W => isDigit_any c W)
    have kn := hid'' (fun W => nameSize_any s W (by omega))
    have kr := hid'' (fun k W => isReserved_any (s.extract 0 k) W)
    have ku := hid'' (fun W => numberSize_any s W hs)
    have kc := hid'' (fun W => colorSize_any s W hs hlt)
    have km : Hid (∀ W, Calls Tryd.prog 33 #[.string ⟨#[123, 125, 59, 61]⟩, .int .u8 (c.toNat : Int)] W fun e w' => ∃ i : Int, e = .returned (.int .i64 i) ∧ (0 ≤ i ↔ WP.mark c = true) ∧ w' = W) := fun W => idx_any ⟨#[123, 125, 59, 61]⟩ WP.mark WP.idx_mark c W
    have kt : Hid (∀ W, Calls Tryd.prog 33 #[.string ⟨#[77, 76, 81, 67, 65, 66, 90]⟩, .int .u8 (c.toNat : Int)] W fun e w' => ∃ i : Int, e = .returned (.int .i64 i) ∧ (0 ≤ i ↔ WP.step c = true) ∧ w' = W) := fun W => idx_any ⟨#[77, 76, 81, 67, 65, 66, 90]⟩ WP.step WP.idx_step c W
    have kb := hid'' (fun W => begins_any _ _ isSign_any ent_sign (s.extract 1 s.size) W)
    rw [tail_data] at kb
    rw [show s.data.toList.drop 1 = t from ht] at kb
    have hnl := WP.nameSize_le s.data.toList
    rw [← Lib.size_eq] at hnl
    have HF : Hid (WP.first (c :: t) = if WP.small c then (if WP.reserved (s.data.toList.take (WP.nameSize s.data.toList)) then (2, WP.nameSize s.data.toList) else (1, WP.nameSize s.data.toList)) else if c.toNat = 45 ∨ WP.digit c = true then (3, WP.numSize s.data.toList) else if c.toNat = 35 then (4, WP.colSize s.data.toList) else if WP.mark c then (5, 1) else if WP.step c && !WP.begins WP.sign t then (6, 1) else (0, 0)) := by rw [hl]; rfl
    obtain ⟨F, hF⟩ : ∃ F, WP.first (c :: t) = F := ⟨_, rfl⟩
    rw [hF] at HF ⊢
    obtain ⟨n, hn⟩ : ∃ n, WP.nameSize s.data.toList = n := ⟨_, rfl⟩
    rw [hn] at HF kn hnl
    have kr' := hid'' (fun W => kr.out n W)
    rw [head_data] at kr'
    obtain ⟨R, hR⟩ : ∃ R, WP.reserved (s.data.toList.take n) = R := ⟨_, rfl⟩
    rw [hR] at HF kr'
    obtain ⟨u, hu⟩ : ∃ u, WP.numSize s.data.toList = u := ⟨_, rfl⟩
    rw [hu] at HF ku
    obtain ⟨o, ho⟩ : ∃ o, WP.colSize s.data.toList = o := ⟨_, rfl⟩
    rw [ho] at HF kc
    obtain ⟨S, hS⟩ : ∃ S, WP.small c = S := ⟨_, rfl⟩
    rw [hS] at HF ks
    obtain ⟨D, hD⟩ : ∃ D, WP.digit c = D := ⟨_, rfl⟩
    rw [hD] at HF kd
    obtain ⟨M, hM⟩ : ∃ M, WP.mark c = M := ⟨_, rfl⟩
    rw [hM] at HF km
    obtain ⟨T, hT⟩ : ∃ T, WP.step c = T := ⟨_, rfl⟩
    rw [hT] at HF kt
    obtain ⟨B, hB⟩ : ∃ B, WP.begins WP.sign t = B := ⟨_, rfl⟩
    rw [hB] at HF kb
    clear hF hn hR hu ho hS hD hM hT hB hl ht kr
    cases S with
    | true =>
      clear kd ku kc km kt kb
      cases R
      all_goals
        go_enter Tryd.func19, Tryd.ntmps19
        go_wp2_with (first
          | (go_at_call 36; refine (ks.out _).mono ?_; rintro e w1 ⟨rfl, rfl⟩)
          | (go_at_call 37; refine (kn.out _).mono ?_; rintro e w1 ⟨rfl, rfl⟩)
          | (go_at_call 38; refine (kr'.out _).mono ?_; rintro e w1 ⟨rfl, rfl⟩))
      · refine bodyPost_ret (v := .tuple #[.int .i64 1, .int .i64 n]) (by simp [results, Tryd.results19, go_sem]) rfl ⟨?_, rfl⟩
        rw [HF.out]; rfl
      · refine bodyPost_ret (v := .tuple #[.int .i64 2, .int .i64 n]) (by simp [results, Tryd.results19, go_sem]) rfl ⟨?_, rfl⟩
        rw [HF.out]; rfl
    | false =>
      clear kn kr' hnl
      by_cases h45 : c.toNat = 45
      · have d45 : ((c.toNat : Int) == 45) = true := by rw [h45]; rfl
        have HX : Hid (F = (3, u)) := by show _ = _; rw [HF.out, if_neg Bool.false_ne_true, if_pos (.inl h45)]
        clear h45 HF
        go_enter Tryd.func19, Tryd.ntmps19
        go_wp2_with (first
          | (go_at_call 36; refine (ks.out _).mono ?_; rintro e w1 ⟨rfl, rfl⟩)
          | (go_at_call 39; refine (kd.out _).mono ?_; rintro e w1 ⟨rfl, rfl⟩)
          | (go_at_call 40; refine (ku.out _).mono ?_; rintro e w1 ⟨rfl, rfl⟩))
        refine bodyPost_ret (v := .tuple #[.int .i64 3, .int .i64 u]) (by simp [results, Tryd.results19, go_sem]) rfl ⟨?_, rfl⟩
        rw [HX.out]; rfl
      have d45 : ((c.toNat : Int) == 45) = false := by simp; omega
      cases D with
      | true =>
        have HX : Hid (F = (3, u)) := by show _ = _; rw [HF.out, if_neg Bool.false_ne_true, if_pos (.inr rfl)]
        clear h45 HF
        go_enter Tryd.func19, Tryd.ntmps19
        go_wp2_with (first
          | (go_at_call 36; refine (ks.out _).mono ?_; rintro e w1 ⟨rfl, rfl⟩)
          | (go_at_call 39; refine (kd.out _).mono ?_; rintro e w1 ⟨rfl, rfl⟩)
          | (go_at_call 40; refine (ku.out _).mono ?_; rintro e w1 ⟨rfl, rfl⟩))
        refine bodyPost_ret (v := .tuple #[.int .i64 3, .int .i64 u]) (by simp [results, Tryd.results19, go_sem]) rfl ⟨?_, rfl⟩
        rw [HX.out]; rfl
      | false =>
        clear ku
        rw [if_neg Bool.false_ne_true, if_neg (by simp [h45])] at HF
        by_cases h35 : c.toNat = 35
        · have d35 : ((c.toNat : Int) == 35) = true := by rw [h35]; rfl
          have HX : Hid (F = (4, o)) := by show _ = _; rw [HF.out, if_pos h35]
          clear h45 h35 HF
          go_enter Tryd.func19, Tryd.ntmps19
          go_wp2_with (first
            | (go_at_call 36; refine (ks.out _).mono ?_; rintro e w1 ⟨rfl, rfl⟩)
            | (go_at_call 39; refine (kd.out _).mono ?_; rintro e w1 ⟨rfl, rfl⟩)
            | (go_at_call 41; refine (kc.out _).mono ?_; rintro e w1 ⟨rfl, rfl⟩))
          refine bodyPost_ret (v := .tuple #[.int .i64 4, .int .i64 o]) (by simp [results, Tryd.results19, go_sem]) rfl ⟨?_, rfl⟩
          rw [HX.out]; rfl
        have d35 : ((c.toNat : Int) == 35) = false := by simp; omega
        clear kc
        rw [if_neg h35] at HF
        clear h45 h35
        cases M with
        | true =>
          go_enter Tryd.func19, Tryd.ntmps19
          go_wp2_with (first
            | (go_at_call 36; refine (ks.out _).mono ?_; rintro e w1 ⟨rfl, rfl⟩)
            | (go_at_call 39; refine (kd.out _).mono ?_; rintro e w1 ⟨rfl, rfl⟩)
            | (go_at_call 33; refine (km.out _).mono ?_; rintro e w1 ⟨i, rfl, hi, rfl⟩; have hi0 : 0 ≤ i := hi.2 (by trivial); clear hi))
          refine bodyPost_ret (v := .tuple #[.int .i64 5, .int .i64 1]) (by simp [results, Tryd.results19, go_sem]) rfl ⟨?_, rfl⟩
          rw [HF.out]; rfl
        | false =>
          cases T with
          | false =>
            go_enter Tryd.func19, Tryd.ntmps19
            go_wp2_with (first
              | (go_at_call 36; refine (ks.out _).mono ?_; rintro e w1 ⟨rfl, rfl⟩)
              | (go_at_call 39; refine (kd.out _).mono ?_; rintro e w1 ⟨rfl, rfl⟩)
              | (have v1 := u1; go_at_call 33; refine (kt.out _).mono ?_; rintro e w1 ⟨j, rfl, hj, rfl⟩; have hj0 : j < 0 := by { rcases Int.lt_or_le j 0 with h | h; exact h; exact absurd (hj.1 h) (by decide) }; clear hj)
              | (go_at_call 33; refine (km.out _).mono ?_; rintro e w1 ⟨i, rfl, hi, rfl⟩; have hi0 : i < 0 := by { rcases Int.lt_or_le i 0 with h | h; exact h; exact absurd (hi.1 h) (by decide) }; clear hi; have u1 : True := trivial)
              | (go_at_call 42; refine (kb.out _).mono ?_; rintro e w1 ⟨rfl, rfl⟩))
            refine bodyPost_ret (v := .tuple #[.int .i64 0, .int .i64 0]) (by simp [results, Tryd.results19, go_sem]) rfl ⟨?_, rfl⟩
            rw [HF.out]; rfl
          | true =>
            cases B
            all_goals
              go_enter Tryd.func19, Tryd.ntmps19
              go_wp2_with (first
                | (go_at_call 36; refine (ks.out _).mono ?_; rintro e w1 ⟨rfl, rfl⟩)
                | (go_at_call 39; refine (kd.out _).mono ?_; rintro e w1 ⟨rfl, rfl⟩)
                | (have v1 := u1; go_at_call 33; refine (kt.out _).mono ?_; rintro e w1 ⟨j, rfl, hj, rfl⟩; have hj0 : 0 ≤ j := hj.2 (by trivial); clear hj)
                | (go_at_call 33; refine (km.out _).mono ?_; rintro e w1 ⟨i, rfl, hi, rfl⟩; have hi0 : i < 0 := by { rcases Int.lt_or_le i 0 with h | h; exact h; exact absurd (hi.1 h) (by decide) }; clear hi; have u1 : True := trivial)
                | (go_at_call 42; refine (kb.out _).mono ?_; rintro e w1 ⟨rfl, rfl⟩))
            · refine bodyPost_ret (v := .tuple #[.int .i64 6, .int .i64 1]) (by simp [results, Tryd.results19, go_sem]) rfl ⟨?_, rfl⟩
              rw [HF.out]; rfl
            · refine bodyPost_ret (v := .tuple #[.int .i64 0, .int .i64 0]) (by simp [results, Tryd.results19, go_sem]) rfl ⟨?_, rfl⟩
              rw [HF.out]; rfl

namespace WP
def isName (l : List UInt8) : Bool := decide ((first l).1 = 1) && decide ((first l).2 = l.length)
end WP

set_option maxRecDepth 20000 in
theorem isName_any (s : ByteArray) (w : World) (hs : s.size ≤ 1000000) :
    Calls Tryd.prog 10 #[.string s] w fun e w' => e = .returned (.bool (WP.isName s.data.toList)) ∧ w' = w := by
  have kf := hid'' (first_any s w hs)
  unfold FstPost at kf
  have HP : Hid (WP.isName s.data.toList = (decide ((WP.first s.data.toList).1 = 1) && decide ((WP.first s.data.toList).2 = s.size))) := by rw [Lib.size_eq]; rfl
  obtain ⟨P, hP⟩ : ∃ P, WP.isName s.data.toList = P := ⟨_, rfl⟩
  rw [hP] at HP ⊢
  obtain ⟨F, hF⟩ : ∃ F, WP.first s.data.toList = F := ⟨_, rfl⟩
  rw [hF] at HP kf
  obtain ⟨k, n⟩ := F
  simp only at HP kf
  clear hP hF
  have d1 : ((k : Int) == 1) = decide (k = 1) := by rw [Bool.eq_iff_iff]; simp; omega
  have d2 : ((n : Int) == (s.size : Int)) = decide (n = s.size) := by rw [Bool.eq_iff_iff]; simp; omega
  obtain ⟨D1, hD1⟩ : ∃ D, decide (k = 1) = D := ⟨_, rfl⟩
  obtain ⟨D2, hD2⟩ : ∃ D, decide (n = s.size) = D := ⟨_, rfl⟩
  rw [hD1] at d1 HP
  rw [hD2] at d2 HP
  clear hD1 hD2
  cases D1 <;> cases D2
  all_goals
    go_enter Tryd.func10, Tryd.ntmps10
    go_wp2_with (go_at_call 19; refine kf.out.mono ?_; rintro e w1 ⟨rfl, rfl⟩)
    all_goals go_ret
    all_goals exact ⟨ret_bool HP.out.symm, rfl⟩

end Go.Proofs.YtbniikaebkmbhaaDoor

/-
  A number that is written is read as it was; noughts behind change nothing: for every number.
-/
import Derived.Test.YtepilofedebmeaaDoorNumBackWalk
namespace Go.Proofs.YtepilofedebmeaaDoor
open Go.RowKit

theorem whole_not (l : List UInt8) (c : UInt8) (hc : c ∈ l) (hd : WP.digit c = false) : NP.whole l = none := by
  cases h : NP.whole l with
  | none => rfl
  | some v =>
    have := (NP.whole_some h).1 c hc
    rw [hd] at this
    cases this

theorem zs_list (j : Nat) : (Zs j).data.toList = List.replicate j 48 := by simp [Zs]

theorem text_split (N : Int) : NP.text N = NP.sg (decide (N < 0)) ++ (Lib.decDigits (N.natAbs / 1000000) ++ NP.frac (N.natAbs % 1000000)) := rfl

theorem kt_of (T : ByteArray) (N : Int) (W : World) (ea : Addr) (hE : W.cell? ⟨0, 0, none⟩ = some (.iface 105 (.pointer (some ea)))) (hs : T.size ≤ 1000) (hp : NP.parse T.data.toList = some N) :
    Calls Tryd.prog 8 #[.string T] W fun e w' => e = .returned (.tuple #[.int .i64 N, .nilIface]) ∧ ∃ m, w' = W.drewN m := by
  have h := parse_any T W hs ea hE
  rw [hp] at h
  exact h

theorem wnumback (n zeros : Int) (w : World) (A : Nat → Addr) (hE : ErrsL [0] w A) (htab : Lib.TabIs Tryd.prog w "internal/strconv.uint64pow10" .u64 Lib.pow10Tab) :
    Calls Tryd.prog 4 #[.int .i64 n, .int .i64 zeros] w fun e w' => e = .returned (.bool true) ∧ Below w.heap.size w w' := by
  obtain ⟨N, e0, hN1, hN2⟩ := rem_down n 1000000000000 (by omega)
  obtain ⟨T1, e1, b1, b2⟩ := rem_down zeros 7 (by omega)
  obtain ⟨K, e2, b3⟩ := rem_up (T1 + 7) 7 (by omega) (by omega)
  have hK : K < 7 := by omega
  have kf := first9_any w htab
  have hc : ∀ W, Below w.heap.size w W → W.cell? ⟨0, 0, none⟩ = some (.iface 105 (.pointer (some (A 0)))) := fun W hb => ((hE.below hb) 0 (by simp)).1
  obtain ⟨s, hs⟩ : ∃ s : ByteArray, (⟨(NP.text N).toArray⟩ : ByteArray) = s := ⟨_, rfl⟩
  have hsl : s.data.toList = NP.text N := by rw [← hs]
  have ks : ∀ W, Below w.heap.size w W → Calls Tryd.prog 13 #[.int .i64 N] W fun e w' => e = .returned (.string s) ∧ Below W.heap.size W w' := fun W hb => by
    have := show_any N hN1 hN2 W (tab_below htab hb)
    rw [hs] at this
    exact this
  have hu : N.natAbs / 1000000 < 1000000 := by omega
  obtain ⟨l1, l6⟩ := NP.dec_len _ hu
  have hdq := NP.dec_dig (N.natAbs / 1000000)
  have hvq := NP.dec_val (N.natAbs / 1000000)
  have hparse := NP.parse_text N hN1 hN2
  have hts := text_split N
  have hm : decide (N < 0) = !decide (0 ≤ N) := by
    by_cases h : N < 0
    · rw [decide_eq_true h, decide_eq_false (by omega)]; rfl
    · rw [decide_eq_false h, decide_eq_true (by omega)]; rfl
  have hsg1 : (NP.sg (decide (N < 0))).length ≤ 1 := by cases decide (N < 0) <;> decide
  have habs := NP.sgn_abs N
  obtain ⟨m, hmm⟩ : ∃ m, decide (N < 0) = m := ⟨_, rfl⟩
  obtain ⟨q, hq⟩ : ∃ q, N.natAbs / 1000000 = q := ⟨_, rfl⟩
  obtain ⟨dq, hdd⟩ : ∃ d, Lib.decDigits (N.natAbs / 1000000) = d := ⟨_, rfl⟩
  rw [hmm] at hts hsg1 habs
  rw [hdd] at hts l1 l6 hdq hvq
  rw [hq] at hvq
  by_cases hr : N.natAbs % 1000000 = 0
  · rw [show NP.frac (N.natAbs % 1000000) = [] by unfold NP.frac; rw [if_pos hr], List.append_nil] at hts
    have hsz : s.size = (NP.sg m).length + dq.length := by rw [Lib.size_eq, hsl, hts, List.length_append]
    have kp : ∀ W, Below w.heap.size w W → Calls Tryd.prog 8 #[.string s] W fun e w' => e = .returned (.tuple #[.int .i64 N, .nilIface]) ∧ ∃ m, w' = W.drewN m := fun W hb => kt_of s N W (A 0) (hc W hb) (by omega) (by rw [hsl]; exact hparse)
    have kt : ∀ (T : ByteArray) (j : Nat) W, T = (s ++ ⟨#[46]⟩) ++ Zs j → 1 ≤ j → 0 + j ≤ 6 → Below w.heap.size w W → Calls Tryd.prog 8 #[.string T] W fun e w' => e = .returned (.tuple #[.int .i64 N, .nilIface]) ∧ ∃ m, w' = W.drewN m := fun T j W hT h1 h6 hb => by
      refine kt_of T N W (A 0) (hc W hb) ?_ ?_
      · rw [hT, ByteArray.size_append, ByteArray.size_append, hsz, zs_size]
        show _ + 1 + _ ≤ _
        omega
      · have e : T.data.toList = NP.sg m ++ (dq ++ 46 :: List.replicate j 48) := by
          rw [hT]
          simp only [ByteArray.data_append, Array.toList_append, hsl, hts, zs_list]
          simp
        rw [e, NP.parse_two m _ _ hdq l1 l6 (dig_zs j) (by simpa using h1) (by simp; omega), hvq, NP.val_zeros]
        rw [Nat.zero_mul, Nat.zero_mul, Nat.add_zero, show q * 1000000 = N.natAbs by omega, habs]
    have hdot : ∀ k c t, s.data.toList.drop k = c :: t → (c = 46 ↔ (k : Int) = -1) := fun k c t h => by
      rw [hsl, hts] at h
      have := dot_none m dq hdq k c t h
      exact ⟨fun e => absurd e this, fun e => by omega⟩
    have hR : N.tmod 1000000 = 0 := by
      have h1 := Int.natAbs_tmod N 1000000
      have h2 : (N.tmod 1000000).natAbs = 0 := by rw [h1]; exact hr
      omega
    by_cases hn : 0 ≤ N
    · have hm0 : m = false := by rw [← hmm, hm, decide_eq_true hn]; rfl
      have kw : ∀ W, Calls Tryd.prog 10 #[.string s] W fun e w' => e = .returned (.tuple #[.int .i64 (q : Int), .bool true]) ∧ w' = W := fun W => whole_some_any s q (by rw [hsl, hts, hm0]; show NP.whole dq = _; rw [NP.whole_dig hdq l1 l6, hvq]) W
      exact nback_whole_pos n N zeros T1 K q _ (-1) 0 q s (s ++ ⟨#[46]⟩) 0 w e0 hN1 hN2 hsz (by omega) (by omega) e1 b1 b2 e2 hK kf ks kp kt kw hdot rfl rfl hR hn (by rw [Int.tdiv_eq_ediv_of_nonneg hn]; omega) (by omega) (by omega)
    · have hm1 : m = true := by rw [← hmm, hm, decide_eq_false hn]; rfl
      have kw : ∀ W, Calls Tryd.prog 10 #[.string s] W fun e w' => e = .returned (.tuple #[.int .i64 0, .bool false]) ∧ w' = W := fun W => whole_none_any s (by rw [hsl, hts, hm1]; exact whole_not _ 45 (by simp [NP.sg]) (by decide)) W
      exact nback_whole_neg n N zeros T1 K q _ (-1) 0 0 s (s ++ ⟨#[46]⟩) 0 w e0 hN1 hN2 hsz (by omega) (by omega) e1 b1 b2 e2 hK kf ks kp kt kw hdot rfl rfl hR hn
  · obtain ⟨f, ef, hf, f1, f6, hfv, hfl⟩ := NP.frac_is _ hr (by omega)
    rw [ef] at hts
    obtain ⟨g, hg⟩ : ∃ g, f.length = g := ⟨_, rfl⟩
    obtain ⟨c0, hc0, hc48, hc46⟩ : ∃ c, f.getLast? = some c ∧ c ≠ 48 ∧ c ≠ 46 := by
      cases hx : f.getLast? with
      | none => rw [List.getLast?_eq_none_iff.1 hx] at f1; simp at f1
      | some c =>
        refine ⟨c, rfl, hfl c hx, fun e => ?_⟩
        rw [e] at hx
        exact dig46 f hf (List.mem_of_getLast? hx)
    have hsz : s.size = (NP.sg m).length + dq.length + 1 + g := by rw [Lib.size_eq, hsl, hts, ← hg]; simp only [List.length_append, List.length_cons]; omega
    have kp : ∀ W, Below w.heap.size w W → Calls Tryd.prog 8 #[.string s] W fun e w' => e = .returned (.tuple #[.int .i64 N, .nilIface]) ∧ ∃ m, w' = W.drewN m := fun W hb => kt_of s N W (A 0) (hc W hb) (by omega) (by rw [hsl]; exact hparse)
    have kt : ∀ (T : ByteArray) (j : Nat) W, T = s ++ Zs j → g + j ≤ 6 → Below w.heap.size w W → Calls Tryd.prog 8 #[.string T] W fun e w' => e = .returned (.tuple #[.int .i64 N, .nilIface]) ∧ ∃ m, w' = W.drewN m := fun T j W hT h6 hb => by
      refine kt_of T N W (A 0) (hc W hb) ?_ ?_
      · rw [hT, ByteArray.size_append, hsz, zs_size]; omega
      · have e : T.data.toList = NP.sg m ++ (dq ++ 46 :: (f ++ List.replicate j 48)) := by
          rw [hT]
          simp only [ByteArray.data_append, Array.toList_append, hsl, hts, zs_list]
          simp
        rw [e, NP.parse_two m _ _ hdq l1 l6 (dig_app hf (dig_zs j)) (by rw [List.length_append]; omega) (by rw [List.length_append, List.length_replicate]; omega), hvq, NP.val_append, NP.val_zeros]
        rw [List.length_append, List.length_replicate, hg, Nat.mul_assoc, ← Nat.pow_add, show j + (6 - (g + j)) = 6 - g by omega, ← hg, hfv, show q * 1000000 + N.natAbs % 1000000 = N.natAbs by omega, habs]
    have hdot : ∀ k c t, s.data.toList.drop k = c :: t → (c = 46 ↔ (k : Int) = (((NP.sg m).length + dq.length : Nat) : Int)) := fun k c t h => by
      rw [hsl, hts] at h
      rw [dot_some m dq f hdq hf k c t h]
      omega
    have hRne : N.tmod 1000000 ≠ 0 := by
      intro e
      have h1 := Int.natAbs_tmod N 1000000
      rw [e] at h1
      exact hr h1.symm
    have hlast : s.data.toList.getLast? = some c0 := by
      rw [hsl, hts]
      rw [show NP.sg m ++ (dq ++ 46 :: f) = (NP.sg m ++ dq ++ [46]) ++ f by simp, List.getLast?_append, hc0]
      rfl
    have i48 : ((c0.toNat : Int) == 48) = false := by
      rw [beq_eq_false_iff_ne]; intro e; exact hc48 (UInt8.toNat_inj.1 (show c0.toNat = 48 by omega))
    have i46 : ((c0.toNat : Int) == 46) = false := by
      rw [beq_eq_false_iff_ne]; intro e; exact hc46 (UInt8.toNat_inj.1 (show c0.toNat = 46 by omega))
    have kw : ∀ W, Calls Tryd.prog 10 #[.string s] W fun e w' => e = .returned (.tuple #[.int .i64 0, .bool false]) ∧ w' = W := fun W => whole_none_any s (by rw [hsl, hts]; exact whole_not _ 46 (by simp) (by decide)) W
    by_cases hn : 0 ≤ N
    · exact nback_part_pos n N zeros T1 K q _ g _ _ _ 0 s s c0 w e0 hN1 hN2 hsz (by omega) (by omega) e1 b1 b2 e2 hK kf ks kp kt kw hdot rfl rfl (by omega) rfl (by omega) (by omega) rfl hRne hlast i48 i46 hn
    · exact nback_part_neg n N zeros T1 K q _ g _ _ _ 0 s s c0 w e0 hN1 hN2 hsz (by omega) (by omega) e1 b1 b2 e2 hK kf ks kp kt kw hdot rfl rfl (by omega) rfl (by omega) (by omega) rfl hRne hlast i48 i46 hn

end Go.Proofs.YtepilofedebmeaaDoor

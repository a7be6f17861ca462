/-
  Words and the document's words side by side: walked over the program.
-/
import Derived.Test.YtbniikaebkmbhaaDoorWordErrB
import Derived.Test.YtbniikaebkmbhaaDoorWordRef7
namespace Go.Proofs.YtbniikaebkmbhaaDoor
open Go.RowKit

theorem own_rw {w : World} {B : Nat} {T : TypeId} {ad : Option Addr} {cap : Nat} {ws : List WP.W} (h : Own w B T 3 wcells ad cap ws) (hne : ws ≠ []) :
    ∃ g, ad = some ⟨g, 0, none⟩ ∧ g < w.heap.size ∧ ∀ (k : Nat) (hk : k < ws.length), w.cell? ⟨g, k * 3, none⟩ = some (.int .i64 (ws[k].1 : Nat)) ∧ w.cell? ⟨g, k * 3 + 1, none⟩ = some (.int .i64 (ws[k].2.1 : Nat)) ∧ w.cell? ⟨g, k * 3 + 2, none⟩ = some (.string ⟨ws[k].2.2.toArray⟩) := by
  have h0 : 0 < ws.length := List.length_pos_iff.2 hne
  rcases h.2 with ⟨_, h2⟩ | ⟨g, c, cur, h1, -, h3, -⟩
  · omega
  · have e : ad = some ⟨g, 0, none⟩ := by cases h1; rfl
    refine ⟨g, e, (Array.getElem?_eq_some_iff.1 h3).1, fun k hk => ?_⟩
    have key : ∀ j u, (wcells ws[k])[j]? = some u → w.cell? ⟨g, k * 3 + j, none⟩ = some u := fun j u hj => by
      have hj3 : j < 3 := by
        rcases Nat.lt_or_ge j 3 with h | h
        · exact h
        · rw [List.getElem?_eq_none (by rw [w_len]; exact h)] at hj; cases hj
      have := World.ownsRow.cells h (g := g) (by rw [h1]; rfl) (k * 3 + j) u (by rw [flat_at wcells 3 w_len ws k hk j hj3]; exact hj)
      rw [Addr.add_lit] at this
      simpa using this
    exact ⟨key 0 _ rfl, key 1 _ rfl, key 2 _ rfl⟩

set_option maxRecDepth 20000 in
set_option maxHeartbeats 1000000 in
theorem same_any (ws : List WP.W) (n cap1 cap2 : Nat) (ad1 ad2 : Option Addr) (w : World) (hn : ws.length = n) (hn2 : n ≤ 1000000) (B1 B2 : Nat) (h1 : Own w B1 44 3 wcells ad1 cap1 ws) (h2 : Own w B2 57 3 wcells ad2 cap2 ws) :
    Calls Tryd.prog 8 #[.slice ad1 n cap1, .slice ad2 n cap2] w fun e w' => e = .returned (.bool true) ∧ ∃ m, w' = w.drewN m := by
  have HC : Hid (∀ k, k < n → ∃ g1 g2 a b T, ad1 = some ⟨g1, 0, none⟩ ∧ ad2 = some ⟨g2, 0, none⟩ ∧ w.cell? ⟨g1, k * 3, none⟩ = some (.int .i64 a) ∧ w.cell? ⟨g1, k * 3 + 1, none⟩ = some (.int .i64 b) ∧ w.cell? ⟨g1, k * 3 + 2, none⟩ = some (.string T) ∧ w.cell? ⟨g2, k * 3, none⟩ = some (.int .i64 a) ∧ w.cell? ⟨g2, k * 3 + 1, none⟩ = some (.int .i64 b) ∧ w.cell? ⟨g2, k * 3 + 2, none⟩ = some (.string T)) := fun k hk => by
    have hne : ws ≠ [] := by intro e; rw [e] at hn; simp at hn; omega
    obtain ⟨g1, e1, -, c1⟩ := own_rw h1 hne
    obtain ⟨g2, e2, -, c2⟩ := own_rw h2 hne
    have hk' : k < ws.length := by omega
    obtain ⟨x1, x2, x3⟩ := c1 k hk'
    obtain ⟨y1, y2, y3⟩ := c2 k hk'
    exact ⟨g1, g2, _, _, _, e1, e2, x1, x2, x3, y1, y2, y3⟩
  clear h1 h2 hn
  go_enter Tryd.func8, Tryd.ntmps8
  go_wp2
  go_loopw [5] (fun i wr => ∃ (k d : Nat), k ≤ n ∧ i = .int .i64 k ∧ wr = w.drewN d) (fun i _ => n - (intOf i).toNat)
  case atStart => exact ⟨0, 0, Nat.zero_le _, rfl, rfl⟩
  case round =>
    obtain ⟨k, d, hk, rfl, rfl⟩ := hrel
    by_cases hkn : k < n
    · obtain ⟨g1, g2, a, b, T, rfl, rfl, x1, x2, x3, y1, y2, y3⟩ := HC.out k hkn
      have hki : (k : Int) < (n : Int) := by omega
      have hk0 : (0 : Int) ≤ (k : Int) := by omega
      go_wp2
      go_quiet (fail)
      go_wp2
      go_roundw
      case rel => exact ⟨k + 1, _, by omega, by go_num, rfl⟩
      case measure => simp [intOf]; omega
    · obtain rfl : k = n := by omega
      have hki : ¬ ((k : Int) < (k : Int)) := by omega
      clear hkn
      go_wp2
      go_ret
      exact ⟨rfl, _, rfl⟩

namespace WP
theorem all_count (p : UInt8 → Bool) (l : List UInt8) : count p l = l.length ↔ ∀ c ∈ l, p c = true := by
  induction l with
  | nil => simp [count]
  | cons c t ih =>
    by_cases h : p c = true
    · simp [count, h, ih]
    · simp [count, h]
theorem isName_iff (c : UInt8) (t : List UInt8) : isName (c :: t) = (decide ((c :: t).length ≤ 24) && small c && !reserved (c :: t) && decide (count nsign (c :: t) = (c :: t).length)) := by
  have hle := count_le nsign (c :: t)
  unfold isName first nameSize
  by_cases h1 : small c = true
  · simp only [h1, if_true]
    obtain ⟨N, hN⟩ : ∃ N, count nsign (c :: t) = N := ⟨_, rfl⟩
    have h0 : N ≠ 0 := by rw [← hN]; simp [count, nsign, h1]
    rw [hN] at hle ⊢
    by_cases h2 : 24 < N
    · have h3 : ¬ ((c :: t).length ≤ 24) := by omega
      have h5 : reserved [] = false := by decide
      simp only [if_pos h2, List.take_zero, h5, decide_eq_false h3]
      simp
    · simp only [if_neg h2]
      by_cases h3 : N = (c :: t).length
      · have h4 : (c :: t).take N = c :: t := by rw [h3]; exact List.take_length
        have h5 : (c :: t).length ≤ 24 := by omega
        have h7 : t.length + 1 ≤ 24 := by simpa using h5
        rw [h4]
        cases reserved (c :: t)
        · simp [h3]; omega
        · simp
      · have h6 : decide (N = (c :: t).length) = false := decide_eq_false h3
        rw [h6, Bool.and_false]
        cases reserved ((c :: t).take N) <;> simp
        all_goals (intro e; exact h3 (by simpa using e))
  · have h1' : small c = false := by simpa using h1
    simp only [h1', Bool.and_false, Bool.false_and, if_neg Bool.false_ne_true]
    split <;> (try split) <;> (try split) <;> (try split) <;> simp
end WP

set_option maxRecDepth 20000 in
set_option maxHeartbeats 2000000 in
/-- The document's IsName. -/
theorem risname_any (s : ByteArray) (w : World) (hs : s.size ≤ 1000000) :
    Calls Tryd.prog 11 #[.string s] w fun e w' => e = .returned (.bool (WP.isName s.data.toList)) ∧ Below w.heap.size w w' := by
  cases hl : s.data.toList with
  | nil =>
    have hs : s = ⟨#[]⟩ := ByteArray.ext (Array.toList_eq_nil_iff.1 hl)
    subst hs
    clear hl
    go_enter Tryd.func11, Tryd.ntmps11
    go_wp2
    all_goals go_ret
    all_goals exact ⟨rfl, Below.refl _ _⟩
  | cons c t =>
    obtain ⟨hlt, hc, -⟩ := at_drop s 0 c t hl
    have HP := hid'' (WP.isName_iff c t)
    obtain ⟨P, hP⟩ : ∃ P, WP.isName (c :: t) = P := ⟨_, rfl⟩
    rw [hP] at HP ⊢
    have kr := hid'' (fun W => rreserved_any s W)
    have kl := hid'' (fun W => rlow_any c W)
    have ki := hid'' (fun c W => rinner_any c W)
    rw [← hl, ← Lib.size_eq] at HP
    obtain ⟨S, hS⟩ : ∃ S, WP.small c = S := ⟨_, rfl⟩
    obtain ⟨R, hR⟩ : ∃ R, WP.reserved s.data.toList = R := ⟨_, rfl⟩
    rw [hS] at HP kl
    rw [hR] at HP kr
    have hz0 : ((s.size : Int) == 0) = false := by rw [beq_eq_false_iff_ne]; omega
    have hz1 : ¬ ((s.size : Int) = 0) := by omega
    clear hP hS hR hl
    by_cases h24 : s.size ≤ 24
    · have h24i : ¬ ((24 : Int) < (s.size : Int)) := by omega
      rw [decide_eq_true h24, Bool.true_and] at HP
      cases S with
      | false =>
        have HX : Hid (P = false) := by show _ = _; rw [HP.out]; rfl
        clear HP
        go_enter Tryd.func11, Tryd.ntmps11
        go_wp2_with (go_at_call 26; refine (kl.out _).mono ?_; rintro e w1 ⟨rfl, rfl⟩)
        all_goals go_ret
        all_goals exact ⟨ret_bool HX.out.symm, Below.refl _ _⟩
      | true =>
        cases R with
        | true =>
          have HX : Hid (P = false) := by show _ = _; rw [HP.out]; rfl
          clear HP
          go_enter Tryd.func11, Tryd.ntmps11
          go_wp2_with (first
            | (go_at_call 26; refine (kl.out _).mono ?_; rintro e w1 ⟨rfl, rfl⟩)
            | (go_at_call 27; refine (kr.out _).mono ?_; rintro e w2 ⟨rfl, hb2⟩; have HB2 := hid'' hb2; clear hb2))
          all_goals go_ret
          all_goals exact ⟨ret_bool HX.out.symm, HB2.out⟩
        | false =>
          have HX : Hid (P = decide (WP.count WP.nsign s.data.toList = s.size)) := by show _ = _; rw [HP.out]; simp
          obtain ⟨N, hN⟩ : ∃ N, WP.count WP.nsign s.data.toList = N := ⟨_, rfl⟩
          rw [hN] at HX
          have HN := hid'' hN
          clear HP hN
          go_enter Tryd.func11, Tryd.ntmps11
          go_wp2_with (first
            | (go_at_call 26; refine (kl.out _).mono ?_; rintro e w1 ⟨rfl, rfl⟩)
            | (go_at_call 27; refine (kr.out _).mono ?_; rintro e w2 ⟨rfl, hb2⟩; have HB2 := hid'' hb2; clear hb2))
          go_loop [3] (fun i => ∃ m : Nat, i = .int .i64 m ∧ m ≤ s.size ∧ Hid (N = m + WP.count WP.nsign (s.data.toList.drop m))) (fun i => s.size - (intOf i).toNat)
          case atStart => exact ⟨0, rfl, Nat.zero_le _, by rw [List.drop_zero, Nat.zero_add]; exact HN.out.symm⟩
          case round =>
            obtain ⟨m, rfl, hm, HM0⟩ := hrel
            cases hl3 : s.data.toList.drop m with
            | nil =>
              have h0 := drop_nil s m hl3
              have hks : ¬ ((m : Int) < (s.size : Int)) := by omega
              have HM : Hid (N = s.size) := by show _ = _; rw [HM0.out, hl3]; show m + 0 = _; omega
              clear hl3 h0 HM0
              go_wp2
              go_ret
              exact ⟨ret_bool (by rw [HX.out, HM.out]; simp), HB2.out⟩
            | cons c3 t3 =>
              obtain ⟨hlt3, hc3, -⟩ := at_drop s m c3 t3 hl3
              have hks : (m : Int) < (s.size : Int) := by omega
              have kt := hid'' (fun W => ki.out c3 W)
              obtain ⟨B, hB⟩ : ∃ B, WP.nsign c3 = B := ⟨_, rfl⟩
              rw [hB] at kt
              cases B with
              | true =>
                have HM : Hid (N = m + 1 + WP.count WP.nsign (s.data.toList.drop (m + 1))) := by show _ = _; rw [HM0.out, WP.count_more WP.nsign _ m c3 t3 hl3 hB]; omega
                clear hl3 hB HM0
                go_wp2_with (go_at_call 28; refine (kt.out _).mono ?_; rintro e w1 ⟨rfl, rfl⟩)
                go_round
                case rel => exact ⟨m + 1, by go_num, by omega, HM⟩
                case measure => simp [intOf]; omega
              | false =>
                have HM : Hid (N = m) := by show _ = _; rw [HM0.out, hl3]; simp [WP.count, hB]
                clear hl3 hB HM0
                go_wp2_with (go_at_call 28; refine (kt.out _).mono ?_; rintro e w1 ⟨rfl, rfl⟩)
                go_ret
                exact ⟨ret_bool (by rw [HX.out, HM.out]; symm; apply decide_eq_false; omega), HB2.out⟩
    · have h24i : (24 : Int) < (s.size : Int) := by omega
      have HX : Hid (P = false) := by show _ = _; rw [HP.out, decide_eq_false h24]; rfl
      clear HP
      go_enter Tryd.func11, Tryd.ntmps11
      go_wp2
      all_goals go_ret
      all_goals exact ⟨ret_bool HX.out.symm, Below.refl _ _⟩

end Go.Proofs.YtbniikaebkmbhaaDoor

/-
  The rules of the numbers: what each answers, walked over the program.
-/
import Derived.Test.YtcnlkdoifogkbaaGreatDoorDecNum
import Derived.Laws.Bits64b
namespace Go.Proofs.YtcnlkdoifogkbaaGreatDoor
open Go.RowKit

theorem ent_between : Enters 82 := fun args W => Tryz.call82 args W
theorem ent_atMost : Enters 84 := fun args W => Tryz.call84 args W
theorem ent_cmd : Enters 85 := fun args W => Tryz.call85 args W
theorem ent_paths : Enters 89 := fun args W => Tryz.call89 args W
theorem ent_length : Enters 86 := fun args W => Tryz.call86 args W
theorem ent_place : Enters 117 := fun args W => Tryz.call117 args W
theorem ent_path : Enters 111 := fun args W => Tryz.call111 args W
theorem ent_run : Enters 119 := fun args W => Tryz.call119 args W
theorem ent_part : Enters 124 := fun args W => Tryz.call124 args W

theorem low2_u64 (n : Nat) (h : n < 18446744073709551616) : bits .and .u64 (n : Int) 3 = ((n % 4 : Nat) : Int) := by
  have := bits_and_u64_nat n 3 h (by omega)
  rw [show (3 : Nat) = 2 ^ 2 - 1 from rfl, Nat.and_two_pow_sub_one_eq_mod] at this
  exact this
theorem low1_u64 (n : Nat) (h : n < 18446744073709551616) : bits .and .u64 (n : Int) 1 = ((n % 2 : Nat) : Int) := by
  have := bits_and_u64_nat n 1 h (by omega)
  rw [show (1 : Nat) = 2 ^ 1 - 1 from rfl, Nat.and_two_pow_sub_one_eq_mod] at this
  exact this

theorem Base.range {x : Src} {q : Nat} {w : World} (h : Base x q w) : w.cell? ⟨1, 0, none⟩ = some (.iface 173 (.pointer (some (x.A (perm 4))))) := h.err 4 (by omega)
theorem Base.limit {x : Src} {q : Nat} {w : World} (h : Base x q w) : w.cell? ⟨0, 0, none⟩ = some (.iface 173 (.pointer (some (x.A (perm 5))))) := h.err 5 (by omega)
theorem Base.short {x : Src} {q : Nat} {w : World} (h : Base x q w) : w.cell? ⟨3, 0, none⟩ = some (.iface 173 (.pointer (some (x.A (perm 6))))) := h.err 6 (by omega)
theorem Base.magic {x : Src} {q : Nat} {w : World} (h : Base x q w) : w.cell? ⟨4, 0, none⟩ = some (.iface 173 (.pointer (some (x.A (perm 7))))) := h.err 7 (by omega)
theorem Base.canon {x : Src} {q : Nat} {w : World} (h : Base x q w) : w.cell? ⟨2, 0, none⟩ = some (.iface 173 (.pointer (some (x.A (perm 9))))) := h.err 9 (by omega)
theorem Base.trail {x : Src} {q : Nat} {w : World} (h : Base x q w) : w.cell? ⟨5, 0, none⟩ = some (.iface 173 (.pointer (some (x.A (perm 10))))) := h.err 10 (by omega)

theorem ret_w {a b : Value} (h : a = b) : Ending.returned a = .returned b := by rw [h]

set_option maxRecDepth 20000 in
theorem between1_any (x : Src) (q lo hi n g1 g2 : Nat) (w : World) (hB : Base x q w) (h1 : w.cell? ⟨g1, 0, none⟩ = some (.int .u64 lo)) (h2 : w.cell? ⟨g2, 0, none⟩ = some (.int .u64 hi)) :
    Calls Tryz.prog 82 #[.int .u64 n, .pointer (some ⟨g1, 0, none⟩), .pointer (some ⟨g2, 0, none⟩)] w fun e w' => e = .returned (errO x.A (DP.between lo hi n)) ∧ w' = w := by
  have e4 := hB.range
  clear hB
  obtain ⟨R, hR⟩ : ∃ R, DP.between lo hi n = R := ⟨_, rfl⟩
  have HR : Hid (DP.between lo hi n = R) := hR
  rw [hR]
  clear hR
  go_enter Tryz.func82, Tryz.ntmps82
  by_cases a : n < lo
  · go_wp2
    go_ret
    exact ⟨ret_w (by rw [← HR.out, DP.between, if_pos (.inl a)]; rfl), rfl⟩
  · by_cases b : hi < n
    · go_wp2
      go_ret
      exact ⟨ret_w (by rw [← HR.out, DP.between, if_pos (.inr b)]; rfl), rfl⟩
    · go_wp2
      go_ret
      exact ⟨ret_w (by rw [← HR.out, DP.between, if_neg (by omega)]; rfl), rfl⟩

theorem rule_between (x : Src) (q lo hi g1 g2 : Nat) (w : World) (hB : Base x q w) (h1 : w.cell? ⟨g1, 0, none⟩ = some (.int .u64 lo)) (h2 : w.cell? ⟨g2, 0, none⟩ = some (.int .u64 hi)) (s1 : g1 < w.heap.size) (s2 : g2 < w.heap.size) :
    Rule x w (DP.between lo hi) 82 #[] #[.pointer (some ⟨g1, 0, none⟩), .pointer (some ⟨g2, 0, none⟩)] :=
  ⟨ent_between, fun n W _ hb => (between1_any x q lo hi n g1 g2 W (hB.low (hb.mono hB.qlt)) ((hb.cell (p := ⟨g1, 0, none⟩) s1).trans h1) ((hb.cell (p := ⟨g2, 0, none⟩) s2).trans h2)).mono fun e w' ⟨a, b⟩ => by subst b; exact ⟨a, Below.refl _ _⟩⟩

set_option maxRecDepth 20000 in
theorem mkbetween (lo hi : Nat) (w : World) :
    Calls Tryz.prog 55 #[.int .u64 lo, .int .u64 hi] w fun e w' => e = .returned (.func (.func 82) #[] #[.pointer (some ⟨w.heap.size, 0, none⟩), .pointer (some ⟨w.heap.size + 1, 0, none⟩)]) ∧ w'.cell? ⟨w.heap.size, 0, none⟩ = some (.int .u64 lo) ∧ w'.cell? ⟨w.heap.size + 1, 0, none⟩ = some (.int .u64 hi) ∧ w.heap.size + 2 ≤ w'.heap.size ∧ Below w.heap.size w w' := by
  go_enter Tryz.func55, Tryz.ntmps55
  go_wp2
  go_ret
  exact ⟨rfl, by simp, by simp, by simp, ((Below.refl _ _).alloc (Nat.le_refl _) _).alloc (by simp) _⟩

set_option maxRecDepth 20000 in
theorem atMost1_any (x : Src) (q m n g1 : Nat) (w : World) (hB : Base x q w) (h1 : w.cell? ⟨g1, 0, none⟩ = some (.int .u64 m)) :
    Calls Tryz.prog 84 #[.int .u64 n, .pointer (some ⟨g1, 0, none⟩)] w fun e w' => e = .returned (errO x.A (DP.atMost m n)) ∧ w' = w := by
  have e4 := hB.limit
  clear hB
  obtain ⟨R, hR⟩ : ∃ R, DP.atMost m n = R := ⟨_, rfl⟩
  have HR : Hid (DP.atMost m n = R) := hR
  rw [hR]
  clear hR
  go_enter Tryz.func84, Tryz.ntmps84
  by_cases b : m < n
  · go_wp2
    go_ret
    exact ⟨ret_w (by rw [← HR.out, DP.atMost, if_pos b]; rfl), rfl⟩
  · go_wp2
    go_ret
    exact ⟨ret_w (by rw [← HR.out, DP.atMost, if_neg b]; rfl), rfl⟩

theorem rule_atMost (x : Src) (q m g1 : Nat) (w : World) (hB : Base x q w) (h1 : w.cell? ⟨g1, 0, none⟩ = some (.int .u64 m)) (s1 : g1 < w.heap.size) :
    Rule x w (DP.atMost m) 84 #[] #[.pointer (some ⟨g1, 0, none⟩)] :=
  ⟨ent_atMost, fun n W _ hb => (atMost1_any x q m n g1 W (hB.low (hb.mono hB.qlt)) ((hb.cell (p := ⟨g1, 0, none⟩) s1).trans h1)).mono fun e w' ⟨a, b⟩ => by subst b; exact ⟨a, Below.refl _ _⟩⟩

set_option maxRecDepth 20000 in
theorem mkatMost (m : Nat) (w : World) :
    Calls Tryz.prog 58 #[.int .u64 m] w fun e w' => e = .returned (.func (.func 84) #[] #[.pointer (some ⟨w.heap.size, 0, none⟩)]) ∧ w'.cell? ⟨w.heap.size, 0, none⟩ = some (.int .u64 m) ∧ w.heap.size + 1 ≤ w'.heap.size ∧ Below w.heap.size w w' := by
  go_enter Tryz.func58, Tryz.ntmps58
  go_wp2
  go_ret
  exact ⟨rfl, by simp, by simp, (Below.refl _ _).alloc (Nat.le_refl _) _⟩

set_option maxRecDepth 20000 in
theorem cmdRule_any (x : Src) (q n : Nat) (w : World) (hB : Base x q w) (hn : n < 18446744073709551616) :
    Calls Tryz.prog 85 #[.int .u64 n] w fun e w' => e = .returned (errO x.A (DP.cmdRule n)) ∧ w' = w := by
  have e4 := hB.range
  clear hB
  obtain ⟨R, hR⟩ : ∃ R, DP.cmdRule n = R := ⟨_, rfl⟩
  have HR : Hid (DP.cmdRule n = R) := hR
  rw [hR]
  clear hR
  have h3 := low2_u64 n hn
  obtain ⟨d, hd⟩ : ∃ d, n / 4 = d := ⟨_, rfl⟩
  have hd' : (n : Int) / 4 = (d : Int) := by omega
  obtain ⟨k, hk⟩ : ∃ k, n % 4 = k := ⟨_, rfl⟩
  rw [hk] at h3
  have HD : Hid (n / 4 = d ∧ n % 4 = k) := ⟨hd, hk⟩
  clear hd hk
  go_enter Tryz.func85, Tryz.ntmps85
  by_cases a : 2 < d
  · go_wp2
    go_ret
    exact ⟨ret_w (by rw [← HR.out, DP.cmdRule, HD.out.1, if_pos (.inl a)]; rfl), rfl⟩
  · by_cases b : k = 3
    · subst b
      go_wp2
      go_ret
      exact ⟨ret_w (by rw [← HR.out, DP.cmdRule, if_pos (.inr HD.out.2)]; rfl), rfl⟩
    · have b' : ((k : Int) == 3) = false := by simp; omega
      go_wp2
      go_ret
      exact ⟨ret_w (by rw [← HR.out, DP.cmdRule, HD.out.1, HD.out.2, if_neg (by omega)]; rfl), rfl⟩

theorem rule_cmd (x : Src) (q : Nat) (w : World) (hB : Base x q w) : Rule x w DP.cmdRule 85 #[] #[] :=
  ⟨ent_cmd, fun n W hn hb => (cmdRule_any x q n W (hB.low (hb.mono hB.qlt)) hn).mono fun e w' ⟨a, b⟩ => by subst b; exact ⟨a, Below.refl _ _⟩⟩

set_option maxRecDepth 20000 in
theorem pathsRule_any (x : Src) (q n : Nat) (w : World) (hB : Base x q w) :
    Calls Tryz.prog 89 #[.int .u64 n] w fun e w' => e = .returned (errO x.A (DP.pathsRule n)) ∧ Below w.heap.size w w' := by
  have e4 := hB.range
  have km : Hid (Calls Tryz.prog 58 #[.int .u64 200] w fun e w' => e = .returned (.func (.func 84) #[] #[.pointer (some ⟨w.heap.size, 0, none⟩)]) ∧ w'.cell? ⟨w.heap.size, 0, none⟩ = some (.int .u64 200) ∧ w.heap.size + 1 ≤ w'.heap.size ∧ Below w.heap.size w w') := mkatMost 200 w
  have ka : Hid (∀ W, Below w.heap.size w W → W.cell? ⟨w.heap.size, 0, none⟩ = some (.int .u64 200) → Calls Tryz.prog 84 #[.int .u64 n, .pointer (some ⟨w.heap.size, 0, none⟩)] W fun e w' => e = .returned (errO x.A (DP.atMost 200 n)) ∧ w' = W) := fun W hb hc => atMost1_any x q 200 n w.heap.size W (hB.low (hb.mono hB.qlt)) hc
  clear hB
  by_cases a : n = 0
  · subst a
    go_enter Tryz.func89, Tryz.ntmps89
    go_wp2
    go_ret
    exact ⟨rfl, Below.refl _ _⟩
  · have hR : DP.pathsRule n = DP.atMost 200 n := by unfold DP.pathsRule; rw [if_neg a]
    rw [hR]
    generalize errO x.A (DP.atMost 200 n) = E at ka ⊢
    have a' : ((n : Int) == 0) = false := by simp; omega
    go_enter Tryz.func89, Tryz.ntmps89
    go_wp2_with (first
      | (go_at_call 58; refine km.out.mono ?_; rintro e w1 ⟨rfl, h1⟩; have H1 := hid'' h1; clear h1)
      | (go_at_call 84; refine (ka.out _ H1.out.2.2 H1.out.1).mono ?_; rintro e w2 ⟨rfl, rfl⟩))
    go_ret
    exact ⟨rfl, H1.out.2.2⟩

theorem rule_paths (x : Src) (q : Nat) (w : World) (hB : Base x q w) : Rule x w DP.pathsRule 89 #[] #[] :=
  ⟨ent_paths, fun n W _ hb => pathsRule_any x q n W (hB.low (hb.mono hB.qlt))⟩

set_option maxRecDepth 20000 in
theorem lengthRule_any (x : Src) (q n : Nat) (s : DP.St) (w : World) (h : Rd x q w s) :
    Calls Tryz.prog 86 #[.pointer (some ⟨q, 0, none⟩), .int .u64 n] w fun e w' => e = .returned (errO x.A (DP.between 1 s.far.toNat n)) ∧ Below w.heap.size w w' := by
  have c3 : w.cell? ⟨q, 3, none⟩ = some (.int .i64 s.far) := h.blk.cell 3
  obtain ⟨f, hf⟩ : ∃ f : Nat, s.far.toNat = f := ⟨_, rfl⟩
  have hf' : s.far = f := by have := h.fit.far0; omega
  have hf1 : f ≤ 1048576 := by have := h.fit.far1; omega
  rw [hf'] at c3
  rw [hf]
  have km : Hid (Calls Tryz.prog 55 #[.int .u64 1, .int .u64 f] w fun e w' => e = .returned (.func (.func 82) #[] #[.pointer (some ⟨w.heap.size, 0, none⟩), .pointer (some ⟨w.heap.size + 1, 0, none⟩)]) ∧ w'.cell? ⟨w.heap.size, 0, none⟩ = some (.int .u64 1) ∧ w'.cell? ⟨w.heap.size + 1, 0, none⟩ = some (.int .u64 f) ∧ w.heap.size + 2 ≤ w'.heap.size ∧ Below w.heap.size w w') := mkbetween 1 f w
  have ka : Hid (∀ W, Below w.heap.size w W → W.cell? ⟨w.heap.size, 0, none⟩ = some (.int .u64 1) → W.cell? ⟨w.heap.size + 1, 0, none⟩ = some (.int .u64 f) → Calls Tryz.prog 82 #[.int .u64 n, .pointer (some ⟨w.heap.size, 0, none⟩), .pointer (some ⟨w.heap.size + 1, 0, none⟩)] W fun e w' => e = .returned (errO x.A (DP.between 1 f n)) ∧ w' = W) := fun W hb hc hd => between1_any x q 1 f n w.heap.size (w.heap.size + 1) W (h.base.low (hb.mono h.base.qlt)) hc hd
  clear h hf hf'
  generalize errO x.A (DP.between 1 f n) = E at ka ⊢
  go_enter Tryz.func86, Tryz.ntmps86
  go_wp2_with (first
    | (go_at_call 55; refine km.out.mono ?_; rintro e w1 ⟨rfl, h1⟩; have H1 := hid'' h1; clear h1)
    | (go_at_call 82; refine (ka.out _ H1.out.2.2.2 H1.out.1 H1.out.2.1).mono ?_; rintro e w2 ⟨rfl, rfl⟩))
  go_ret
  exact ⟨rfl, H1.out.2.2.2⟩

theorem rule_length (x : Src) (q : Nat) (s : DP.St) (w : World) (h : Rd x q w s) : Rule x w (DP.between 1 s.far.toNat) 86 #[.pointer (some ⟨q, 0, none⟩)] #[] :=
  ⟨ent_length, fun n W _ hb => lengthRule_any x q n s W (h.below hb)⟩

set_option maxRecDepth 20000 in
theorem placeRule_any (x : Src) (q n : Nat) (s : DP.St) (w : World) (h : Rd x q w s) :
    Calls Tryz.prog 117 #[.pointer (some ⟨q, 0, none⟩), .int .u64 n] w fun e w' => e = .returned (errO x.A (DP.placeRule s.cols.length s.used n)) ∧ w' = w := by
  have c4 : w.cell? ⟨q, 4, none⟩ = some (.slice x.adc s.cols.length x.capc) := h.blk.cell 4
  have c5 : w.cell? ⟨q, 5, none⟩ = some (.int .i64 s.used) := h.blk.cell 5
  have e4 := h.base.range
  have e9 := h.base.canon
  have hc := h.fit.cols
  have hu := h.fit.used
  clear h
  generalize s.cols.length = C at *
  generalize s.used = U at *
  obtain ⟨R, hR⟩ : ∃ R, DP.placeRule C U n = R := ⟨_, rfl⟩
  have HR : Hid (DP.placeRule C U n = R) := hR
  rw [hR]
  clear hR
  go_enter Tryz.func117, Tryz.ntmps117
  by_cases a : C ≤ n
  · go_wp2
    go_ret
    exact ⟨ret_w (by rw [← HR.out, DP.placeRule, if_pos a]; rfl), rfl⟩
  · by_cases b : U < n
    · go_wp2
      go_ret
      exact ⟨ret_w (by rw [← HR.out, DP.placeRule, if_neg a, if_pos b]; rfl), rfl⟩
    · go_wp2
      go_ret
      exact ⟨ret_w (by rw [← HR.out, DP.placeRule, if_neg a, if_neg b]; rfl), rfl⟩

theorem rule_place (x : Src) (q : Nat) (s : DP.St) (w : World) (h : Rd x q w s) : Rule x w (DP.placeRule s.cols.length s.used) 117 #[.pointer (some ⟨q, 0, none⟩)] #[] :=
  ⟨ent_place, fun n W _ hb => (placeRule_any x q n s W (h.below hb)).mono fun e w' ⟨a, b⟩ => by subst b; exact ⟨a, Below.refl _ _⟩⟩

set_option maxRecDepth 20000 in
theorem pathRule_any (x : Src) (q n : Nat) (s : DP.St) (w : World) (h : Rd x q w s) (hn : n < 18446744073709551616) :
    Calls Tryz.prog 111 #[.pointer (some ⟨q, 0, none⟩), .int .u64 n] w fun e w' => e = .returned (errO x.A (DP.pathRule s.cl n)) ∧ w' = w := by
  have c7 : w.cell? ⟨q, 7, none⟩ = some (.bool s.cl) := h.blk.cell 7
  have e4 := h.base.range
  have e9 := h.base.canon
  clear h
  generalize s.cl = cl at *
  obtain ⟨R, hR⟩ : ∃ R, DP.pathRule cl n = R := ⟨_, rfl⟩
  have HR : Hid (DP.pathRule cl n = R) := hR
  rw [hR]
  clear hR
  have h3 := low1_u64 n hn
  obtain ⟨d, hd⟩ : ∃ d, n / 2 = d := ⟨_, rfl⟩
  have hd' : (n : Int) / 2 = (d : Int) := by omega
  obtain ⟨k, hk⟩ : ∃ k, n % 2 = k := ⟨_, rfl⟩
  rw [hk] at h3
  have HD : Hid (n / 2 = d ∧ n % 2 = k) := ⟨hd, hk⟩
  have hk2 : k = 0 ∨ k = 1 := by omega
  clear hd hk
  go_enter Tryz.func111, Tryz.ntmps111
  by_cases a : d = 0
  · subst a
    go_wp2
    go_ret
    exact ⟨ret_w (by rw [← HR.out, DP.pathRule, if_pos HD.out.1]; rfl), rfl⟩
  · have a' : ((d : Int) == 0) = false := by simp; omega
    have A' : Hid (¬ d = 0) := a
    rcases hk2 with rfl | rfl
    · go_wp2
      go_ret
      exact ⟨ret_w (by rw [← HR.out, DP.pathRule, HD.out.1, HD.out.2, if_neg A'.out, if_neg (by simp)]; rfl), rfl⟩
    · cases cl
      · go_wp2
        go_ret
        exact ⟨ret_w (by rw [← HR.out, DP.pathRule, HD.out.1, HD.out.2, if_neg A'.out, if_pos (by simp)]; rfl), rfl⟩
      · go_wp2
        go_ret
        exact ⟨ret_w (by rw [← HR.out, DP.pathRule, HD.out.1, HD.out.2, if_neg A'.out, if_neg (by simp)]; rfl), rfl⟩

theorem rule_path (x : Src) (q : Nat) (s : DP.St) (w : World) (h : Rd x q w s) : Rule x w (DP.pathRule s.cl) 111 #[.pointer (some ⟨q, 0, none⟩)] #[] :=
  ⟨ent_path, fun n W hn hb => (pathRule_any x q n s W (h.below hb) hn).mono fun e w' ⟨a, b⟩ => by subst b; exact ⟨a, Below.refl _ _⟩⟩

theorem b13 (lo hi n c : Nat) (h : DP.between lo hi n = some c) : c < 13 := by unfold DP.between at h; split at h <;> cases h; decide
theorem m13 (m n c : Nat) (h : DP.atMost m n = some c) : c < 13 := by unfold DP.atMost at h; split at h <;> cases h; decide
theorem c13 (n c : Nat) (h : DP.cmdRule n = some c) : c < 13 := by unfold DP.cmdRule at h; split at h <;> cases h; decide
theorem p13 (n c : Nat) (h : DP.pathsRule n = some c) : c < 13 := by
  unfold DP.pathsRule at h
  split at h
  · cases h; decide
  · exact m13 _ _ _ h
theorem l13 (a b n c : Nat) (h : DP.placeRule a b n = some c) : c < 13 := by
  unfold DP.placeRule at h
  split at h
  · cases h; decide
  · split at h <;> cases h; decide
theorem h13' (cl : Bool) (n c : Nat) (h : DP.pathRule cl n = some c) : c < 13 := by
  unfold DP.pathRule at h
  split at h
  · cases h; decide
  · split at h <;> cases h; decide

end Go.Proofs.YtcnlkdoifogkbaaGreatDoor

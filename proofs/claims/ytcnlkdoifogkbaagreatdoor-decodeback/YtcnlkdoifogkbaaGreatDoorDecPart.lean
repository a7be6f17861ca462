/-
  A reader reads a part of a point: walked over the program.
-/
import Derived.Test.YtcnlkdoifogkbaaGreatDoorDecRule
namespace Go.Proofs.YtcnlkdoifogkbaaGreatDoor
open Go.RowKit

theorem ret_i {k : IntKind} {a b : Int} (h : a = b) : Ending.returned (.int k a) = .returned (.int k b) := by rw [h]

theorem xor_m1 (a : Nat) (h : a < 9223372036854775808) : bits .xor .i64 (a : Int) (-1) = -(a : Int) - 1 := by
  have e1 : BitVec.ofInt 64 (-1) = BitVec.allOnes 64 := by decide
  have e2 : (BitVec.ofInt 64 (a : Int)).toNat = a := by rw [BitVec.ofInt_natCast, BitVec.toNat_ofNat]; exact Nat.mod_eq_of_lt (by omega)
  show IntKind.i64.wrap ((BitVec.ofInt 64 (a : Int) ^^^ BitVec.ofInt 64 (-1)).toNat : Int) = _
  rw [e1, BitVec.xor_allOnes, BitVec.toNat_not, e2, IntKind.wrap_i64]
  omega

theorem xor_m0 (a : Nat) (h : a < 9223372036854775808) : bits .xor .i64 (a : Int) 0 = (a : Int) := by
  have e1 : BitVec.ofInt 64 0 = 0#64 := by decide
  have e2 : (BitVec.ofInt 64 (a : Int)).toNat = a := by rw [BitVec.ofInt_natCast, BitVec.toNat_ofNat]; exact Nat.mod_eq_of_lt (by omega)
  show IntKind.i64.wrap ((BitVec.ofInt 64 (a : Int) ^^^ BitVec.ofInt 64 0).toNat : Int) = _
  rw [e1, BitVec.xor_zero, e2, IntKind.wrap_i64]
  omega

theorem zag_any (n : Nat) (w : World) (h : n < 18446744073709551616) :
    Calls Tryz.prog 125 #[.int .u64 n] w fun e w' => e = .returned (.int .i64 (DP.zag n)) ∧ w' = w := by
  have hand := low1_u64 n h
  by_cases c : n % 2 = 1
  · rw [c] at hand
    have hx := xor_m1 (n / 2) (by omega)
    have HZ : Hid (DP.zag n = -((n / 2 : Nat) : Int) - 1) := if_pos c
    obtain ⟨m, hm⟩ : ∃ m, n / 2 = m := ⟨_, rfl⟩
    have hm' : (n : Int) / 2 = (m : Int) := by omega
    rw [hm] at hx HZ
    go_enter Tryz.func125, Tryz.ntmps125
    go_wp2
    go_ret
    exact ⟨ret_i (by rw [HZ.out]), rfl⟩
  · have c0 : n % 2 = 0 := by omega
    rw [c0] at hand
    have hx := xor_m0 (n / 2) (by omega)
    have HZ : Hid (DP.zag n = ((n / 2 : Nat) : Int)) := if_neg c
    obtain ⟨m, hm⟩ : ∃ m, n / 2 = m := ⟨_, rfl⟩
    have hm' : (n : Int) / 2 = (m : Int) := by omega
    rw [hm] at hx HZ
    go_enter Tryz.func125, Tryz.ntmps125
    go_wp2
    go_ret
    exact ⟨ret_i (by rw [HZ.out]), rfl⟩


theorem zag_b (n : Nat) (h : n < 18446744073709551616) : -9223372036854775808 ≤ DP.zag n ∧ DP.zag n ≤ 9223372036854775807 := by
  unfold DP.zag; split <;> omega

set_option maxRecDepth 20000 in
set_option maxHeartbeats 1000000 in
theorem part1_any (x : Src) (q n g1 g2 : Nat) (ahead : Int) (s : DP.St) (w : World) (h : Rd x q w s) (hn : n < 18446744073709551616) (ha : -s.far ≤ ahead ∧ ahead ≤ s.far) (h1 : w.cell? ⟨g1, 0, none⟩ = some (.pointer (some ⟨q, 0, none⟩))) (h2 : w.cell? ⟨g2, 0, none⟩ = some (.int .i64 ahead)) :
    Calls Tryz.prog 124 #[.int .u64 n, .pointer (some ⟨g1, 0, none⟩), .pointer (some ⟨g2, 0, none⟩)] w fun e w' => e = .returned (errO x.A (DP.partRule s.far ahead n)) ∧ Below w.heap.size w w' := by
  have c3 : w.cell? ⟨q, 3, none⟩ = some (.int .i64 s.far) := h.blk.cell 3
  have e4 := h.base.range
  have f0 := h.fit.far0
  have f1 := h.fit.far1
  have zb := zag_b n hn
  have kz : Hid (∀ W, Calls Tryz.prog 125 #[.int .u64 n] W fun e w' => e = .returned (.int .i64 (DP.zag n)) ∧ w' = W) := fun W => zag_any n W hn
  clear h
  obtain ⟨far, hfar⟩ : ∃ f, s.far = f := ⟨_, rfl⟩
  rw [hfar] at c3 f0 f1 ha ⊢
  clear hfar
  obtain ⟨R, hR⟩ : ∃ R, DP.partRule far ahead n = R := ⟨_, rfl⟩
  have HR : Hid (DP.partRule far ahead n = R) := hR
  rw [hR]
  clear hR
  have HR2 : Hid ((if DP.zag n < -far - ahead ∨ far - ahead < DP.zag n then some DP.eRange else none) = R) := HR.out
  obtain ⟨z, hz⟩ : ∃ z, DP.zag n = z := ⟨_, rfl⟩
  rw [hz] at kz zb HR2
  clear hz HR
  go_enter Tryz.func124, Tryz.ntmps124
  by_cases a : z < -far - ahead
  · go_wp2_with (go_at_call 125; refine (kz.out _).mono ?_; rintro e w1 ⟨rfl, rfl⟩)
    go_quiet (fail)
    go_wp2
    go_ret
    exact ⟨ret_w (by rw [← HR2.out, if_pos (.inl a)]; rfl), by first | exact Below.refl _ _ | exact (Below.refl _ _).drew | exact below_drewN (Below.refl _ _) _⟩
  · have da : decide (z < IntKind.i64.wrap (IntKind.i64.wrap (-far) - ahead)) = false := by
      simp only [IntKind.wrap_i64, decide_eq_false_iff_not]; omega
    by_cases b : far - ahead < z
    · have db : decide (IntKind.i64.wrap (far - ahead) < z) = true := by
        simp only [IntKind.wrap_i64, decide_eq_true_eq]; omega
      go_wp2_with (go_at_call 125; refine (kz.out _).mono ?_; rintro e w1 ⟨rfl, rfl⟩)
      go_quiet (fail)
      go_wp2
      go_ret
      exact ⟨ret_w (by rw [← HR2.out, if_pos (.inr b)]; rfl), by first | exact Below.refl _ _ | exact (Below.refl _ _).drew | exact below_drewN (Below.refl _ _) _⟩
    · have db : decide (IntKind.i64.wrap (far - ahead) < z) = false := by
        simp only [IntKind.wrap_i64, decide_eq_false_iff_not]; omega
      go_wp2_with (go_at_call 125; refine (kz.out _).mono ?_; rintro e w1 ⟨rfl, rfl⟩)
      go_quiet (fail)
      go_wp2
      go_ret
      exact ⟨ret_w (by rw [← HR2.out, if_neg (by omega)]; rfl), by first | exact Below.refl _ _ | exact (Below.refl _ _).drew | exact below_drewN (Below.refl _ _) _⟩

theorem rule_part (x : Src) (q g1 g2 : Nat) (ahead : Int) (s : DP.St) (w : World) (h : Rd x q w s) (ha : -s.far ≤ ahead ∧ ahead ≤ s.far) (h1 : w.cell? ⟨g1, 0, none⟩ = some (.pointer (some ⟨q, 0, none⟩))) (h2 : w.cell? ⟨g2, 0, none⟩ = some (.int .i64 ahead)) (s1 : g1 < w.heap.size) (s2 : g2 < w.heap.size) :
    Rule x w (DP.partRule s.far ahead) 124 #[] #[.pointer (some ⟨g1, 0, none⟩), .pointer (some ⟨g2, 0, none⟩)] :=
  ⟨ent_part, fun n W hn hb => part1_any x q n g1 g2 ahead s W (h.below hb) hn ha ((hb.cell (p := ⟨g1, 0, none⟩) s1).trans h1) ((hb.cell (p := ⟨g2, 0, none⟩) s2).trans h2)⟩

theorem a13 (far ahead : Int) (n c : Nat) (h : DP.partRule far ahead n = some c) : c < 13 := by unfold DP.partRule at h; split at h <;> cases h; decide

theorem Rs.drewN {x : Src} {q : Nat} {w : World} {R : Except DP.Bad DP.St} (h : Rs x q w R) (n : Nat) : Rs x q (w.drewN n) R := h.below (below_drewN (Below.refl _ _) n)
theorem Rs.drew {x : Src} {q : Nat} {w : World} {R : Except DP.Bad DP.St} (h : Rs x q w R) : Rs x q w.drew R := h.below (Below.refl _ _).drew
theorem Mk.drewN {q : Nat} {w w' : World} (h : Mk q w w') (n : Nat) : Mk q w (w'.drewN n) := ⟨h.os, h.tape, h.output, h.size, h.block⟩
theorem Mk.drew {q : Nat} {w w' : World} (h : Mk q w w') : Mk q w w'.drew := ⟨h.os, h.tape, h.output, h.size, h.block⟩
theorem Mk.cell {q b j : Nat} {w w' : World} (h : Mk q w w') (hb : b < w.heap.size) (hne : b ≠ q) : w'.cell? ⟨b, j, none⟩ = w.cell? ⟨b, j, none⟩ := World.cell?_of_block (a := ⟨b, j, none⟩) (h.block b hb (fun e => hne (by cases e; rfl)))
theorem Mk.frozen {q b j : Nat} {w w' : World} (h : Mk q w w') (hb : b < w.heap.size) (hne : b ≠ q) : w'.frozen? ⟨b, j, none⟩ = w.frozen? ⟨b, j, none⟩ := World.frozen?_of_block (a := ⟨b, j, none⟩) (h.block b hb (fun e => hne (by cases e; rfl)))

set_option maxRecDepth 20000 in
set_option maxHeartbeats 1000000 in
theorem part_walk (x : Src) (q z : Nat) (ahead : Int) (R' : Except DP.Bad DP.St) (w : World) (hq : q < w.heap.size) (hz : z < 18446744073709551616) (ha : -9223372036854775808 ≤ ahead + DP.zag z ∧ ahead + DP.zag z ≤ 9223372036854775807)
    (hn : ∀ W, Below w.heap.size w W → w.heap.size + 2 ≤ W.heap.size → W.cell? ⟨w.heap.size, 0, none⟩ = some (.pointer (some ⟨q, 0, none⟩)) → W.cell? ⟨w.heap.size + 1, 0, none⟩ = some (.int .i64 ahead) →
      Calls Tryz.prog 56 #[.pointer (some ⟨q, 0, none⟩), .func (.func 124) #[] #[.pointer (some ⟨w.heap.size, 0, none⟩), .pointer (some ⟨w.heap.size + 1, 0, none⟩)]] W fun e w' => e = .returned (.int .u64 z) ∧ Rs x q w' R' ∧ Mk q W w') :
    Calls Tryz.prog 118 #[.pointer (some ⟨q, 0, none⟩), .int .i64 ahead] w fun e w' => e = .returned (.int .i64 (ahead + DP.zag z)) ∧ Rs x q w' R' ∧ Mk q w w' := by
  have kn := hid'' hn
  have kz : Hid (∀ W, Calls Tryz.prog 125 #[.int .u64 z] W fun e w' => e = .returned (.int .i64 (DP.zag z)) ∧ w' = W) := fun W => zag_any z W hz
  clear hn
  obtain ⟨y, hy⟩ : ∃ y, DP.zag z = y := ⟨_, rfl⟩
  rw [hy] at kz ha ⊢
  clear hy
  go_enter Tryz.func118, Tryz.ntmps118
  go_wp2_with (go_at_call 56; refine (kn.out _ (((Below.refl _ _).alloc (Nat.le_refl _) _).alloc (by simp) _) (by simp) (by simp) (by simp)).mono ?_; rintro e w1 ⟨rfl, h1⟩
               have H1 := hid'' h1
               clear h1
               have c1 : w1.cell? ⟨w.heap.size + 1, 0, none⟩ = some (.int .i64 ahead) := (H1.out.2.cell (by simp) (by omega)).trans (by simp))
  go_quiet ((go_at_call 125; refine Calls.quiet_of_same (kz.out _)))
  go_wp2
  go_ret
  exact ⟨rfl, by first | exact H1.out.1 | exact H1.out.1.drew | exact H1.out.1.drewN _, by
    have := (Mk.below (q := q) (((Below.refl w.heap.size w).alloc (Nat.le_refl _) (Obj.cells #[.pointer (some ⟨q, 0, none⟩)] 82)).alloc (by simp) (Obj.cells #[.int .i64 ahead] 2))).trans H1.out.2
    first | exact this | exact this.drew | exact this.drewN _⟩

/-- What comes of a part: itself, or what was ahead, where something was amiss. -/
def intOr (d : Int) : Except DP.Bad (Int × DP.St) → Int
  | .ok v => v.1
  | .error _ => d

theorem num_facts {bs : List Nat} {rule : Nat → Option Nat} {s s' : DP.St} {n : Nat} (h : DP.num bs rule s = .ok (n, s')) (hb : ∀ c ∈ bs, c < 256) : n < 18446744073709551616 ∧ rule n = none ∧ ∃ k, s' = { s with at' := s.at' + k } ∧ 1 ≤ k ∧ s.at' + k ≤ bs.length := by
  unfold DP.num at h
  split at h
  · cases h
  · rename_i m k hd
    have := dec_fits hd hb
    split at h
    · rename_i hr
      simp only [Except.ok.injEq, Prod.mk.injEq] at h
      obtain ⟨rfl, rfl⟩ := h
      exact ⟨this.1, hr, k, rfl, this.2⟩
    · cases h

theorem part_any (x : Src) (q : Nat) (R : Except DP.Bad DP.St) (ahead : Int) (w : World) (h : Rs x q w R) (hi : -9223372036854775808 ≤ ahead ∧ ahead ≤ 9223372036854775807) (ha : ∀ s, R = .ok s → -s.far ≤ ahead ∧ ahead ≤ s.far) :
    Calls Tryz.prog 118 #[.pointer (some ⟨q, 0, none⟩), .int .i64 ahead] w fun e w' => e = .returned (.int .i64 (intOr ahead (run (DP.part x.bs ahead) R))) ∧ Rs x q w' (rest (run (DP.part x.bs ahead) R)) ∧ Mk q w w' := by
  have hq := h.lt
  cases R with
  | error b =>
    have := part_walk x q 0 ahead (.error b) w hq (by omega) (by show _ ≤ ahead + 0 ∧ ahead + 0 ≤ _; omega) (fun W hb hs h1 h2 => (number_bad x q b _ W (Rs.below h hb)).mono fun e w' ⟨a, c⟩ => by subst c; exact ⟨a, Rs.below h hb, Mk.refl _ _⟩)
    refine this.mono fun e w' ⟨a, c⟩ => ⟨a.trans (ret_i (by show ahead + 0 = ahead; omega)), c⟩
  | ok s =>
    have ha' := ha s rfl
    have hf0 := (show Rd x q w s from h).fit.far0
    have hf1 := (show Rd x q w s from h).fit.far1
    obtain ⟨N, hN⟩ : ∃ N, DP.num x.bs (DP.partRule s.far ahead) s = N := ⟨_, rfl⟩
    have hz : valOf N < 18446744073709551616 ∧ -9223372036854775808 ≤ ahead + DP.zag (valOf N) ∧ ahead + DP.zag (valOf N) ≤ 9223372036854775807 := by
      cases N with
      | error b => exact ⟨by show 0 < _; omega, by rw [show DP.zag (valOf (Except.error b)) = 0 by simp [valOf, DP.zag]]; omega⟩
      | ok v =>
        obtain ⟨n, s'⟩ := v
        obtain ⟨h1, h2, -⟩ := num_facts hN (show Rd x q w s from h).base.lt256
        unfold DP.partRule at h2
        split at h2
        · cases h2
        · exact ⟨h1, by show _ ≤ ahead + DP.zag n ∧ ahead + DP.zag n ≤ _; omega⟩
    have := part_walk x q (valOf N) ahead (rest N) w hq hz.1 hz.2 (fun W hb hs h1 h2 => by
      have := number_ok x q s (DP.partRule s.far ahead) 124 #[] #[.pointer (some ⟨w.heap.size, 0, none⟩), .pointer (some ⟨w.heap.size + 1, 0, none⟩)] W (Rs.below h hb) (rule_part x q w.heap.size (w.heap.size + 1) ahead s W (Rs.below h hb) ha' h1 h2 (by omega) (by omega)) (a13 _ _)
      rw [hN] at this
      exact this)
    refine this.mono fun e w' ⟨a, c, d⟩ => ?_
    show e = .returned (.int .i64 (intOr ahead (DP.part x.bs ahead s))) ∧ Rs x q w' (rest (DP.part x.bs ahead s)) ∧ Mk q w w'
    cases N with
    | error b =>
      have e1 : DP.part x.bs ahead s = .error b := DP.andThen_err hN
      rw [e1]
      exact ⟨a.trans (ret_i (by rw [show DP.zag (valOf (Except.error b)) = 0 by simp [valOf, DP.zag]]; exact Int.add_zero _)), c, d⟩
    | ok v =>
      have e1 : DP.part x.bs ahead s = .ok (ahead + DP.zag v.1, v.2) := DP.andThen_ok hN
      rw [e1]
      exact ⟨a, c, d⟩

/-- A part that was read: where it lies, and what has turned. -/
theorem part_facts {bs : List Nat} {ahead z : Int} {s s' : DP.St} (h : DP.part bs ahead s = .ok (z, s')) (hb : ∀ c ∈ bs, c < 256) : (-s.far ≤ z ∧ z ≤ s.far) ∧ ∃ k, s' = { s with at' := s.at' + k } ∧ 1 ≤ k ∧ s.at' + k ≤ bs.length := by
  unfold DP.part DP.andThen at h
  split at h
  · cases h
  · rename_i n s1 hn
    obtain ⟨h1, h2, h3⟩ := num_facts hn hb
    simp only [DP.ret, Except.ok.injEq, Prod.mk.injEq] at h
    obtain ⟨rfl, rfl⟩ := h
    unfold DP.partRule at h2
    split at h2
    · cases h2
    · exact ⟨by omega, h3⟩

end Go.Proofs.YtcnlkdoifogkbaaGreatDoor

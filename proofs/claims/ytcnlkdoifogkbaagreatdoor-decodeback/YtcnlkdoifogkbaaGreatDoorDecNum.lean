/-
  A reader reads a number, if the rule has no error for it: walked over the program.
-/
import Derived.Test.YtcnlkdoifogkbaaGreatDoorDecGet
namespace Go.Proofs.YtcnlkdoifogkbaaGreatDoor
open Go.RowKit

set_option maxRecDepth 20000 in
theorem fail_ok (x : Src) (q : Nat) (s : DP.St) (p c : Nat) (hc : c < 13) (w : World) (h : Rd x q w s) :
    Calls Tryz.prog 81 #[.pointer (some ⟨q, 0, none⟩), .int .i64 p, errD x.A c] w fun e w' => e = .returned (.tuple #[]) ∧ Rx x q w' (c, p) ∧ Mk q w w' := by
  have c2 : w.cell? ⟨q, 2, none⟩ = some .nilIface := h.blk.cell 2
  have f2 : w.frozen? ⟨q, 2, none⟩ = false := h.blk.frozen 2
  have hlt := h.lt
  obtain ⟨g, hg⟩ : ∃ g, x.A (perm c) = g := ⟨_, rfl⟩
  have HF : Hid (Rx x q ((w.setCell ⟨q, 2, none⟩ (.iface 79 (.pointer (some ⟨w.heap.size, 0, none⟩)))).alloc (.cells #[.int .i64 p, errD x.A c] 81)) (c, p)) := by
    have hb : Below q w ((w.setCell ⟨q, 2, none⟩ (.iface 79 (.pointer (some ⟨w.heap.size, 0, none⟩)))).alloc (.cells #[.int .i64 p, errD x.A c] 81)) := (below_self (w := w) 2 _).alloc (by simp; omega) _
    have hn := blk_new (w.setCell ⟨q, 2, none⟩ (.iface 79 (.pointer (some ⟨w.heap.size, 0, none⟩)))) 81 #[.int .i64 p, errD x.A c]
    simp only [World.size_setCell] at hn
    exact ⟨h.base.low hb, ⟨_, _, _, _, _, _, _, _, _, _, _, w.heap.size, (h.blk.set (j := 2) _).alloc _, hn, by omega⟩, hc⟩
  have HM : Hid (Mk q w ((w.setCell ⟨q, 2, none⟩ (.iface 79 (.pointer (some ⟨w.heap.size, 0, none⟩)))).alloc (.cells #[.int .i64 p, errD x.A c] 81))) := (Mk.self 2 _).alloc _
  clear h
  unfold errD at HF HM ⊢
  rw [hg] at HF HM ⊢
  go_enter Tryz.func81, Tryz.ntmps81
  go_wp2
  go_end0
  exact ⟨rfl, HF.out, HM.out⟩

set_option maxRecDepth 20000 in
theorem fail_bad (x : Src) (q : Nat) (b : DP.Bad) (v e : Value) (w : World) (h : Rx x q w b) :
    Calls Tryz.prog 81 #[.pointer (some ⟨q, 0, none⟩), v, e] w fun e w' => e = .returned (.tuple #[]) ∧ w' = w := by
  obtain ⟨h1, ⟨ao, n, cap, at', far, adc, nc, capc, used, pts, cl, g, h2, h3, h4⟩, h5⟩ := h
  have c2 := h2.cell 2
  simp at c2
  clear h2 h3 h1
  go_enter Tryz.func81, Tryz.ntmps81
  go_wp2
  go_end0
  exact ⟨rfl, rfl⟩

set_option maxRecDepth 20000 in
set_option maxHeartbeats 1000000 in
theorem number_bad (x : Src) (q : Nat) (b : DP.Bad) (f : Value) (w : World) (h : Rx x q w b) :
    Calls Tryz.prog 56 #[.pointer (some ⟨q, 0, none⟩), f] w fun e w' => e = .returned (.int .u64 0) ∧ w' = w := by
  obtain ⟨h1, ⟨ao, n, cap, at', far, adc, nc, capc, used, pts, cl, g, h2, h3, h4⟩, h5⟩ := h
  have c2 := h2.cell 2
  simp at c2
  clear h2 h3 h1
  go_enter Tryz.func56, Tryz.ntmps56
  go_wp2
  go_ret
  exact ⟨rfl, rfl⟩

theorem dec_fits {bs : List Nat} {p n k : Nat} (h : WP.dec 0 0 (bs.drop p) = .ok (n, k)) (hb : ∀ c ∈ bs, c < 256) : n < 18446744073709551616 ∧ 1 ≤ k ∧ p + k ≤ bs.length := by
  obtain ⟨m, h1, h2, h3, h4, -, h6⟩ := WP.dec_one (bs.drop p) 0 0 n k (by omega) (fun c hc => hb c (List.mem_of_mem_drop hc)) h
  have hp := WP.sz_pos m
  simp at h1 h4 h6
  omega

/-- What a number comes to: itself, or 0 where something was amiss. -/
def valOf : Except DP.Bad (Nat × DP.St) → Nat
  | .ok v => v.1
  | .error _ => 0

/-- A function's own number is called as itself. -/
def Enters (K : Nat) : Prop := ∀ (args : Array Value) (W : World), Sem.run Tryz.prog (callFunc K args) W = .ok (.enter K args) W

/-- A rule, as the program has it. -/
def Rule (x : Src) (w : World) (rule : Nat → Option Nat) (K : Nat) (pre caps : Array Value) : Prop :=
  Enters K ∧ ∀ (n : Nat) (W : World), n < 18446744073709551616 → Below w.heap.size w W → Calls Tryz.prog K (pre.push (.int .u64 n) ++ caps) W fun e w' => e = .returned (errO x.A (rule n)) ∧ Below W.heap.size W w'

set_option maxRecDepth 20000 in
set_option maxHeartbeats 1000000 in
theorem number_ok (x : Src) (q : Nat) (s : DP.St) (rule : Nat → Option Nat) (K : Nat) (pre caps : Array Value) (w : World) (h : Rd x q w s) (hr : Rule x w rule K pre caps) (h13 : ∀ n c, rule n = some c → c < 13) :
    Calls Tryz.prog 56 #[.pointer (some ⟨q, 0, none⟩), .func (.func K) pre caps] w fun e w' => e = .returned (.int .u64 (valOf (DP.num x.bs rule s))) ∧ Rs x q w' (rest (DP.num x.bs rule s)) ∧ Mk q w w' := by
  have c2 : w.cell? ⟨q, 2, none⟩ = some .nilIface := h.blk.cell 2
  have c0 : w.cell? ⟨q, 0, none⟩ = some (.slice x.ao x.bs.length x.cap) := h.blk.cell 0
  have c1 : w.cell? ⟨q, 1, none⟩ = some (.int .i64 s.at') := h.blk.cell 1
  have kg : Hid (∀ d, Calls Tryz.prog 83 #[.slice x.ao x.bs.length x.cap, .int .i64 s.at'] (w.drewN d) (GetPost (w.drewN d) s.at' x.A (WP.dec 0 0 (x.bs.drop s.at')))) := fun d => get_any x.ao x.cap x.bs s.at' x.A (w.drewN d) (h.base.low (below_drewN (Below.refl _ _) d)).cells h.base.lt256 (by have := h.base.len; omega) (by have := h.base.len; have := h.fit.at'; omega) ((h.base.low (below_drewN (Below.refl _ _) d)).err 6 (by omega)) ((h.base.low (below_drewN (Below.refl _ _) d)).err 8 (by omega))
  have hlt := h.lt
  have HR : Hid (Rd x q w s) := h
  have h256 := h.base.lt256
  have hat := h.fit.at'
  have h60 := h.base.len
  have kf : Hid (∀ (c : Nat) (W : World), c < 13 → Rd x q W s → Calls Tryz.prog 81 #[.pointer (some ⟨q, 0, none⟩), .int .i64 s.at', errD x.A c] W fun e w' => e = .returned (.tuple #[]) ∧ Rx x q w' (c, s.at') ∧ Mk q W w') := fun c W hc hW => fail_ok x q s s.at' c hc W hW
  have KR : Hid (Rule x w rule K pre caps) := hr
  clear h hr
  obtain ⟨R, hR⟩ : ∃ R, WP.dec 0 0 (x.bs.drop s.at') = R := ⟨_, rfl⟩
  rw [hR] at kg
  cases R with
  | error v =>
    have hN : DP.num x.bs rule s = .error (if v then DP.eVarint else DP.eShort, s.at') := by unfold DP.num; rw [hR]
    have HD : Hid ((if v then DP.eVarint else DP.eShort) < 13) := by cases v <;> show (_ < _) <;> decide
    obtain ⟨N, hN'⟩ : ∃ N, DP.num x.bs rule s = N := ⟨_, rfl⟩
    rw [hN'] at hN ⊢
    have HN : Hid (N = .error (if v then DP.eVarint else DP.eShort, s.at')) := hN
    clear hR h256 KR kf hN hN'
    go_enter Tryz.func56, Tryz.ntmps56
    go_wp2
    go_region_with (go_at_call 83; refine (kg.out _).mono ?_; rintro e w1 ⟨g, rfl, hg, hgb, hb1⟩; have HG := hid'' hgb; clear hgb; have HB1 := hid'' (below_drewN' hb1); clear hb1
                    have f21 : w1.frozen? ⟨q, 2, none⟩ = false := (HR.out.below HB1.out).blk.frozen 2
                    have c21 : w1.cell? ⟨q, 2, none⟩ = some .nilIface := (HR.out.below HB1.out).blk.cell 2)
    all_goals go_wp2
    all_goals go_ret
    all_goals rw [HN.out]
    all_goals exact ⟨rfl, (HR.out.below HB1.out).fail (if v then DP.eVarint else DP.eShort, s.at') HD.out g HG.out, (Mk.below HB1.out).trans (Mk.self 2 _)⟩
  | ok r =>
    obtain ⟨n, k⟩ := r
    obtain ⟨hn, hk1, hk2⟩ := dec_fits hR h256
    have kr : Hid (∀ W, Below w.heap.size w W → Calls Tryz.prog K (pre.push (.int .u64 n) ++ caps) W fun e w' => e = .returned (errO x.A (rule n)) ∧ Below W.heap.size W w') := fun W hW => KR.out.2 n W hn hW
    have hent : ∀ (args : Array Value) (W : World), Sem.run Tryz.prog (callFunc K args) W = .ok (.enter K args) W := KR.out.1
    clear KR
    obtain ⟨o, ho⟩ : ∃ o, rule n = o := ⟨_, rfl⟩
    cases o with
    | none =>
      have hN : DP.num x.bs rule s = .ok (n, { s with at' := s.at' + k }) := by unfold DP.num; rw [hR]; simp only [ho]
      rw [hN]
      rw [ho, show errO x.A none = Value.nilIface from rfl] at kr
      have HK : Hid (s.at' + k ≤ x.bs.length) := hk2
      clear hN hR ho h256 kf
      go_enter Tryz.func56, Tryz.ntmps56
      go_wp2
      go_region_with (go_at_call 83; refine (kg.out _).mono ?_; rintro e w1 ⟨rfl, hb1⟩; have HB1 := hid'' (below_drewN' hb1); clear hb1)
      all_goals go_wp2_with (refine (kr.out _ HB1.out).mono ?_; rintro e w2 ⟨rfl, hb2⟩; have HB2 : Hid (Below w.heap.size w w2) := HB1.out.trans (hb2.mono HB1.out.size)
                             clear hb2
                             have f21 : w2.frozen? ⟨q, 1, none⟩ = false := (HR.out.below HB2.out).blk.frozen 1
                             have c21 : w2.cell? ⟨q, 1, none⟩ = some (.int .i64 s.at') := (HR.out.below HB2.out).blk.cell 1)
      all_goals go_ret
      all_goals have hset := (HR.out.below HB2.out).setAt (s.at' + k) HK.out
      all_goals rw [Int.natCast_add] at hset
      all_goals exact ⟨rfl, hset, (Mk.below HB2.out).trans (Mk.self 1 _)⟩
    | some c =>
      have hN : DP.num x.bs rule s = .error (c, s.at') := by unfold DP.num; rw [hR]; simp only [ho]
      have hc := h13 n c ho
      rw [hN]
      rw [ho] at kr
      have HC : Hid (c < 13) := hc
      have hE : errO x.A (some c) = .iface 173 (.pointer (some (x.A (perm c)))) := rfl
      have kf2 : Hid (∀ (W : World), Rd x q W s → Calls Tryz.prog 81 #[.pointer (some ⟨q, 0, none⟩), .int .i64 s.at', .iface 173 (.pointer (some (x.A (perm c))))] W fun e w' => e = .returned (.tuple #[]) ∧ Rx x q w' (c, s.at') ∧ Mk q W w') := fun W hW => kf.out c W hc hW
      rw [hE] at kr
      clear hN hR ho h256 kf hE hc
      go_enter Tryz.func56, Tryz.ntmps56
      go_wp2
      go_region_with (go_at_call 83; refine (kg.out _).mono ?_; rintro e w1 ⟨rfl, hb1⟩; have HB1 := hid'' (below_drewN' hb1); clear hb1)
      all_goals go_wp2_with (first
        | (go_at_call 81; refine (kf2.out _ (HR.out.below HB2.out)).mono ?_; rintro e w3 ⟨rfl, h3⟩; have H3 := hid'' h3; clear h3)
        | (refine (kr.out _ HB1.out).mono ?_; rintro e w2 ⟨rfl, hb2⟩; have HB2 : Hid (Below w.heap.size w w2) := HB1.out.trans (hb2.mono HB1.out.size)
           clear hb2
           have c21 : w2.cell? ⟨q, 1, none⟩ = some (.int .i64 s.at') := (HR.out.below HB2.out).blk.cell 1))
      all_goals go_ret
      all_goals exact ⟨rfl, H3.out.1, (Mk.below HB2.out).trans H3.out.2⟩

/-- A number, whatever was ahead of it. -/
theorem rnum_any (x : Src) (q : Nat) (R : Except DP.Bad DP.St) (rule : Nat → Option Nat) (K : Nat) (pre caps : Array Value) (w : World) (h : Rs x q w R) (hr : ∀ s, R = .ok s → Rule x w rule K pre caps) (h13 : ∀ n c, rule n = some c → c < 13) :
    Calls Tryz.prog 56 #[.pointer (some ⟨q, 0, none⟩), .func (.func K) pre caps] w fun e w' => e = .returned (.int .u64 (valOf (run (DP.num x.bs rule) R))) ∧ Rs x q w' (rest (run (DP.num x.bs rule) R)) ∧ Mk q w w' := by
  cases R with
  | ok s => exact number_ok x q s rule K pre caps w h (hr s rfl) h13
  | error b => exact (number_bad x q b _ w h).mono fun e w' ⟨h1, h2⟩ => by subst h2; exact ⟨h1, h, Mk.refl _ _⟩

end Go.Proofs.YtcnlkdoifogkbaaGreatDoor

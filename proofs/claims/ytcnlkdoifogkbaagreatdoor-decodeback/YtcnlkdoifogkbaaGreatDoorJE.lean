import Derived.Test.YtcnlkdoifogkbaaGreatDoorJC
import Derived.Test.YtcnlkdoifogkbaaGreatDoorJD
import Derived.Test.YtcnlkdoifogkbaaGreatDoorJB
import Derived.Test.YtcnlkdoifogkbaaGreatDoorDecOther
import Derived.Laws.IdiomStrings
import Derived.Test.YtcnlkdoifogkbaaGreatDoorIconCheck
/-
  A reader's first bytes and its end: walked over the program.
-/
namespace Go.Proofs.YtcnlkdoifogkbaaGreatDoor
open Go.RowKit

theorem Rs.endCells {x : Src} {q : Nat} {w : World} {R : Except DP.Bad DP.St} (h : Rs x q w R) : ∃ (ao : Option Addr) (n cap : Nat) (at' : Int) (adc : Option Addr) (nc capc : Nat) (used : Int), w.cell? ⟨q, 0, none⟩ = some (.slice ao n cap) ∧ w.cell? ⟨q, 1, none⟩ = some (.int .i64 at') ∧ w.cell? ⟨q, 4, none⟩ = some (.slice adc nc capc) ∧ w.cell? ⟨q, 5, none⟩ = some (.int .i64 used) ∧ ∀ s, R = .ok s → n = x.bs.length ∧ at' = s.at' ∧ nc = s.cols.length ∧ used = s.used := by
  cases R with
  | ok s => exact ⟨_, _, _, _, _, _, _, _, (show Rd x q w s from h).blk.cell 0, (show Rd x q w s from h).blk.cell 1, (show Rd x q w s from h).blk.cell 4, (show Rd x q w s from h).blk.cell 5, fun s' e => by cases e; exact ⟨rfl, rfl, rfl, rfl⟩⟩
  | error b =>
    obtain ⟨h1, ⟨ao, n, cap, at', far, adc, nc, capc, used, pts, cl, g, h2, h3, h4⟩, h5⟩ := h
    exact ⟨ao, n, cap, at', adc, nc, capc, used, h2.cell 0, h2.cell 1, h2.cell 4, h2.cell 5, fun s e => by cases e⟩

set_option maxRecDepth 20000 in
set_option maxHeartbeats 2000000 in
theorem dend_any (x : Src) (q : Nat) (R : Except DP.Bad DP.St) (w : World) (h : Rs x q w R) :
    Calls Tryz.prog 62 #[.pointer (some ⟨q, 0, none⟩)] w fun e w' => e = .returned (.tuple #[]) ∧ Rs x q w' (rest (run (DP.fin x.bs) R)) ∧ Mk q w w' := by
  obtain ⟨ao, n, cap, at', adc, nc, capc, used, c0, c1, c4, c5, hs⟩ := h.endCells
  have eC := h.base.canon
  have eT := h.base.trail
  have hq := h.lt
  have HR := hid'' h
  have kf : Hid (∀ (z : Int) (c : Nat) (R' : Except DP.Bad DP.St) (W : World), c < 13 → Rs x q W R' → (∀ s, R' = .ok s → 0 ≤ z) → Calls Tryz.prog 81 #[.pointer (some ⟨q, 0, none⟩), .int .i64 z, .iface 173 (.pointer (some (x.A (perm c))))] W fun e w' => e = .returned (.tuple #[]) ∧ Rs x q w' (fails R' (c, z.toNat)) ∧ Mk q W w') := fun z c R' W hc hW hz => fail_any x q R' z c hc W hW hz
  have HZ : Hid (∀ s, R = .ok s → 0 ≤ at') := fun s e => by have := (hs s e).2.1; omega
  by_cases u : used < (nc : Int)
  · have hfin : rest (run (DP.fin x.bs) R) = fails R (9, at'.toNat) := by
      cases R with
      | error e => rfl
      | ok s =>
        obtain ⟨-, e2, e3, e4⟩ := hs s rfl
        show rest (DP.fin x.bs s) = _
        unfold DP.fin
        rw [if_pos (by omega), e2]
        rfl
    rw [hfin]
    have HE : Hid (∀ e, fails (fails R (9, at'.toNat)) e = fails R (9, at'.toNat)) := fun e => by cases R <;> rfl
    have HZ2 : Hid (∀ z : Int, ∀ s, fails R (9, at'.toNat) = .ok s → 0 ≤ z) := fun z s e => by cases R <;> cases e
    obtain ⟨R2, hR2⟩ : ∃ R2, fails R (9, at'.toNat) = R2 := ⟨_, rfl⟩
    rw [hR2] at HE HZ2 ⊢
    have HR2 := hid'' hR2
    clear hfin hs hR2 h
    go_enter Tryz.func62, Tryz.ntmps62
    go_wp2
    go_quiet (fail)
    go_wp2
    go_region_with (first
      | (go_at_call 81; refine (kf.out at' 9 R _ (by omega) (by first | exact HR.out.drewN _ | exact (HR.out.drewN _).drew) HZ.out).mono ?_; rintro e w2 ⟨rfl, h2, m2⟩
         rw [HR2.out] at h2
         have H2 := hid'' h2
         have M2 : Hid (Mk q w w2) := ⟨m2.os, m2.tape, m2.output, m2.size, m2.block⟩
         clear h2 m2))
    all_goals
      obtain ⟨ao2, n2, cap2, at2, adc2, nc2, capc2, used2, d0, d1, d4, d5, -⟩ := H2.out.endCells
      have eT2 := H2.out.base.trail
      have hq2 := H2.out.lt
      by_cases t : at2 < (n2 : Int)
      · go_wp2
        go_quiet (fail)
        go_wp2
        go_region_with (first
          | (go_at_call 81; refine (kf.out at2 10 R2 _ (by omega) (by first | exact H2.out.drewN _ | exact (H2.out.drewN _).drew | exact H2.out.drew) (HZ2.out at2)).mono ?_; rintro e w3 ⟨rfl, h3, m3⟩
             rw [HE.out] at h3
             have H3 := hid'' h3
             have M3 : Hid (Mk q w2 w3) := ⟨m3.os, m3.tape, m3.output, m3.size, m3.block⟩
             clear h3 m3))
        all_goals go_wp2
        all_goals go_end0
        all_goals exact ⟨rfl, H3.out, M2.out.trans M3.out⟩
      · go_wp2
        go_quiet (fail)
        go_wp2
        go_end0
        exact ⟨rfl, by first | exact H2.out | exact H2.out.drew | exact H2.out.drewN _, by first | exact M2.out | exact M2.out.drew | exact M2.out.drewN _⟩
  · by_cases t : at' < (n : Int)
    · have hfin : rest (run (DP.fin x.bs) R) = fails R (10, at'.toNat) := by
        cases R with
        | error e => rfl
        | ok s =>
          obtain ⟨e1, e2, e3, e4⟩ := hs s rfl
          show rest (DP.fin x.bs s) = _
          unfold DP.fin
          rw [if_neg (by omega), if_pos (by omega), e2]
          rfl
      rw [hfin]
      clear hfin hs h
      go_enter Tryz.func62, Tryz.ntmps62
      go_wp2
      go_quiet (fail)
      go_wp2
      go_quiet (fail)
      go_wp2
      go_region_with (first
        | (go_at_call 81; refine (kf.out at' 10 R _ (by omega) (by first | exact HR.out.drewN _ | exact (HR.out.drewN _).drew | exact (HR.out.drewN _).drewN _ | exact ((HR.out.drewN _).drewN _).drew) HZ.out).mono ?_; rintro e w2 ⟨rfl, h2, m2⟩
           have H2 := hid'' h2
           have M2 : Hid (Mk q w w2) := ⟨m2.os, m2.tape, m2.output, m2.size, m2.block⟩
           clear h2 m2))
      all_goals go_wp2
      all_goals go_end0
      all_goals exact ⟨rfl, H2.out, M2.out⟩
    · have hfin : rest (run (DP.fin x.bs) R) = R := by
        cases R with
        | error e => rfl
        | ok s =>
          obtain ⟨e1, e2, e3, e4⟩ := hs s rfl
          show rest (DP.fin x.bs s) = _
          unfold DP.fin
          rw [if_neg (by omega), if_neg (by omega)]
          rfl
      rw [hfin]
      clear hfin hs h
      go_enter Tryz.func62, Tryz.ntmps62
      go_wp2
      go_quiet (fail)
      go_wp2
      go_quiet (fail)
      go_wp2
      go_end0
      exact ⟨rfl, by first | exact (HR.out.drewN _).drewN _ | exact HR.out.drewN _ | exact HR.out, by first | exact ((Mk.refl q w).drewN _).drewN _ | exact (Mk.refl q w).drewN _ | exact Mk.refl q w⟩

/-- The first four bytes, as they stand. -/
theorem take4 (bs : List Nat) (h : ¬ bs.length < 4) : ∃ a b c d, bs.take 4 = [a, b, c, d] ∧ bs[0]? = some a ∧ bs[1]? = some b ∧ bs[2]? = some c ∧ bs[3]? = some d := by
  match bs, h with
  | a :: b :: c :: d :: r, _ => exact ⟨a, b, c, d, rfl, rfl, rfl, rfl, rfl⟩
  | [], h => exact absurd h (by simp)
  | [_], h => exact absurd h (by simp)
  | [_, _], h => exact absurd h (by simp)
  | [_, _, _], h => exact absurd h (by simp)

end Go.Proofs.YtcnlkdoifogkbaaGreatDoor

/-
  A reader's first bytes: walked over the program.
-/
namespace Go.Proofs.YtcnlkdoifogkbaaGreatDoor
open Go.RowKit

set_option maxRecDepth 20000 in
set_option maxHeartbeats 2000000 in
theorem dmagic_any (x : Src) (q : Nat) (s : DP.St) (w : World) (h : Rd x q w s) (hcap : x.bs.length ≤ x.cap) :
    Calls Tryz.prog 54 #[.pointer (some ⟨q, 0, none⟩)] w fun e w' => e = .returned (.tuple #[]) ∧ Rs x q w' (rest (DP.magic x.bs s)) ∧ Mk q w w' := by
  have c0 : w.cell? ⟨q, 0, none⟩ = some (.slice x.ao x.bs.length x.cap) := h.blk.cell 0
  have c1 : w.cell? ⟨q, 1, none⟩ = some (.int .i64 s.at') := h.blk.cell 1
  have f1 := h.blk.frozen 1
  have eS := h.base.short
  have eM := h.base.magic
  have hq := h.lt
  have hlen := h.base.len
  have HR := hid'' h
  have kf : Hid (∀ c, c < 13 → Calls Tryz.prog 81 #[.pointer (some ⟨q, 0, none⟩), .int .i64 0, .iface 173 (.pointer (some (x.A (perm c))))] w fun e w' => e = .returned (.tuple #[]) ∧ Rs x q w' (.error (c, 0)) ∧ Mk q w w') := fun c hc => fail_any x q (.ok s) 0 c hc w h (fun _ _ => by omega)
  obtain ⟨L, hL⟩ : ∃ L, x.bs.length = L := ⟨_, rfl⟩
  by_cases h4 : x.bs.length < 4
  · have hm : DP.magic x.bs s = .error (6, 0) := by unfold DP.magic; rw [if_pos h4]
    rw [hm]
    rw [hL] at c0 h4 hlen hcap
    clear hm h
    go_enter Tryz.func54, Tryz.ntmps54
    go_wp2_with (first
      | (go_at_call 81; refine (kf.out 6 (by omega)).mono ?_; rintro e w2 ⟨rfl, h2⟩
         have H2 := hid'' h2
         clear h2))
    go_end0
    exact ⟨rfl, H2.out⟩
  · obtain ⟨a, b, c, d, ht, ha, hb, hc, hd⟩ := take4 x.bs h4
    obtain ⟨g, o, hao, hg, -⟩ := h.base.byt 0 (by omega)
    have l256 := h.base.lt256
    have cells : ∀ (j v : Nat), x.bs[j]? = some v → w.cell? ⟨g, o + j, none⟩ = some (.int .u8 (v : Int)) ∧ v < 256 := fun j v hv => by
      obtain ⟨hj, e⟩ := List.getElem?_eq_some_iff.1 hv
      obtain ⟨b', o', e1, e2, e3⟩ := h.base.byt j hj
      rw [hao] at e1
      cases e1
      rw [← e]
      exact ⟨e3, l256 _ (List.getElem_mem _)⟩
    obtain ⟨ka, la⟩ := cells 0 a ha
    obtain ⟨kb, lb⟩ := cells 1 b hb
    obtain ⟨kc, lc⟩ := cells 2 c hc
    obtain ⟨kd, ld⟩ := cells 3 d hd
    have hcv := run_convert_bytes_back (P := Tryz.prog) w 32 9 5 ⟨g, o, none⟩ x.cap [UInt8.ofNat a, UInt8.ofNat b, UInt8.ofNat c, UInt8.ofNat d] Tryz.underlying32 Tryz.underlying5 Tryz.underlying9 (fun j hj => by
      rw [Addr.add_lit]
      have h4' : j = 0 ∨ j = 1 ∨ j = 2 ∨ j = 3 := by simp at hj; omega
      rcases h4' with rfl | rfl | rfl | rfl
      · simpa [Nat.mod_eq_of_lt la] using ka
      · simpa [Nat.mod_eq_of_lt lb] using kb
      · simpa [Nat.mod_eq_of_lt lc] using kc
      · simpa [Nat.mod_eq_of_lt ld] using kd)
    rw [show [UInt8.ofNat a, UInt8.ofNat b, UInt8.ofNat c, UInt8.ofNat d].length = 4 from rfl] at hcv
    rw [hao] at c0
    by_cases hy : x.bs.take 4 = [71, 76, 89, 49]
    · have hm : DP.magic x.bs s = .ok ((), { s with at' := 4 }) := by unfold DP.magic; rw [if_neg h4, if_pos hy]
      rw [hm]
      rw [ht] at hy
      obtain ⟨rfl, rfl, rfl, rfl⟩ : a = 71 ∧ b = 76 ∧ c = 89 ∧ d = 49 := by simpa using hy
      have hs : ByteArray.mk [UInt8.ofNat 71, UInt8.ofNat 76, UInt8.ofNat 89, UInt8.ofNat 49].toArray = ByteArray.mk #[71, 76, 89, 49] := rfl
      rw [hs] at hcv
      rw [hL] at c0 h4 hlen hcap
      have HL := hid'' hL
      clear hm h cells ka kb kc kd hs hy ha hb hc hd ht l256 hL
      go_enter Tryz.func54, Tryz.ntmps54
      go_wp2
      go_end0
      have := HR.out.setAt 4 (by rw [HL.out]; omega)
      exact ⟨rfl, this, Mk.self 1 _⟩
    · have hm : DP.magic x.bs s = .error (7, 0) := by unfold DP.magic; rw [if_neg h4, if_neg hy]
      rw [hm]
      rw [ht] at hy
      obtain ⟨S, hS⟩ : ∃ S, ByteArray.mk [UInt8.ofNat a, UInt8.ofNat b, UInt8.ofNat c, UInt8.ofNat d].toArray = S := ⟨_, rfl⟩
      have hne : ¬ S = ByteArray.mk #[71, 76, 89, 49] := fun e => by
        rw [← hS] at e
        have e2 := congrArg ByteArray.data e
        simp at e2
        apply hy
        obtain ⟨e3, e4, e5, e6⟩ := e2
        have f : ∀ (n m : Nat), n < 256 → m < 256 → UInt8.ofNat n = UInt8.ofNat m → n = m := fun n m h1 h2 e => by
          have := congrArg UInt8.toNat e
          simp at this
          omega
        rw [f a 71 la (by omega) e3, f b 76 lb (by omega) e4, f c 89 lc (by omega) e5, f d 49 ld (by omega) e6]
      have hnl : (S.toList == [71, 76, 89, 49]) = false := by
        have : ¬ S.toList = [71, 76, 89, 49] := fun e => hne (by
          rw [ByteArray.toList_eq] at e
          cases S with
          | mk data => cases data with
            | mk l => rw [show l = _ from e])
        simpa using this
      rw [hS] at hcv
      rw [hL] at c0 h4 hlen hcap
      clear hm h cells ka kb kc kd hy ha hb hc hd ht l256 hL hS
      go_enter Tryz.func54, Tryz.ntmps54
      go_wp2_with (first
        | (go_at_call 81; refine (kf.out 7 (by omega)).mono ?_; rintro e w2 ⟨rfl, h2⟩
           have H2 := hid'' h2
           clear h2))
      go_end0
      exact ⟨rfl, H2.out⟩

end Go.Proofs.YtcnlkdoifogkbaaGreatDoor

/-
  A reader reads an icon: what its parts come to.
-/
namespace Go.Proofs.YtcnlkdoifogkbaaGreatDoor
open Go.RowKit

set_option maxRecDepth 20000 in
theorem dcols_none (q : Nat) (f : Value) (w : World) :
    Calls Tryz.prog 57 #[.pointer (some ⟨q, 0, none⟩), .int .u64 0, f] w fun e w' => e = .returned (.slice none 0 0) ∧ w' = w := by
  go_enter Tryz.func57, Tryz.ntmps57
  go_wp2
  go_loopw [7, 10] (fun o i wr => o = .slice none 0 0 ∧ i = .int .u64 0 ∧ wr = w) (fun _ _ _ => 0)
  case atStart => exact ⟨rfl, rfl, rfl⟩
  case round =>
    obtain ⟨rfl, rfl, rfl⟩ := hrel
    go_wp2
    go_ret
    exact ⟨rfl, rfl⟩

/-- The greatest coordinate is set. -/
def setFar (f : Int) : Except DP.Bad DP.St → Except DP.Bad DP.St
  | .ok s => .ok { s with far := f }
  | .error e => .error e

theorem Rs.setFar {x : Src} {q : Nat} {w : World} {R : Except DP.Bad DP.St} (h : Rs x q w R) (f : Int) (hf : 0 ≤ f ∧ f ≤ 1048576) : Rs x q (w.setCell ⟨q, 3, none⟩ (.int .i64 f)) (setFar f R) := by
  cases R with
  | ok s => exact Rd.setFar h f hf
  | error e => exact Rx.setAny h 3 f (by omega)
theorem Rs.farCell {x : Src} {q : Nat} {w : World} {R : Except DP.Bad DP.St} (h : Rs x q w R) : w.frozen? ⟨q, 3, none⟩ = false ∧ ∃ b : Int, w.cell? ⟨q, 3, none⟩ = some (.int .i64 b) := by
  cases R with
  | ok s => exact ⟨(show Rd x q w s from h).blk.frozen 3, s.far, (show Rd x q w s from h).blk.cell 3⟩
  | error b =>
    obtain ⟨h1, ⟨ao, n, cap, at', far, adc, nc, capc, used, pts, cl, g, h2, h3, h4⟩, h5⟩ := h
    have := h2.cell 3
    simp at this
    exact ⟨h2.frozen 3, far, this⟩

theorem between_num {bs : List Nat} {lo hi : Nat} {R : Except DP.Bad DP.St} (hb : ∀ c ∈ bs, c < 256) : valOf (run (DP.num bs (DP.between lo hi)) R) ≤ hi := by
  cases R with
  | error e => show 0 ≤ _; omega
  | ok s =>
    show valOf (DP.num bs (DP.between lo hi) s) ≤ hi
    cases hN : DP.num bs (DP.between lo hi) s with
    | error e => show 0 ≤ _; omega
    | ok v =>
      obtain ⟨n, s1⟩ := v
      obtain ⟨-, f2, -⟩ := num_facts hN hb
      unfold DP.between at f2
      split at f2
      · cases f2
      · show n ≤ hi; omega
theorem atMost_num {bs : List Nat} {m : Nat} {R : Except DP.Bad DP.St} (hb : ∀ c ∈ bs, c < 256) : valOf (run (DP.num bs (DP.atMost m)) R) ≤ m := by
  cases R with
  | error e => show 0 ≤ _; omega
  | ok s =>
    show valOf (DP.num bs (DP.atMost m) s) ≤ m
    cases hN : DP.num bs (DP.atMost m) s with
    | error e => show 0 ≤ _; omega
    | ok v =>
      obtain ⟨n, s1⟩ := v
      obtain ⟨-, f2, -⟩ := num_facts hN hb
      unfold DP.atMost at f2
      split at f2
      · cases f2
      · show n ≤ m; omega

/-- Colors, whatever was ahead of them. -/
theorem dcols_all (x : Src) (q n : Nat) (R : Except DP.Bad DP.St) (w : World) (h : Rs x q w R) (hn : n ≤ 256) (hn0 : ∀ e, R = .error e → n = 0) (h0 : ∀ s, R = .ok s → s.cols = [] ∧ s.pts ≤ 4000) (h4 : ∀ s, R = .ok s → 4 ≤ x.bs.length) (hcap : x.bs.length ≤ x.cap) (had : x.adc = none) :
    Calls Tryz.prog 57 #[.pointer (some ⟨q, 0, none⟩), .int .u64 n, .func (.func 59) #[.pointer (some ⟨q, 0, none⟩)] #[]] w fun e w' => ∃ (g : List IC.Col) (ad : Option Addr) (cap : Nat) (adc : Option Addr) (capc : Nat), e = .returned (.slice ad g.length cap) ∧ Many w' 66 4 IC.Col.cells (.slice ad g.length cap) g ∧ Mk q w w' ∧ Rs (withCols x adc capc) q w' (rest (run (DP.list (DP.col x.bs) n []) R)) ∧ (∀ v, run (DP.list (DP.col x.bs) n []) R = .ok v → v.1 = g) ∧ (∀ s, rest (run (DP.list (DP.col x.bs) n []) R) = .ok s → s.pts ≤ 4000) := by
  cases R with
  | error e =>
    obtain rfl := hn0 e rfl
    refine (dcols_none q _ w).mono fun e' w' ⟨a, b⟩ => ?_
    subst b
    refine ⟨[], none, 0, x.adc, x.capc, a, (own_nil (α := IC.Col) w' 0 66 4 IC.Col.cells).many, Mk.refl _ _, h, (fun v hv => by cases hv), (fun s hs => by cases hs)⟩
  | ok s =>
    have hao : ∃ g o, x.ao = some ⟨g, o, none⟩ ∧ g < q := by
      have := h4 s rfl
      obtain ⟨b, o, e1, e2, -⟩ := (show Rd x q w s from h).base.byt 0 (by omega)
      exact ⟨b, o, e1, e2⟩
    refine (dcols_any x q n s w h (h0 s rfl).1 hn hcap hao).mono ?_
    rintro e w' ⟨g, ad, cap, rfl, hown, hk, hr, hp⟩
    have hmk : Mk q w w' := ⟨hr.1, hr.2.1, hr.2.2.1, hr.2.2.2, fun k hk' hn' => hk k hk' (fun e => hn' (by rw [e])) (fun a e => by rw [had] at e; cases e)⟩
    rw [show run (DP.list (DP.col x.bs) n []) (.ok s) = DP.list (DP.col x.bs) n [] s from rfl]
    cases hL : DP.list (DP.col x.bs) n [] s with
    | error b =>
      rw [hL] at hp
      have hx : Rx x q w' b := hp
      exact ⟨g, ad, cap, x.adc, x.capc, rfl, hown.many, hmk, hx, (fun v hv => by cases hv), (fun s hs => by cases hs)⟩
    | ok v =>
      rw [hL] at hp
      obtain ⟨e1, e2, e3, adc, capc, hrd, -⟩ := hp
      refine ⟨g, ad, cap, adc, capc, rfl, hown.many, hmk, hrd, (fun u hu => by cases hu; exact e1), (fun s' hs => ?_)⟩
      cases hs
      rw [e3]
      exact (h0 s rfl).2

end Go.Proofs.YtcnlkdoifogkbaaGreatDoor

/-
  A reader reads an icon: walked over the program.
-/
namespace Go.Proofs.YtcnlkdoifogkbaaGreatDoor
open Go.RowKit

theorem Rs.bs4 {bs : List Nat} {R : Except DP.Bad DP.St} {s : DP.St} (h : rest (run (DP.magic bs) R) = .ok s) : 4 ≤ bs.length ∧ ∃ s0, R = .ok s0 ∧ s.cols = s0.cols ∧ s.pts = s0.pts := by
  cases R with
  | error e => cases h
  | ok s0 =>
    change rest (DP.magic bs s0) = _ at h
    unfold DP.magic at h
    split at h
    · cases h
    · split at h
      · cases h; exact ⟨by omega, s0, rfl, rfl, rfl⟩
      · cases h

set_option maxRecDepth 20000 in
set_option maxHeartbeats 4000000 in
theorem dicon_any (x : Src) (q : Nat) (w : World) (h : Rd x q w DP.st0) (hcap : x.bs.length ≤ x.cap) (had : x.adc = none) :
    Calls Tryz.prog 29 #[.pointer (some ⟨q, 0, none⟩)] w fun e w' => ∃ (i : IC.Icon) (adc : Option Addr) (capc : Nat), e = .returned (.agg i.cells.toArray) ∧ IconOk w' i ∧ (∀ v, DP.body x.bs DP.st0 = .ok v → v.1 = DP.bare i) ∧ Rs (withCols x adc capc) q w' (rest (DP.body x.bs DP.st0)) ∧ Mk q w w' := by
  have hb := h.base.lt256
  have hq := h.lt
  obtain ⟨R0, hR0⟩ : ∃ R0 : Except DP.Bad DP.St, .ok DP.st0 = R0 := ⟨_, rfl⟩
  obtain ⟨R1, hR1⟩ : ∃ R1, rest (run (DP.magic x.bs) R0) = R1 := ⟨_, rfl⟩
  obtain ⟨a, ha⟩ : ∃ a, valOf (run (DP.num x.bs (DP.between 1 4096)) R1) = a := ⟨_, rfl⟩
  obtain ⟨R2, hR2⟩ : ∃ R2, rest (run (DP.num x.bs (DP.between 1 4096)) R1) = R2 := ⟨_, rfl⟩
  obtain ⟨b, hb'⟩ : ∃ b, valOf (run (DP.num x.bs (DP.between 1 4096)) R2) = b := ⟨_, rfl⟩
  obtain ⟨R3, hR3⟩ : ∃ R3, rest (run (DP.num x.bs (DP.between 1 4096)) R2) = R3 := ⟨_, rfl⟩
  obtain ⟨c, hc⟩ : ∃ c, valOf (run (DP.num x.bs (DP.between 0 6)) R3) = c := ⟨_, rfl⟩
  obtain ⟨R4, hR4⟩ : ∃ R4, rest (run (DP.num x.bs (DP.between 0 6)) R3) = R4 := ⟨_, rfl⟩
  obtain ⟨F, hF⟩ : ∃ F, IC.greatest ⟨a, b, c, DP.nov, [], DP.nov, []⟩ = F := ⟨_, rfl⟩
  obtain ⟨R5, hR5⟩ : ∃ R5, setFar F R4 = R5 := ⟨_, rfl⟩
  obtain ⟨n, hn⟩ : ∃ n, valOf (run (DP.num x.bs (DP.atMost 256)) R5) = n := ⟨_, rfl⟩
  obtain ⟨R6, hR6⟩ : ∃ R6, rest (run (DP.num x.bs (DP.atMost 256)) R5) = R6 := ⟨_, rfl⟩
  obtain ⟨RC, hRC⟩ : ∃ RC, run (DP.list (DP.col x.bs) n []) R6 = RC := ⟨_, rfl⟩
  obtain ⟨R7, hR7⟩ : ∃ R7, rest RC = R7 := ⟨_, rfl⟩
  obtain ⟨m, hm⟩ : ∃ m, valOf (run (DP.num x.bs (DP.atMost 200)) R7) = m := ⟨_, rfl⟩
  obtain ⟨R8, hR8⟩ : ∃ R8, rest (run (DP.num x.bs (DP.atMost 200)) R7) = R8 := ⟨_, rfl⟩
  obtain ⟨RM, hRM⟩ : ∃ RM, run (DP.list (DP.cmd x.bs) m []) R8 = RM := ⟨_, rfl⟩
  obtain ⟨R9, hR9⟩ : ∃ R9, rest RM = R9 := ⟨_, rfl⟩
  obtain ⟨RE, hRE⟩ : ∃ RE, rest (run (DP.fin x.bs) R9) = RE := ⟨_, rfl⟩
  have ha2 : a ≤ 4096 := by rw [← ha]; exact between_num hb
  have hb2 : b ≤ 4096 := by rw [← hb']; exact between_num hb
  have hc2 : c ≤ 6 := by rw [← hc]; exact between_num hb
  have hn2 : n ≤ 256 := by rw [← hn]; exact atMost_num hb
  have hm2 : m ≤ 200 := by rw [← hm]; exact atMost_num hb
  have hF2 : 0 ≤ F ∧ F ≤ 1048576 := by rw [← hF]; exact DP.greatest_le _
  have hK6 : ∀ s, R6 = .ok s → (s.cols = [] ∧ s.pts ≤ 4000) ∧ 4 ≤ x.bs.length := fun s e => by
    obtain ⟨s5, e5, a1, a2, a3⟩ := (keeps_num x.bs (DP.atMost 256)).run (hR6.trans e)
    cases hq4 : R4 with
    | error e' => rw [← hR5, hq4] at e5; cases e5
    | ok s4 =>
      rw [← hR5, hq4] at e5
      cases e5
      obtain ⟨s3, e3, b1, b2, b3⟩ := (keeps_num x.bs (DP.between 0 6)).run (hR4.trans hq4)
      obtain ⟨s2, e2, c1, c2, c3⟩ := (keeps_num x.bs (DP.between 1 4096)).run (hR3.trans e3)
      obtain ⟨s1, e1, d1, d2, d3⟩ := (keeps_num x.bs (DP.between 1 4096)).run (hR2.trans e2)
      obtain ⟨f1, s0, f2, f3, f4⟩ := Rs.bs4 (hR1.trans e1)
      rw [← hR0] at f2
      cases f2
      refine ⟨⟨?_, ?_⟩, f1⟩
      · rw [a2]; show s4.cols = []; rw [b2, c2, d2, f3]; rfl
      · rw [a3]; show s4.pts ≤ 4000; rw [b3, c3, d3, f4]; exact Nat.zero_le _
  have hn0 : ∀ e, R6 = .error e → n = 0 := fun e h6 => by
    rw [← hn]
    cases hq6 : run (DP.num x.bs (DP.atMost 256)) R5 with
    | error e' => rfl
    | ok v => rw [hq6] at hR6; rw [← hR6] at h6; cases h6
  have HEQ : Hid (∀ (g : List IC.Col) (g2 : List IC.Cmd), (∀ v, RC = .ok v → v.1 = g) → (∀ v, RM = .ok v → v.1 = g2.map DP.bareCmd) → run (DP.body x.bs) R0 = run (DP.ret (⟨a, b, c, DP.nov, g, DP.nov, g2.map DP.bareCmd⟩ : IC.Icon)) RE) := fun g g2 hg hg2 => by
    have e1 : run (DP.most x.bs) R0 = run (DP.ret (⟨a, b, c, DP.nov, g, DP.nov, g2.map DP.bareCmd⟩ : IC.Icon)) R9 := by
      unfold DP.most
      rw [run_then _ _ _ () (fun v _ => rfl), hR1, run_then _ _ _ a (fun v e => by rw [← ha]; exact valOf_ok v e), hR2, run_then _ _ _ b (fun v e => by rw [← hb']; exact valOf_ok v e), hR3, run_then _ _ _ c (fun v e => by rw [← hc]; exact valOf_ok v e), hR4, hF]
      have e5 : run (fun s => DP.andThen (DP.num x.bs (DP.atMost 256)) (fun n => DP.andThen (DP.list (DP.col x.bs) n []) fun cs => DP.andThen (DP.num x.bs (DP.atMost 200)) fun m => DP.andThen (DP.list (DP.cmd x.bs) m []) fun ms => DP.ret (⟨a, b, c, DP.nov, cs, DP.nov, ms⟩ : IC.Icon)) { s with far := F }) R4 = run (DP.andThen (DP.num x.bs (DP.atMost 256)) (fun n => DP.andThen (DP.list (DP.col x.bs) n []) fun cs => DP.andThen (DP.num x.bs (DP.atMost 200)) fun m => DP.andThen (DP.list (DP.cmd x.bs) m []) fun ms => DP.ret (⟨a, b, c, DP.nov, cs, DP.nov, ms⟩ : IC.Icon))) R5 := by rw [← hR5]; cases R4 <;> rfl
      rw [e5, run_then _ _ _ n (fun v e => by rw [← hn]; exact valOf_ok v e), hR6, run_then _ _ _ g (fun v e => by rw [hRC] at e; exact hg v e), hRC, hR7, run_then _ _ _ m (fun v e => by rw [← hm]; exact valOf_ok v e), hR8, run_then _ _ _ (g2.map DP.bareCmd) (fun v e => by rw [hRM] at e; exact hg2 v e), hRM, hR9]
    unfold DP.body
    rw [run_then _ _ _ _ (fun v e => by rw [e1] at e; exact (run_ret _ _).2 v e), e1, (run_ret _ R9).1, run_then _ _ _ () (fun v _ => rfl), hRE]
  have k1 : Hid (∀ W, Below w.heap.size w W → Calls Tryz.prog 54 #[.pointer (some ⟨q, 0, none⟩)] W fun e w' => e = .returned (.tuple #[]) ∧ Rs x q w' R1 ∧ Mk q W w') := fun W hW => by
    have := dmagic_any x q DP.st0 W (h.below hW) hcap
    rw [← hR1, ← hR0]
    exact this
  have kb : ∀ (lo hi g1 g2 : Nat) (R R' : Except DP.Bad DP.St) (z : Nat), valOf (run (DP.num x.bs (DP.between lo hi)) R) = z → rest (run (DP.num x.bs (DP.between lo hi)) R) = R' → ∀ W, Rs x q W R → W.cell? ⟨g1, 0, none⟩ = some (.int .u64 lo) → W.cell? ⟨g2, 0, none⟩ = some (.int .u64 hi) → g1 < W.heap.size → g2 < W.heap.size → Calls Tryz.prog 56 #[.pointer (some ⟨q, 0, none⟩), .func (.func 82) #[] #[.pointer (some ⟨g1, 0, none⟩), .pointer (some ⟨g2, 0, none⟩)]] W fun e w' => e = .returned (.int .u64 z) ∧ Rs x q w' R' ∧ Mk q W w' := fun lo hi g1 g2 R R' z h1 h2 W hW c1 c2 s1 s2 => by
    have := rnum_any x q R (DP.between lo hi) 82 #[] #[.pointer (some ⟨g1, 0, none⟩), .pointer (some ⟨g2, 0, none⟩)] W hW (fun s _ => rule_between x q lo hi g1 g2 W hW.base c1 c2 s1 s2) (b13 _ _)
    rw [h1, h2] at this
    exact this
  have k2 : Hid (∀ g1 g2 W, Rs x q W R1 → W.cell? ⟨g1, 0, none⟩ = some (.int .u64 1) → W.cell? ⟨g2, 0, none⟩ = some (.int .u64 4096) → g1 < W.heap.size → g2 < W.heap.size → Calls Tryz.prog 56 #[.pointer (some ⟨q, 0, none⟩), .func (.func 82) #[] #[.pointer (some ⟨g1, 0, none⟩), .pointer (some ⟨g2, 0, none⟩)]] W fun e w' => e = .returned (.int .u64 a) ∧ Rs x q w' R2 ∧ Mk q W w') := fun g1 g2 => kb 1 4096 g1 g2 R1 R2 a ha hR2
  have k3 : Hid (∀ g1 g2 W, Rs x q W R2 → W.cell? ⟨g1, 0, none⟩ = some (.int .u64 1) → W.cell? ⟨g2, 0, none⟩ = some (.int .u64 4096) → g1 < W.heap.size → g2 < W.heap.size → Calls Tryz.prog 56 #[.pointer (some ⟨q, 0, none⟩), .func (.func 82) #[] #[.pointer (some ⟨g1, 0, none⟩), .pointer (some ⟨g2, 0, none⟩)]] W fun e w' => e = .returned (.int .u64 b) ∧ Rs x q w' R3 ∧ Mk q W w') := fun g1 g2 => kb 1 4096 g1 g2 R2 R3 b hb' hR3
  have k4 : Hid (∀ g1 g2 W, Rs x q W R3 → W.cell? ⟨g1, 0, none⟩ = some (.int .u64 0) → W.cell? ⟨g2, 0, none⟩ = some (.int .u64 6) → g1 < W.heap.size → g2 < W.heap.size → Calls Tryz.prog 56 #[.pointer (some ⟨q, 0, none⟩), .func (.func 82) #[] #[.pointer (some ⟨g1, 0, none⟩), .pointer (some ⟨g2, 0, none⟩)]] W fun e w' => e = .returned (.int .u64 c) ∧ Rs x q w' R4 ∧ Mk q W w') := fun g1 g2 => kb 0 6 g1 g2 R3 R4 c hc hR4
  have k6 : Hid (∀ g1 W, Rs x q W R5 → W.cell? ⟨g1, 0, none⟩ = some (.int .u64 256) → g1 < W.heap.size → Calls Tryz.prog 56 #[.pointer (some ⟨q, 0, none⟩), .func (.func 84) #[] #[.pointer (some ⟨g1, 0, none⟩)]] W fun e w' => e = .returned (.int .u64 n) ∧ Rs x q w' R6 ∧ Mk q W w') := fun g1 W hW c1 s1 => by
    have := rnum_any x q R5 (DP.atMost 256) 84 #[] #[.pointer (some ⟨g1, 0, none⟩)] W hW (fun s _ => rule_atMost x q 256 g1 W hW.base c1 s1) (m13 _)
    rw [hn, hR6] at this
    exact this
  have k7 : Hid (∀ W, Rs x q W R6 → Calls Tryz.prog 57 #[.pointer (some ⟨q, 0, none⟩), .int .u64 n, .func (.func 59) #[.pointer (some ⟨q, 0, none⟩)] #[]] W fun e w' => ∃ (g : List IC.Col) (ad : Option Addr) (cap : Nat) (adc : Option Addr) (capc : Nat), e = .returned (.slice ad g.length cap) ∧ Many w' 66 4 IC.Col.cells (.slice ad g.length cap) g ∧ Mk q W w' ∧ Rs (withCols x adc capc) q w' R7 ∧ (∀ v, RC = .ok v → v.1 = g) ∧ (∀ s, R7 = .ok s → s.pts ≤ 4000)) := fun W hW => by
    have := dcols_all x q n R6 W hW hn2 hn0 (fun s e => (hK6 s e).1) (fun s e => (hK6 s e).2) hcap had
    rw [hRC, hR7] at this
    exact this
  have k8 : Hid (∀ adc capc g1 W, Rs (withCols x adc capc) q W R7 → W.cell? ⟨g1, 0, none⟩ = some (.int .u64 200) → g1 < W.heap.size → Calls Tryz.prog 56 #[.pointer (some ⟨q, 0, none⟩), .func (.func 84) #[] #[.pointer (some ⟨g1, 0, none⟩)]] W fun e w' => e = .returned (.int .u64 m) ∧ Rs (withCols x adc capc) q w' R8 ∧ Mk q W w') := fun adc capc g1 W hW c1 s1 => by
    have := rnum_any (withCols x adc capc) q R7 (DP.atMost 200) 84 #[] #[.pointer (some ⟨g1, 0, none⟩)] W hW (fun s _ => rule_atMost (withCols x adc capc) q 200 g1 W hW.base c1 s1) (m13 _)
    rw [show run (DP.num (withCols x adc capc).bs (DP.atMost 200)) R7 = run (DP.num x.bs (DP.atMost 200)) R7 from rfl, hm, hR8] at this
    exact this
  have k9 : Hid (∀ adc capc W, Rs (withCols x adc capc) q W R8 → (∀ s, R7 = .ok s → s.pts ≤ 4000) → Calls Tryz.prog 60 #[.pointer (some ⟨q, 0, none⟩), .int .u64 m, .func (.func 61) #[.pointer (some ⟨q, 0, none⟩)] #[]] W fun e w' => ∃ (g : List IC.Cmd) (ad : Option Addr) (cap : Nat), e = .returned (.slice ad g.length cap) ∧ Own w' W.heap.size 62 11 IC.Cmd.cells ad cap g ∧ (∀ p ∈ g, CmdOk w' p) ∧ (∀ v, RM = .ok v → v.1 = g.map DP.bareCmd) ∧ Rs (withCols x adc capc) q w' R9 ∧ Mk q W w') := fun adc capc W hW hp => by
    have := dcmds_any (withCols x adc capc) q m R8 W hW hm2 (fun s e => by
      obtain ⟨s7, e7, -, -, a3⟩ := (keeps_num x.bs (DP.atMost 200)).run (hR8.trans e)
      rw [a3]
      exact hp s7 e7)
    refine this.mono ?_
    rw [show run (DP.list (DP.cmd (withCols x adc capc).bs) m []) R8 = run (DP.list (DP.cmd x.bs) m []) R8 from rfl, hRM, hR9]
    rintro e w' ⟨g, ad, cap, a1, -, a3, a4, a5, a6, a7, -⟩
    exact ⟨g, ad, cap, a1, a3, a4, a5, a6, a7⟩
  have kE : Hid (∀ adc capc W, Rs (withCols x adc capc) q W R9 → Calls Tryz.prog 62 #[.pointer (some ⟨q, 0, none⟩)] W fun e w' => e = .returned (.tuple #[]) ∧ Rs (withCols x adc capc) q w' RE ∧ Mk q W w') := fun adc capc W hW => by
    have := dend_any (withCols x adc capc) q R9 W hW
    rw [show run (DP.fin (withCols x adc capc).bs) R9 = run (DP.fin x.bs) R9 from rfl, hRE] at this
    exact this
  have kg : Hid (∀ W, Calls Tryz.prog 44 #[.agg #[.int .i64 a, .int .i64 b, .int .i64 c, .slice none 0 0, .slice none 0 0]] W fun e w' => e = .returned (.int .i64 F) ∧ Below W.heap.size W w') := fun W => by
    have := greatest_any ⟨a, b, c, .slice none 0 0, [], .slice none 0 0, []⟩ W
    rw [show IC.greatest ⟨a, b, c, .slice none 0 0, [], .slice none 0 0, []⟩ = F from hF] at this
    exact this
  have HRP : Hid (∀ RP, run (DP.body x.bs) R0 = RP → DP.body x.bs DP.st0 = RP) := fun RP e => by rw [← hR0] at e; exact e
  have H5 : Hid (setFar F R4 = R5) := hR5
  obtain ⟨RP, hRP⟩ : ∃ RP, DP.body x.bs DP.st0 = RP := ⟨_, rfl⟩
  have hRP2 : run (DP.body x.bs) R0 = RP := by rw [← hR0]; exact hRP
  rw [hRP2] at HEQ
  rw [hRP]
  clear hRP hRP2 kb hK6 hn0 hR0 hR1 ha hR2 hb' hR3 hc hR4 hF hR5 hn hR6 hRC hR7 hm hR8 hRM hR9 hRE hb h HRP
  go_enter Tryz.func29, Tryz.ntmps29
  go_upto_region 3 with (first
    | (go_at_call 54; refine (k1.out _ ((Below.refl _ _).alloc (Nat.le_refl _) _)).mono ?_; rintro e w1 ⟨rfl, h1⟩
       have H1 := hid'' h1
       clear h1
       have lt1 : w.heap.size < w1.heap.size := by have := H1.out.2.size; simp at this; omega
       have B1 : Blk w1 w.heap.size 27 #[.int .i64 0, .int .i64 0, .int .i64 0, .slice none 0 0, .slice none 0 0] := Blk.mk (blk_new w _ _) H1.out.2 (by omega))
    | (go_at_call 55; refine (mkbetween 1 4096 _).mono ?_; rintro e w2 ⟨rfl, u0, u1, hsz2, hb2'⟩
       have S2 : Hid (Rs x q w2 R1) := H1.out.1.below hb2'
       have M2 : Hid (Mk q w w2) := ((Mk.below ((Below.refl w.heap.size w).alloc (Nat.le_refl _) (Obj.cells #[.int .i64 0, .int .i64 0, .int .i64 0, .slice none 0 0, .slice none 0 0] 27))).trans H1.out.2).trans (Mk.below hb2')
       have B2 := B1.below hb2' lt1
       have U0 := hid'' u0
       have U1 := hid'' u1
       clear hb2' u0 u1 B1))
  go_upto_region 4 with (first
    | (go_at_call 56; refine (k4.out w4.heap.size (w4.heap.size + 1) _ (H4.out.1.below HB5.out.2.2.2) HB5.out.1 HB5.out.2.1 (by have := HB5.out.2.2.1; omega) (by have := HB5.out.2.2.1; omega)).mono ?_; rintro e w6 ⟨rfl, h6⟩
       have S6 : Hid (Rs x q w6 R4) := h6.1
       have M6 : Hid (Mk q w w6) := (((M2.out.trans H3.out.2).trans H4.out.2).trans (Mk.below HB5.out.2.2.2)).trans h6.2
       have B6 := ((B2.mk H3.out.2 (by omega)).mk H4.out.2 (by omega)).below HB5.out.2.2.2 (by have := H3.out.2.size; have := H4.out.2.size; omega)
       replace B6 := B6.mk h6.2 (by omega)
       have lt6 : w.heap.size < w6.heap.size := B6.lt
       clear h6)
    | (go_at_call 55; refine (mkbetween 0 6 w4).mono ?_; rintro e w5 ⟨rfl, h5⟩
       have HB5 := hid'' h5
       clear h5)
    | (go_at_call 56; refine (k3.out w1.heap.size (w1.heap.size + 1) _ H3.out.1 ((H3.out.2.cell (by omega) (by omega)).trans U0.out) ((H3.out.2.cell (by omega) (by omega)).trans U1.out) (by have := H3.out.2.size; omega) (by have := H3.out.2.size; omega)).mono ?_; rintro e w4 ⟨rfl, h4⟩
       have H4 := hid'' h4
       clear h4)
    | (go_at_call 56; refine (k2.out w1.heap.size (w1.heap.size + 1) _ S2.out U0.out U1.out (by omega) (by omega)).mono ?_; rintro e w3 ⟨rfl, h3⟩
       have H3 := hid'' h3
       clear h3))
  obtain ⟨W7, hW7⟩ : ∃ W7, w6.alloc (.cells #[.int .i64 a, .int .i64 b, .int .i64 c, .slice none 0 0, .slice none 0 0] 27) = W7 := ⟨_, rfl⟩
  have S7 : Hid (Rs x q W7 R4) := by rw [← hW7]; exact S6.out.below ((Below.refl _ _).alloc (Nat.le_refl _) _)
  have B7 : Blk W7 w.heap.size 27 #[.int .i64 0, .int .i64 0, .int .i64 0, .slice none 0 0, .slice none 0 0] := by rw [← hW7]; exact B6.alloc _
  have C7 : Blk W7 w6.heap.size 27 #[.int .i64 a, .int .i64 b, .int .i64 c, .slice none 0 0, .slice none 0 0] := by rw [← hW7]; exact blk_new w6 _ _
  have M7 : Hid (Mk q w W7) := by rw [← hW7]; exact M6.out.alloc _
  have lt7 := C7.lt
  rw [hW7]
  clear hW7 S6 M6 B6 H3 H4 HB5 S2 M2 B2 U0 U1 H1
  have hq6 : q < w6.heap.size := by omega
  have i0 := C7.cell 0
  have i1 := C7.cell 1
  have i2 := C7.cell 2
  have i3 := C7.cell 3
  have i4 := C7.cell 4
  simp at i0 i1 i2 i3 i4
  go_upto_region 5 with (first
    | (go_at_call 44; refine (kg.out _).mono ?_; rintro e w8 ⟨rfl, hb8⟩
       have S8 : Hid (Rs x q w8 R4) := S7.out.below hb8
       have B8 := B7.below hb8 (by omega)
       have C8 := C7.below hb8 lt7
       have M8 : Hid (Mk q w w8) := M7.out.trans (Mk.below hb8)
       have lt8 := C8.lt
       have hq8 := S8.out.lt
       obtain ⟨f3, b3, c3⟩ := S8.out.farCell
       clear hb8))
  obtain ⟨W9, hW9⟩ : ∃ W9, w8.setCell ⟨q, 3, none⟩ (.int .i64 F) = W9 := ⟨_, rfl⟩
  have S9 : Hid (Rs x q W9 R5) := by rw [← hW9, ← H5.out]; exact S8.out.setFar F hF2
  have B9 : Blk W9 w.heap.size 27 #[.int .i64 0, .int .i64 0, .int .i64 0, .slice none 0 0, .slice none 0 0] := by rw [← hW9]; exact B8.far (p := ⟨q, 3, none⟩) (by show w.heap.size ≠ q; omega) _
  have C9 : Blk W9 w6.heap.size 27 #[.int .i64 a, .int .i64 b, .int .i64 c, .slice none 0 0, .slice none 0 0] := by rw [← hW9]; exact C8.far (p := ⟨q, 3, none⟩) (by show w6.heap.size ≠ q; omega) _
  have M9 : Hid (Mk q w W9) := by rw [← hW9]; exact M8.out.trans (Mk.self 3 _)
  have lt9 := C9.lt
  rw [hW9]
  clear hW9 S8 B8 C8 M8 f3 c3 S7 B7 C7 M7 i0 i1 i2 i3 i4
  go_upto_region 6 with (first
    | (go_at_call 57; refine (k7.out _ H11.out.1).mono ?_; rintro e w12 ⟨g, adk, capk, adc, capc, rfl, hmany, hm12, hr12, hv12, hp12⟩
       obtain ⟨nk, hnk⟩ : ∃ n, g.length = n := ⟨_, rfl⟩
       rw [hnk] at hmany
       have HMY := hid'' hmany
       have H12 := hid'' (And.intro hr12 hm12)
       have HV12 := hid'' hv12
       have HP12 := hid'' hp12
       rw [hnk]
       have B12 := B11.mk hm12 (by omega)
       have C12 := C11.mk hm12 (by omega)
       have lt12 := C12.lt
       have j3 := C12.cell 3
       have fj3 := C12.frozen 3
       simp at j3
       clear hmany hm12 hr12 hv12 hp12 hnk)
    | (go_at_call 56; refine (k6.out W9.heap.size _ (S9.out.below HB10.out.2.2) HB10.out.1 (by have := HB10.out.2.1; omega)).mono ?_; rintro e w11 ⟨rfl, h11⟩
       have H11 := hid'' h11
       have B11 := (B9.below HB10.out.2.2 (by omega)).mk h11.2 (by omega)
       have C11 := (C9.below HB10.out.2.2 lt9).mk h11.2 (by omega)
       clear h11)
    | (go_at_call 58; refine (mkatMost 256 W9).mono ?_; rintro e w10 ⟨rfl, h10⟩
       have HB10 := hid'' h10
       clear h10))
  obtain ⟨W13, hW13⟩ : ∃ W13, w12.setCell ⟨w6.heap.size, 3, none⟩ (.slice adk nk capk) = W13 := ⟨_, rfl⟩
  have S13 : Hid (Rs (withCols x adc capc) q W13 R7) := by rw [← hW13]; exact H12.out.1.far (p := ⟨w6.heap.size, 3, none⟩) (by show q < w6.heap.size; omega) C12 (by decide) (by decide) _
  have B13 : Blk W13 w.heap.size 27 #[.int .i64 0, .int .i64 0, .int .i64 0, .slice none 0 0, .slice none 0 0] := by rw [← hW13]; exact B12.far (p := ⟨w6.heap.size, 3, none⟩) (by show w.heap.size ≠ w6.heap.size; omega) _
  have C13 : Blk W13 w6.heap.size 27 #[.int .i64 a, .int .i64 b, .int .i64 c, .slice adk nk capk, .slice none 0 0] := by rw [← hW13]; exact C12.set (j := 3) _
  have M13 : Hid (Mk q w W13) := by rw [← hW13]; exact (((M9.out.trans (Mk.below HB10.out.2.2)).trans H11.out.2).trans H12.out.2).set (p := ⟨w6.heap.size, 3, none⟩) (by show w.heap.size ≤ w6.heap.size; omega) _
  have Y13 : Hid (Many W13 66 4 IC.Col.cells (.slice adk nk capk) g) := by rw [← hW13]; exact Row.farT (p := ⟨w6.heap.size, 3, none⟩) (t' := 27) HMY.out C12 (by decide) _
  have lt13 := C13.lt
  rw [hW13]
  clear hW13 B12 C12 H12 B11 C11 H11 HB10 B9 C9 S9 M9 HMY j3 fj3
  go_upto_region 7 with (first
    | (go_at_call 60; refine (k9.out adc capc _ H15.out.1 HP12.out).mono ?_; rintro e w16 ⟨g2, adm, capm, rfl, hown, hoks, hv16, hr16, hm16⟩
       obtain ⟨nm, hnm⟩ : ∃ n, g2.length = n := ⟨_, rfl⟩
       have HNM := hid'' hnm
       have HOW := hid'' hown
       have HOK := hid'' hoks
       have H16 := hid'' (And.intro hr16 hm16)
       have HV16 := hid'' hv16
       rw [hnm]
       have B16 := B15.mk hm16 (by omega)
       have C16 := C15.mk hm16 (by omega)
       have Y16 : Hid (Many w16 66 4 IC.Col.cells (.slice adk nk capk) g) := by
         obtain ⟨ar, hbr⟩ := H15.out.1.blk
         exact Row.mkq Y15.out hbr hm16 (by decide)
       have lt16 := C16.lt
       have j4 := C16.cell 4
       have fj4 := C16.frozen 4
       simp at j4
       clear hown hoks hv16 hr16 hm16 hnm)
    | (go_at_call 56; refine (k8.out adc capc W13.heap.size _ (S13.out.below HB14.out.2.2) HB14.out.1 (by have := HB14.out.2.1; omega)).mono ?_; rintro e w15 ⟨rfl, h15⟩
       have H15 := hid'' h15
       have B15 := (B13.below HB14.out.2.2 (by omega)).mk h15.2 (by omega)
       have C15 := (C13.below HB14.out.2.2 lt13).mk h15.2 (by omega)
       have Y15 : Hid (Many w15 66 4 IC.Col.cells (.slice adk nk capk) g) := by
         obtain ⟨ar, hbr⟩ := (S13.out.below HB14.out.2.2).blk
         exact Row.mkq (Row.below Y13.out HB14.out.2.2) hbr h15.2 (by decide)
       clear h15)
    | (go_at_call 58; refine (mkatMost 200 W13).mono ?_; rintro e w14 ⟨rfl, h14⟩
       have HB14 := hid'' h14
       clear h14))
  obtain ⟨W17, hW17⟩ : ∃ W17, w16.setCell ⟨w6.heap.size, 4, none⟩ (.slice adm nm capm) = W17 := ⟨_, rfl⟩
  have S17 : Hid (Rs (withCols x adc capc) q W17 R9) := by rw [← hW17]; exact H16.out.1.far (p := ⟨w6.heap.size, 4, none⟩) (by show q < w6.heap.size; omega) C16 (by decide) (by decide) _
  have B17 : Blk W17 w.heap.size 27 #[.int .i64 0, .int .i64 0, .int .i64 0, .slice none 0 0, .slice none 0 0] := by rw [← hW17]; exact B16.far (p := ⟨w6.heap.size, 4, none⟩) (by show w.heap.size ≠ w6.heap.size; omega) _
  have C17 : Blk W17 w6.heap.size 27 #[.int .i64 a, .int .i64 b, .int .i64 c, .slice adk nk capk, .slice adm nm capm] := by rw [← hW17]; exact C16.set (j := 4) _
  have M17 : Hid (Mk q w W17) := by rw [← hW17]; exact (((M13.out.trans (Mk.below HB14.out.2.2)).trans H15.out.2).trans H16.out.2).set (p := ⟨w6.heap.size, 4, none⟩) (by show w.heap.size ≤ w6.heap.size; omega) _
  have Y17 : Hid (Many W17 66 4 IC.Col.cells (.slice adk nk capk) g) := by rw [← hW17]; exact Row.farT (p := ⟨w6.heap.size, 4, none⟩) (t' := 27) Y16.out C16 (by decide) _
  have Z17 : Hid (Many W17 62 11 IC.Cmd.cells (.slice adm nm capm) g2 ∧ ∀ p ∈ g2, CmdOk W17 p) := by
    rw [← hW17]
    refine ⟨?_, fun p hp => ⟨Row.farT (p := ⟨w6.heap.size, 4, none⟩) (t' := 27) (HOK.out p hp).1 C16 (by decide) _, fun r hr => Row.farT (p := ⟨w6.heap.size, 4, none⟩) (t' := 27) ((HOK.out p hp).2 r hr) C16 (by decide) _⟩⟩
    have := Own.many HOW.out
    rw [HNM.out] at this
    exact Row.farT (p := ⟨w6.heap.size, 4, none⟩) (t' := 27) this C16 (by decide) _
  have lt17 := C17.lt
  rw [hW17]
  clear hW17 B16 C16 H16 B15 C15 H15 HB14 B13 C13 S13 M13 HOW HOK Y16 Y15 Y13 j4 fj4
  go_wp2_with (first
    | (go_at_call 62; refine (kE.out adc capc _ S17.out).mono ?_; rintro e w18 ⟨rfl, h18⟩
       have S18 := hid'' h18.1
       have M18 : Hid (Mk q w w18) := M17.out.trans h18.2
       have B18 := B17.mk h18.2 (by omega)
       have C18 := C17.mk h18.2 (by omega)
       have Y18 : Hid (IconOk w18 ⟨a, b, c, .slice adk nk capk, g, .slice adm nm capm, g2⟩) := by
         obtain ⟨ar, hbr⟩ := S17.out.blk
         exact ⟨Row.mkq Y17.out hbr h18.2 (by decide), Row.mkq Z17.out.1 hbr h18.2 (by decide), fun p hp => (Z17.out.2 p hp).mkq S17.out h18.2⟩
       have lt18 := C18.lt
       have x0 := B18.cell 0
       have fx0 := B18.frozen 0
       have y0 := C18.cell 0
       have x1 := B18.cell 1
       have fx1 := B18.frozen 1
       have y1 := C18.cell 1
       have x2 := B18.cell 2
       have fx2 := B18.frozen 2
       have y2 := C18.cell 2
       have x3 := B18.cell 3
       have fx3 := B18.frozen 3
       have y3 := C18.cell 3
       have x4 := B18.cell 4
       have fx4 := B18.frozen 4
       have y4 := C18.cell 4
       simp at x0 x1 x2 x3 x4 y0 y1 y2 y3 y4
       clear h18))
  have hE := HEQ.out g g2 HV12.out HV16.out
  refine bodyPost_ret (v := .agg #[.int .i64 a, .int .i64 b, .int .i64 c, .slice adk nk capk, .slice adm nm capm]) (by simp [results, Tryz.results29, go_sem, B18.got 0 (by simp) (.int .i64 a), (B18.set (j := 0) (.int .i64 a)).got 1 (by simp) (.int .i64 b), ((B18.set (j := 0) (.int .i64 a)).set (j := 1) (.int .i64 b)).got 2 (by simp) (.int .i64 c), (((B18.set (j := 0) (.int .i64 a)).set (j := 1) (.int .i64 b)).set (j := 2) (.int .i64 c)).got 3 (by simp) (.slice adk nk capk), ((((B18.set (j := 0) (.int .i64 a)).set (j := 1) (.int .i64 b)).set (j := 2) (.int .i64 c)).set (j := 3) (.slice adk nk capk)).got 4 (by simp) (.slice adm nm capm)]) rfl ⟨⟨a, b, c, .slice adk nk capk, g, .slice adm nm capm, g2⟩, adc, capc, rfl, ?_, ?_, ?_, ?_⟩
  · exact ⟨Row.farT (p := ⟨w.heap.size, 4, none⟩) (t' := 27) (Row.farT (p := ⟨w.heap.size, 3, none⟩) (t' := 27) (Row.farT (p := ⟨w.heap.size, 2, none⟩) (t' := 27) (Row.farT (p := ⟨w.heap.size, 1, none⟩) (t' := 27) (Row.farT (p := ⟨w.heap.size, 0, none⟩) (t' := 27) (Y18.out.1) B18 (by decide) (.int .i64 a)) (B18.set (j := 0) (.int .i64 a)) (by decide) (.int .i64 b)) ((B18.set (j := 0) (.int .i64 a)).set (j := 1) (.int .i64 b)) (by decide) (.int .i64 c)) (((B18.set (j := 0) (.int .i64 a)).set (j := 1) (.int .i64 b)).set (j := 2) (.int .i64 c)) (by decide) (.slice adk nk capk)) ((((B18.set (j := 0) (.int .i64 a)).set (j := 1) (.int .i64 b)).set (j := 2) (.int .i64 c)).set (j := 3) (.slice adk nk capk)) (by decide) (.slice adm nm capm), Row.farT (p := ⟨w.heap.size, 4, none⟩) (t' := 27) (Row.farT (p := ⟨w.heap.size, 3, none⟩) (t' := 27) (Row.farT (p := ⟨w.heap.size, 2, none⟩) (t' := 27) (Row.farT (p := ⟨w.heap.size, 1, none⟩) (t' := 27) (Row.farT (p := ⟨w.heap.size, 0, none⟩) (t' := 27) (Y18.out.2.1) B18 (by decide) (.int .i64 a)) (B18.set (j := 0) (.int .i64 a)) (by decide) (.int .i64 b)) ((B18.set (j := 0) (.int .i64 a)).set (j := 1) (.int .i64 b)) (by decide) (.int .i64 c)) (((B18.set (j := 0) (.int .i64 a)).set (j := 1) (.int .i64 b)).set (j := 2) (.int .i64 c)) (by decide) (.slice adk nk capk)) ((((B18.set (j := 0) (.int .i64 a)).set (j := 1) (.int .i64 b)).set (j := 2) (.int .i64 c)).set (j := 3) (.slice adk nk capk)) (by decide) (.slice adm nm capm), fun p hp => ⟨Row.farT (p := ⟨w.heap.size, 4, none⟩) (t' := 27) (Row.farT (p := ⟨w.heap.size, 3, none⟩) (t' := 27) (Row.farT (p := ⟨w.heap.size, 2, none⟩) (t' := 27) (Row.farT (p := ⟨w.heap.size, 1, none⟩) (t' := 27) (Row.farT (p := ⟨w.heap.size, 0, none⟩) (t' := 27) ((Y18.out.2.2 p hp).1) B18 (by decide) (.int .i64 a)) (B18.set (j := 0) (.int .i64 a)) (by decide) (.int .i64 b)) ((B18.set (j := 0) (.int .i64 a)).set (j := 1) (.int .i64 b)) (by decide) (.int .i64 c)) (((B18.set (j := 0) (.int .i64 a)).set (j := 1) (.int .i64 b)).set (j := 2) (.int .i64 c)) (by decide) (.slice adk nk capk)) ((((B18.set (j := 0) (.int .i64 a)).set (j := 1) (.int .i64 b)).set (j := 2) (.int .i64 c)).set (j := 3) (.slice adk nk capk)) (by decide) (.slice adm nm capm), fun r hr => Row.farT (p := ⟨w.heap.size, 4, none⟩) (t' := 27) (Row.farT (p := ⟨w.heap.size, 3, none⟩) (t' := 27) (Row.farT (p := ⟨w.heap.size, 2, none⟩) (t' := 27) (Row.farT (p := ⟨w.heap.size, 1, none⟩) (t' := 27) (Row.farT (p := ⟨w.heap.size, 0, none⟩) (t' := 27) ((Y18.out.2.2 p hp).2 r hr) B18 (by decide) (.int .i64 a)) (B18.set (j := 0) (.int .i64 a)) (by decide) (.int .i64 b)) ((B18.set (j := 0) (.int .i64 a)).set (j := 1) (.int .i64 b)) (by decide) (.int .i64 c)) (((B18.set (j := 0) (.int .i64 a)).set (j := 1) (.int .i64 b)).set (j := 2) (.int .i64 c)) (by decide) (.slice adk nk capk)) ((((B18.set (j := 0) (.int .i64 a)).set (j := 1) (.int .i64 b)).set (j := 2) (.int .i64 c)).set (j := 3) (.slice adk nk capk)) (by decide) (.slice adm nm capm)⟩⟩
  · intro v hv
    rw [hE] at hv
    exact (run_ret _ _).2 v hv
  · rw [hE, (run_ret _ RE).1]
    have r0 := S18.out.far (p := ⟨w.heap.size, 0, none⟩) (by show q < w.heap.size; omega) B18 (by decide) (by decide) (.int .i64 a)
    have r1 := r0.far (p := ⟨w.heap.size, 1, none⟩) (by show q < w.heap.size; omega) (B18.set (j := 0) (.int .i64 a)) (by decide) (by decide) (.int .i64 b)
    have r2 := r1.far (p := ⟨w.heap.size, 2, none⟩) (by show q < w.heap.size; omega) ((B18.set (j := 0) (.int .i64 a)).set (j := 1) (.int .i64 b)) (by decide) (by decide) (.int .i64 c)
    have r3 := r2.far (p := ⟨w.heap.size, 3, none⟩) (by show q < w.heap.size; omega) (((B18.set (j := 0) (.int .i64 a)).set (j := 1) (.int .i64 b)).set (j := 2) (.int .i64 c)) (by decide) (by decide) (.slice adk nk capk)
    have r4 := r3.far (p := ⟨w.heap.size, 4, none⟩) (by show q < w.heap.size; omega) ((((B18.set (j := 0) (.int .i64 a)).set (j := 1) (.int .i64 b)).set (j := 2) (.int .i64 c)).set (j := 3) (.slice adk nk capk)) (by decide) (by decide) (.slice adm nm capm)
    exact r4
  · exact (((((M18.out).set (p := ⟨w.heap.size, 0, none⟩) (Nat.le_refl _) _).set (p := ⟨w.heap.size, 1, none⟩) (Nat.le_refl _) _).set (p := ⟨w.heap.size, 2, none⟩) (Nat.le_refl _) _).set (p := ⟨w.heap.size, 3, none⟩) (Nat.le_refl _) _).set (p := ⟨w.heap.size, 4, none⟩) (Nat.le_refl _) _

end Go.Proofs.YtcnlkdoifogkbaaGreatDoor

/-
  What Icon of package decode answers: walked over the program.
-/
namespace Go.Proofs.YtcnlkdoifogkbaaGreatDoor
open Go.RowKit

/-- What Icon answers. -/
def DecPost (A : Nat → Addr) (w : World) (R : Except DP.Bad IC.Icon) (e : Ending) (w' : World) : Prop := Below w.heap.size w w' ∧ match R with
  | .ok i0 => ∃ i : IC.Icon, e = .returned (.tuple #[.agg i.cells.toArray, .nilIface]) ∧ i0 = DP.bare i ∧ IconOk w' i
  | .error b => b.1 < 13 ∧ ∃ g, e = .returned (.tuple #[.agg #[.int .i64 0, .int .i64 0, .int .i64 0, .slice none 0 0, .slice none 0 0], .iface 79 (.pointer (some ⟨g, 0, none⟩))]) ∧ Blk w' g 81 #[.int .i64 b.2, errD A b.1]

set_option maxRecDepth 20000 in
set_option maxHeartbeats 2000000 in
theorem decode_long (A : Nat → Addr) (ao : Option Addr) (cap : Nat) (bs : List Nat) (w : World) (hE : Errs13 w A) (hl : 60000 < bs.length) (hm : bs.length ≤ 1000000) :
    Calls Tryz.prog 8 #[.slice ao bs.length cap] w (DecPost A w (DP.icon bs)) := by
  have hd : DP.icon bs = .error (5, 60000) := by unfold DP.icon; rw [if_pos hl]
  rw [hd]
  obtain ⟨L, hL⟩ : ∃ L, bs.length = L := ⟨_, rfl⟩
  rw [hL] at hl hm ⊢
  have eL : w.cell? ⟨0, 0, none⟩ = some (.iface 173 (.pointer (some (A (perm 5))))) := (hE (perm 5) (perm_lt 5 (by omega))).1
  have sL : 0 < w.heap.size := (hE (perm 5) (perm_lt 5 (by omega))).2.1
  clear hE hd
  go_enter Tryz.func8, Tryz.ntmps8
  go_wp2
  go_region
  all_goals go_wp2
  all_goals exact bodyPost_ret (v := .tuple #[.agg #[.int .i64 0, .int .i64 0, .int .i64 0, .slice none 0 0, .slice none 0 0], .iface 79 (.pointer (some ⟨w.heap.size + 1, 0, none⟩))]) (by simp [results, Tryz.results8, go_sem]) rfl ⟨(((Below.refl _ _).alloc (Nat.le_refl _) _).alloc (by simp) _).drew, by omega, w.heap.size + 1, rfl, (two_boxes w _ _ _ _).2.drew⟩

set_option maxRecDepth 20000 in
set_option maxHeartbeats 2000000 in
theorem decode_short (A : Nat → Addr) (ao : Option Addr) (cap : Nat) (bs : List Nat) (w : World) (hE : Errs13 w A) (hc : Cells w ao bs) (h256 : ∀ c ∈ bs, c < 256) (hl : ¬ 60000 < bs.length) (hcap : bs.length ≤ cap) :
    Calls Tryz.prog 8 #[.slice ao bs.length cap] w (DecPost A w (DP.icon bs)) := by
  obtain ⟨x, hx⟩ : ∃ x : Src, x = ⟨A, ao, cap, bs, none, 0⟩ := ⟨_, rfl⟩
  have h13 : 13 ≤ w.heap.size := by
    rcases Nat.lt_or_ge w.heap.size 13 with h | h
    · have := (hE 12 (by omega)).2.1; omega
    · exact h
  have kb : Hid (∀ W, Below w.heap.size w W → Blk W (w.heap.size + 1) 84 (rcells x DP.st0) → Rd x (w.heap.size + 1) W DP.st0) := fun W hW hB => by
    subst hx
    refine ⟨⟨fun i hi => (hW.cell (p := ⟨i, 0, none⟩) (by show i < w.heap.size; omega)).trans (hE i hi).1, by omega, Nat.le_of_lt hB.lt, fun j hj => ?_, h256, by show bs.length ≤ 60000; omega⟩, ⟨Nat.zero_le _, Int.le_refl _, by decide, by decide, by decide, by decide⟩, hB, own_nil _ _ _ _ _⟩
    obtain ⟨b, o, e1, e2, e3⟩ := hc j hj
    exact ⟨b, o, e1, by omega, (hW.cell (p := ⟨b, o + j, none⟩) e2).trans e3⟩
  have ki : Hid (∀ W, Rd x (w.heap.size + 1) W DP.st0 → Calls Tryz.prog 29 #[.pointer (some ⟨w.heap.size + 1, 0, none⟩)] W fun e w' => ∃ (i : IC.Icon) (adc : Option Addr) (capc : Nat), e = .returned (.agg i.cells.toArray) ∧ IconOk w' i ∧ (∀ v, DP.body bs DP.st0 = .ok v → v.1 = DP.bare i) ∧ Rs (withCols x adc capc) (w.heap.size + 1) w' (rest (DP.body bs DP.st0)) ∧ Mk (w.heap.size + 1) W w') := fun W hW => by
    have := dicon_any x (w.heap.size + 1) W hW (by rw [hx]; exact hcap) (by rw [hx])
    rw [show x.bs = bs by rw [hx]] at this
    exact this
  have hrc : rcells x DP.st0 = #[.slice ao bs.length cap, .int .i64 0, .nilIface, .int .i64 0, .slice none 0 0, .int .i64 0, .int .i64 0, .bool false] := by rw [hx]; rfl
  rw [hrc] at kb
  obtain ⟨RB, hRB⟩ : ∃ RB, DP.body bs DP.st0 = RB := ⟨_, rfl⟩
  rw [hRB] at ki
  have hxA : x.A = A := by rw [hx]
  have HXA := hid'' hxA
  obtain ⟨L, hL⟩ : ∃ L, bs.length = L := ⟨_, rfl⟩
  rw [hL] at kb hl ⊢
  cases RB with
  | error bad =>
    have hd : DP.icon bs = .error bad := by unfold DP.icon; rw [hL, if_neg hl, hRB]
    rw [hd]
    clear hE hc h256 hcap hrc hRB hd hL hx hxA
    go_enter Tryz.func8, Tryz.ntmps8
    go_upto_region 5 with (first
      | (go_at_call 29; refine (ki.out _ (kb.out _ (((Below.refl _ _).alloc (Nat.le_refl _) _).alloc (by simp) _) (two_boxes w _ _ _ _).2)).mono ?_; rintro e w2 ⟨⟨iw, ih, is, vk, ik, vm, im⟩, adc, capc, rfl, hok, -, hr2, hm2⟩
         have SX : Hid (Rx (withCols x adc capc) (w.heap.size + 1) w2 bad) := hr2
         have M2 := hid'' hm2
         have B2 : Blk w2 w.heap.size 27 #[.int .i64 0, .int .i64 0, .int .i64 0, .slice none 0 0, .slice none 0 0] := Blk.mk (two_boxes w _ _ _ _).1 hm2 (by omega)
         have lt2 : w.heap.size + 1 < w2.heap.size := Rs.lt (R := .error bad) hr2
         clear hr2 hm2
         obtain ⟨adk, capk, hvk, -, -⟩ := Many.len hok.1
         obtain ⟨adm, capm, hvm, -, -⟩ := Many.len hok.2.1
         replace hvk : vk = .slice adk ik.length capk := hvk
         replace hvm : vm = .slice adm im.length capm := hvm
         generalize ik.length = nk at hvk
         generalize im.length = nm at hvm
         subst hvk hvm
         clear hok
         simp only [IC.Icon.cells]))
    obtain ⟨W4, hW4⟩ : ∃ W4, w2.alloc (.cells #[.int .i64 iw, .int .i64 ih, .int .i64 is, .slice adk nk capk, .slice adm nm capm] 27) = W4 := ⟨_, rfl⟩
    have X4 : Rx (withCols x adc capc) (w.heap.size + 1) W4 bad := by rw [← hW4]; exact SX.out.below ((Below.refl _ _).alloc (Nat.le_refl _) _)
    have B4 : Blk W4 w.heap.size 27 #[.int .i64 0, .int .i64 0, .int .i64 0, .slice none 0 0, .slice none 0 0] := by rw [← hW4]; exact B2.alloc _
    have L4 : Hid (Below w.heap.size w W4) := by
      rw [← hW4]
      have m := ((Mk.below (q := w.heap.size + 1) (((Below.refl w.heap.size w).alloc (Nat.le_refl _) (Obj.cells #[.int .i64 0, .int .i64 0, .int .i64 0, .slice none 0 0, .slice none 0 0] 27)).alloc (by simp) (Obj.cells #[.slice ao L cap, .int .i64 0, .nilIface, .int .i64 0, .slice none 0 0, .int .i64 0, .int .i64 0, .bool false] 84))).trans M2.out).alloc (Obj.cells #[.int .i64 iw, .int .i64 ih, .int .i64 is, .slice adk nk capk, .slice adm nm capm] 27)
      exact ⟨m.os, m.tape, m.output, m.size, fun k hk => m.block k hk (fun e => by cases e; omega)⟩
    rw [hW4]
    obtain ⟨-, ⟨ao', n', cap', at', far, adc', nc, capc', used, pts, cl, gE, h2, h3, h4⟩, h5⟩ := X4
    have hA0 : (withCols x adc capc).A = A := HXA.out
    rw [hA0] at h3
    have HA := hid'' h3
    have H5 := hid'' h5
    have HNE : Hid (gE ≠ w.heap.size) := fun e => by
      have hb := B4
      unfold Blk at hb h3
      rw [e, hb] at h3
      simp at h3
    have cE : W4.cell? ⟨w.heap.size + 1, 2, none⟩ = some (.iface 79 (.pointer (some ⟨gE, 0, none⟩))) := h2.cell 2
    have lt4 := h2.lt
    have x0 := B4.cell 0
    have fx0 := B4.frozen 0
    have x1 := B4.cell 1
    have fx1 := B4.frozen 1
    have x2 := B4.cell 2
    have fx2 := B4.frozen 2
    have x3 := B4.cell 3
    have fx3 := B4.frozen 3
    have x4 := B4.cell 4
    have fx4 := B4.frozen 4
    simp at x0 x1 x2 x3 x4
    clear hW4 B2 SX M2 h2 h3 h4 h5 hA0 ki kb
    go_wp2
    go_region
    all_goals go_wp2
    all_goals
      refine bodyPost_ret (v := .tuple #[.agg #[.int .i64 0, .int .i64 0, .int .i64 0, .slice none 0 0, .slice none 0 0], .iface 79 (.pointer (some ⟨gE, 0, none⟩))]) (by simp [results, Tryz.results8, go_sem, B4.got 0 (by simp) (.int .i64 0), (B4.set (j := 0) (.int .i64 0)).got 1 (by simp) (.int .i64 0), ((B4.set (j := 0) (.int .i64 0)).set (j := 1) (.int .i64 0)).got 2 (by simp) (.int .i64 0), (((B4.set (j := 0) (.int .i64 0)).set (j := 1) (.int .i64 0)).set (j := 2) (.int .i64 0)).got 3 (by simp) (.slice none 0 0), ((((B4.set (j := 0) (.int .i64 0)).set (j := 1) (.int .i64 0)).set (j := 2) (.int .i64 0)).set (j := 3) (.slice none 0 0)).got 4 (by simp) (.slice none 0 0)]) rfl ⟨?_, H5.out, gE, rfl, ?_⟩
      · have l := (((((L4.out).setCell (p := ⟨w.heap.size, 0, none⟩) (Nat.le_refl _) (.int .i64 0)).setCell (p := ⟨w.heap.size, 1, none⟩) (Nat.le_refl _) (.int .i64 0)).setCell (p := ⟨w.heap.size, 2, none⟩) (Nat.le_refl _) (.int .i64 0)).setCell (p := ⟨w.heap.size, 3, none⟩) (Nat.le_refl _) (.slice none 0 0)).setCell (p := ⟨w.heap.size, 4, none⟩) (Nat.le_refl _) (.slice none 0 0)
        first | exact l.drew | exact l
      · have l := (((((HA.out.far (p := ⟨w.heap.size, 0, none⟩) (by show gE ≠ w.heap.size; exact HNE.out) (.int .i64 0)).far (p := ⟨w.heap.size, 1, none⟩) (by show gE ≠ w.heap.size; exact HNE.out) (.int .i64 0)).far (p := ⟨w.heap.size, 2, none⟩) (by show gE ≠ w.heap.size; exact HNE.out) (.int .i64 0)).far (p := ⟨w.heap.size, 3, none⟩) (by show gE ≠ w.heap.size; exact HNE.out) (.slice none 0 0)).far (p := ⟨w.heap.size, 4, none⟩) (by show gE ≠ w.heap.size; exact HNE.out) (.slice none 0 0))
        first | exact l.drew | exact l
  | ok v =>
    have hd : DP.icon bs = .ok v.1 := by unfold DP.icon; rw [hL, if_neg hl, hRB]
    rw [hd]
    obtain ⟨i0, s0⟩ := v
    clear hE hc h256 hcap hrc hRB hd hL hx hxA
    go_enter Tryz.func8, Tryz.ntmps8
    go_upto_region 5 with (first
      | (go_at_call 29; refine (ki.out _ (kb.out _ (((Below.refl _ _).alloc (Nat.le_refl _) _).alloc (by simp) _) (two_boxes w _ _ _ _).2)).mono ?_; rintro e w2 ⟨⟨iw, ih, is, vk, ik, vm, im⟩, adc, capc, rfl, hok, hv2, hr2, hm2⟩
         have hrd : Rd (withCols x adc capc) (w.heap.size + 1) w2 s0 := hr2
         have cE : w2.cell? ⟨w.heap.size + 1, 2, none⟩ = some .nilIface := hrd.blk.cell 2
         have HV := hid'' (hv2 _ rfl)
         have M2 := hid'' hm2
         have B2 : Blk w2 w.heap.size 27 #[.int .i64 0, .int .i64 0, .int .i64 0, .slice none 0 0, .slice none 0 0] := Blk.mk (two_boxes w _ _ _ _).1 hm2 (by omega)
         have lt2 : w.heap.size + 1 < w2.heap.size := hrd.lt
         have HOK := hid'' hok
         obtain ⟨adk, capk, hvk, -, -⟩ := Many.len hok.1
         obtain ⟨adm, capm, hvm, -, -⟩ := Many.len hok.2.1
         replace hvk : vk = .slice adk ik.length capk := hvk
         replace hvm : vm = .slice adm im.length capm := hvm
         clear hr2 hm2 hv2 hrd hok
         obtain ⟨nk, hnk⟩ : ∃ n, ik.length = n := ⟨_, rfl⟩
         obtain ⟨nm, hnm⟩ : ∃ n, im.length = n := ⟨_, rfl⟩
         rw [hnk] at hvk
         rw [hnm] at hvm
         clear hnk hnm
         subst hvk hvm
         simp only [IC.Icon.cells]))
    obtain ⟨W4, hW4⟩ : ∃ W4, w2.alloc (.cells #[.int .i64 iw, .int .i64 ih, .int .i64 is, .slice adk nk capk, .slice adm nm capm] 27) = W4 := ⟨_, rfl⟩
    have B4 : Blk W4 w.heap.size 27 #[.int .i64 0, .int .i64 0, .int .i64 0, .slice none 0 0, .slice none 0 0] := by rw [← hW4]; exact B2.alloc _
    have C4 : Blk W4 w2.heap.size 27 #[.int .i64 iw, .int .i64 ih, .int .i64 is, .slice adk nk capk, .slice adm nm capm] := by rw [← hW4]; exact blk_new w2 _ _
    have Y4 : Hid (IconOk W4 ⟨iw, ih, is, .slice adk nk capk, ik, .slice adm nm capm, im⟩) := by rw [← hW4]; exact HOK.out.below ((Below.refl _ _).alloc (Nat.le_refl _) _)
    have L4 : Hid (Below w.heap.size w W4) := by
      rw [← hW4]
      have m := ((Mk.below (q := w.heap.size + 1) (((Below.refl w.heap.size w).alloc (Nat.le_refl _) (Obj.cells #[.int .i64 0, .int .i64 0, .int .i64 0, .slice none 0 0, .slice none 0 0] 27)).alloc (by simp) (Obj.cells #[.slice ao L cap, .int .i64 0, .nilIface, .int .i64 0, .slice none 0 0, .int .i64 0, .int .i64 0, .bool false] 84))).trans M2.out).alloc (Obj.cells #[.int .i64 iw, .int .i64 ih, .int .i64 is, .slice adk nk capk, .slice adm nm capm] 27)
      exact ⟨m.os, m.tape, m.output, m.size, fun k hk => m.block k hk (fun e => by cases e; omega)⟩
    have c4 : W4.cell? ⟨w.heap.size + 1, 2, none⟩ = some .nilIface := by rw [← hW4]; exact (((Below.refl w2.heap.size w2).alloc (Nat.le_refl _) _).cell (p := ⟨w.heap.size + 1, 2, none⟩) lt2).trans cE
    have lt4 := C4.lt
    rw [hW4]
    have x0 := B4.cell 0
    have fx0 := B4.frozen 0
    have y0 := C4.cell 0
    have x1 := B4.cell 1
    have fx1 := B4.frozen 1
    have y1 := C4.cell 1
    have x2 := B4.cell 2
    have fx2 := B4.frozen 2
    have y2 := C4.cell 2
    have x3 := B4.cell 3
    have fx3 := B4.frozen 3
    have y3 := C4.cell 3
    have x4 := B4.cell 4
    have fx4 := B4.frozen 4
    have y4 := C4.cell 4
    simp at x0 x1 x2 x3 x4 y0 y1 y2 y3 y4
    clear hW4 B2 M2 HOK ki kb cE
    go_wp2
    refine bodyPost_ret (v := .tuple #[.agg #[.int .i64 iw, .int .i64 ih, .int .i64 is, .slice adk nk capk, .slice adm nm capm], .nilIface]) (by simp [results, Tryz.results8, go_sem, B4.got 0 (by simp) (.int .i64 iw), (B4.set (j := 0) (.int .i64 iw)).got 1 (by simp) (.int .i64 ih), ((B4.set (j := 0) (.int .i64 iw)).set (j := 1) (.int .i64 ih)).got 2 (by simp) (.int .i64 is), (((B4.set (j := 0) (.int .i64 iw)).set (j := 1) (.int .i64 ih)).set (j := 2) (.int .i64 is)).got 3 (by simp) (.slice adk nk capk), ((((B4.set (j := 0) (.int .i64 iw)).set (j := 1) (.int .i64 ih)).set (j := 2) (.int .i64 is)).set (j := 3) (.slice adk nk capk)).got 4 (by simp) (.slice adm nm capm)]) rfl ⟨?_, ⟨iw, ih, is, .slice adk nk capk, ik, .slice adm nm capm, im⟩, rfl, HV.out, ?_⟩
    · exact (((((L4.out).setCell (p := ⟨w.heap.size, 0, none⟩) (Nat.le_refl _) (.int .i64 iw)).setCell (p := ⟨w.heap.size, 1, none⟩) (Nat.le_refl _) (.int .i64 ih)).setCell (p := ⟨w.heap.size, 2, none⟩) (Nat.le_refl _) (.int .i64 is)).setCell (p := ⟨w.heap.size, 3, none⟩) (Nat.le_refl _) (.slice adk nk capk)).setCell (p := ⟨w.heap.size, 4, none⟩) (Nat.le_refl _) (.slice adm nm capm)
    · exact ⟨Row.farT (p := ⟨w.heap.size, 4, none⟩) (t' := 27) (Row.farT (p := ⟨w.heap.size, 3, none⟩) (t' := 27) (Row.farT (p := ⟨w.heap.size, 2, none⟩) (t' := 27) (Row.farT (p := ⟨w.heap.size, 1, none⟩) (t' := 27) (Row.farT (p := ⟨w.heap.size, 0, none⟩) (t' := 27) (Y4.out.1) B4 (by decide) (.int .i64 iw)) (B4.set (j := 0) (.int .i64 iw)) (by decide) (.int .i64 ih)) ((B4.set (j := 0) (.int .i64 iw)).set (j := 1) (.int .i64 ih)) (by decide) (.int .i64 is)) (((B4.set (j := 0) (.int .i64 iw)).set (j := 1) (.int .i64 ih)).set (j := 2) (.int .i64 is)) (by decide) (.slice adk nk capk)) ((((B4.set (j := 0) (.int .i64 iw)).set (j := 1) (.int .i64 ih)).set (j := 2) (.int .i64 is)).set (j := 3) (.slice adk nk capk)) (by decide) (.slice adm nm capm), Row.farT (p := ⟨w.heap.size, 4, none⟩) (t' := 27) (Row.farT (p := ⟨w.heap.size, 3, none⟩) (t' := 27) (Row.farT (p := ⟨w.heap.size, 2, none⟩) (t' := 27) (Row.farT (p := ⟨w.heap.size, 1, none⟩) (t' := 27) (Row.farT (p := ⟨w.heap.size, 0, none⟩) (t' := 27) (Y4.out.2.1) B4 (by decide) (.int .i64 iw)) (B4.set (j := 0) (.int .i64 iw)) (by decide) (.int .i64 ih)) ((B4.set (j := 0) (.int .i64 iw)).set (j := 1) (.int .i64 ih)) (by decide) (.int .i64 is)) (((B4.set (j := 0) (.int .i64 iw)).set (j := 1) (.int .i64 ih)).set (j := 2) (.int .i64 is)) (by decide) (.slice adk nk capk)) ((((B4.set (j := 0) (.int .i64 iw)).set (j := 1) (.int .i64 ih)).set (j := 2) (.int .i64 is)).set (j := 3) (.slice adk nk capk)) (by decide) (.slice adm nm capm), fun p hp => ⟨Row.farT (p := ⟨w.heap.size, 4, none⟩) (t' := 27) (Row.farT (p := ⟨w.heap.size, 3, none⟩) (t' := 27) (Row.farT (p := ⟨w.heap.size, 2, none⟩) (t' := 27) (Row.farT (p := ⟨w.heap.size, 1, none⟩) (t' := 27) (Row.farT (p := ⟨w.heap.size, 0, none⟩) (t' := 27) ((Y4.out.2.2 p hp).1) B4 (by decide) (.int .i64 iw)) (B4.set (j := 0) (.int .i64 iw)) (by decide) (.int .i64 ih)) ((B4.set (j := 0) (.int .i64 iw)).set (j := 1) (.int .i64 ih)) (by decide) (.int .i64 is)) (((B4.set (j := 0) (.int .i64 iw)).set (j := 1) (.int .i64 ih)).set (j := 2) (.int .i64 is)) (by decide) (.slice adk nk capk)) ((((B4.set (j := 0) (.int .i64 iw)).set (j := 1) (.int .i64 ih)).set (j := 2) (.int .i64 is)).set (j := 3) (.slice adk nk capk)) (by decide) (.slice adm nm capm), fun r hr => Row.farT (p := ⟨w.heap.size, 4, none⟩) (t' := 27) (Row.farT (p := ⟨w.heap.size, 3, none⟩) (t' := 27) (Row.farT (p := ⟨w.heap.size, 2, none⟩) (t' := 27) (Row.farT (p := ⟨w.heap.size, 1, none⟩) (t' := 27) (Row.farT (p := ⟨w.heap.size, 0, none⟩) (t' := 27) ((Y4.out.2.2 p hp).2 r hr) B4 (by decide) (.int .i64 iw)) (B4.set (j := 0) (.int .i64 iw)) (by decide) (.int .i64 ih)) ((B4.set (j := 0) (.int .i64 iw)).set (j := 1) (.int .i64 ih)) (by decide) (.int .i64 is)) (((B4.set (j := 0) (.int .i64 iw)).set (j := 1) (.int .i64 ih)).set (j := 2) (.int .i64 is)) (by decide) (.slice adk nk capk)) ((((B4.set (j := 0) (.int .i64 iw)).set (j := 1) (.int .i64 ih)).set (j := 2) (.int .i64 is)).set (j := 3) (.slice adk nk capk)) (by decide) (.slice adm nm capm)⟩⟩

theorem decode_any (A : Nat → Addr) (ao : Option Addr) (cap : Nat) (bs : List Nat) (w : World) (hE : Errs13 w A) (hc : Cells w ao bs) (h256 : ∀ c ∈ bs, c < 256) (hl : bs.length ≤ 1000000) (hcap : bs.length ≤ cap) :
    Calls Tryz.prog 8 #[.slice ao bs.length cap] w (DecPost A w (DP.icon bs)) := by
  by_cases h : 60000 < bs.length
  · exact decode_long A ao cap bs w hE h hl
  · exact decode_short A ao cap bs w hE hc h256 h hcap

end Go.Proofs.YtcnlkdoifogkbaaGreatDoor

/-
  How the statements see an error with a place: walked over the program.
-/
namespace Go.Proofs.YtcnlkdoifogkbaaGreatDoor
open Go.RowKit

theorem placed_any (code p : Int) (w : World) (hc : code ≠ 0) :
    Calls Tryz.prog 13 #[.int .i64 code, .int .i64 p] w fun e w' => e = .returned (.agg #[.int .i64 code, .bool true, .int .i64 p]) ∧ Below w.heap.size w w' := by
  have h0 : (code == 0) = false := by simpa using hc
  go_enter Tryz.func13, Tryz.ntmps13
  go_wp2
  exact bodyPost_ret (v := .agg #[.int .i64 code, .bool true, .int .i64 p]) (by simp [results, Tryz.results13, go_sem]) rfl ⟨rfl, (by first | exact ((Below.refl _ _).alloc (Nat.le_refl _) _) | exact ((((Below.refl _ _).alloc (Nat.le_refl _) _).setCell (by simp) _).setCell (by simp) _).setCell (by simp) _)⟩

theorem run_assert_ptr {P : Program} (t xT e : TypeId) (v : Value) (w : World) (h : P.underlying t = some (.pointer e)) : (Instr.typeAssert (.iface t v) xT t true).run P w = .ok (.tuple #[v, .bool true]) w := by
  simp [Instr.typeAssert, run_underlying h]

set_option maxRecDepth 20000 in
set_option maxHeartbeats 1000000 in
theorem fault_at (A : Nat → Addr) (w : World) (hE : Errs13 w A) (s : Nat) (hs : s < 13) (a : Addr) (ha : A (perm s) = a) (g : Nat) (p : Int) (hg : w.heap[g]? = some (.cells #[.int .i64 p, .iface 173 (.pointer (some a))] 81 (0, 0))) :
    Calls Tryz.prog 14 #[.iface 79 (.pointer (some ⟨g, 0, none⟩))] w fun e w' => e = .returned (.agg #[.int .i64 (101 + (s : Int)), .bool true, .int .i64 p]) ∧ Below w.heap.size w w' := by
  have hlt : g < w.heap.size := (Array.getElem?_eq_some_iff.1 hg).1
  have c0 : ∀ W, Below w.heap.size w W → W.cell? ⟨g, 0, none⟩ = some (.int .i64 p) := fun W hb => by rw [hb.cell (p := ⟨g, 0, none⟩) hlt, cell_of_row w g 0 _ _ _ hg]; rfl
  have c1 : ∀ W, Below w.heap.size w W → W.cell? ⟨g, 1, none⟩ = some (.iface 173 (.pointer (some a))) := fun W hb => by rw [hb.cell (p := ⟨g, 1, none⟩) hlt, cell_of_row w g 1 _ _ _ hg]; rfl
  have d0 := c0 w (Below.refl _ _)
  have d1 := c1 w (Below.refl _ _)
  have C0 : Hid _ := c0
  have C1 : Hid _ := c1
  have KS : Hid (∀ W, Below w.heap.size w W → Calls Tryz.prog 35 #[.iface 173 (.pointer (some a))] W fun e w' => e = .returned (.int .i64 (101 + (s : Int))) ∧ Below W.heap.size W w') := fun W hb => sentinel_any A W (hE.below hb) s hs a ha
  clear c0 c1 hE hg
  have hta : ∀ W, (Instr.typeAssert (.iface 79 (.pointer (some ⟨g, 0, none⟩))) 34 79 true).run Tryz.prog W = .ok (.tuple #[.pointer (some ⟨g, 0, none⟩), .bool true]) W := fun W => run_assert_ptr _ _ _ _ _ Tryz.underlying79
  go_enter Tryz.func14, Tryz.ntmps14
  go_wp2
  go_region_with (first
    | (go_at_call 35; refine (KS.out _ (by first | exact (Below.refl _ _).alloc (Nat.le_refl _) _ | exact ((Below.refl _ _).alloc (Nat.le_refl _) _).drew)).mono ?_; rintro e w1 ⟨rfl, hb1⟩; obtain ⟨hc1, hf1⟩ := bcell hb1; have hz1 : w.heap.size < w1.heap.size := by { have := hb1.size; simp at this; omega })
    | (go_at_call 13; refine (placed_any _ _ _ (by omega)).mono ?_; rintro e w2 ⟨rfl, hb2⟩; obtain ⟨hc2, hf2⟩ := bcell hb2))
  all_goals go_wp2
  all_goals
    refine bodyPost_ret (v := .agg #[.int .i64 (101 + (s : Int)), .bool true, .int .i64 p]) (by simp [results, Tryz.results14, go_sem, hc1, hc2, hz1]) rfl ⟨rfl, ?_⟩
    have B1 : Below w.heap.size w w1 := (((Below.refl _ _).alloc (Nat.le_refl _) _).drew).trans (hb1.mono (by simp))
    have B2 : Below w.heap.size w w2 := B1.trans (hb2.mono (by omega))
    exact ((B2.setCell (Nat.le_refl _) _).setCell (Nat.le_refl _) _).setCell (Nat.le_refl _) _

set_option maxRecDepth 20000 in
set_option maxHeartbeats 1000000 in
/-- An error with its place is the fault that it should be. -/
theorem same_at (A : Nat → Addr) (w : World) (hE : Errs13 w A) (s : Nat) (hs : s < 13) (a : Addr) (ha : A (perm s) = a) (g : Nat) (p c : Int) (hc : c = 101 + (s : Int)) (hg : w.heap[g]? = some (.cells #[.int .i64 p, .iface 173 (.pointer (some a))] 81 (0, 0))) :
    Calls Tryz.prog 12 #[.iface 79 (.pointer (some ⟨g, 0, none⟩)), .agg #[.int .i64 c, .bool true, .int .i64 p]] w fun e w' => e = .returned (.bool true) ∧ Below w.heap.size w w' := by
  have hlt : g < w.heap.size := (Array.getElem?_eq_some_iff.1 hg).1
  have KF : Hid (∀ W, Below w.heap.size w W → Calls Tryz.prog 14 #[.iface 79 (.pointer (some ⟨g, 0, none⟩))] W fun e w' => e = .returned (.agg #[.int .i64 c, .bool true, .int .i64 p]) ∧ Below W.heap.size W w') := fun W hb => by
    rw [hc]
    exact fault_at A W (hE.below hb) s hs a ha g p (by rw [hb.block g hlt]; exact hg)
  clear hE hg hc
  go_enter Tryz.func12, Tryz.ntmps12
  go_wp2
  go_region_with (first
    | (go_at_call 14; refine (KF.out _ (by first | exact (Below.refl _ _).alloc (Nat.le_refl _) _ | exact ((Below.refl _ _).alloc (Nat.le_refl _) _).drew)).mono ?_; rintro e w1 ⟨rfl, hb1⟩; obtain ⟨hc1, hf1⟩ := bcell hb1; have hz1 : w.heap.size < w1.heap.size := by { have := hb1.size; simp at this; omega })
    | (go_at_call 32; refine (same_fault _ _ true _).mono ?_; rintro e w2 ⟨rfl, hb2⟩))
  all_goals go_wp2
  all_goals
    go_ret
    have B1 : Below w.heap.size w w1 := (((Below.refl _ _).alloc (Nat.le_refl _) _).drew).trans (hb1.mono (by simp))
    exact ⟨rfl, B1.trans (hb2.mono (by omega))⟩


end Go.Proofs.YtcnlkdoifogkbaaGreatDoor

/-
  The chapter's example of decode: walked over the program.
-/
namespace Go.Proofs.YtcnlkdoifogkbaaGreatDoor
open Go.RowKit

set_option maxRecDepth 20000 in
theorem dfirst_any (A : Nat → Addr) (w : World) (hE : Errs13 w A) :
    Calls Tryz.prog 5 #[] w fun e w' => e = .returned (.bool true) ∧ Below w.heap.size w w' := by
  have k1 : Hid (Calls Tryz.prog 8 #[.slice none 0 0] w fun e w' => ∃ g, e = .returned (.tuple #[.agg #[.int .i64 0, .int .i64 0, .int .i64 0, .slice none 0 0, .slice none 0 0], .iface 79 (.pointer (some ⟨g, 0, none⟩))]) ∧ Blk w' g 81 #[.int .i64 0, errD A 6] ∧ Below w.heap.size w w') := by
    refine (decode_any A none 0 [] w hE (cells_nil w none) (by simp) (by simp) (by simp)).mono ?_
    rintro e w' ⟨hb, hp⟩
    rw [show DP.icon [] = .error (6, 0) from rfl] at hp
    obtain ⟨-, g, h1, h2⟩ := hp
    exact ⟨g, h1, h2, hb⟩
  have HE := hid'' hE
  clear hE
  go_enter Tryz.func5, Tryz.ntmps5
  go_wp2_with (first
    | (go_at_call 12; refine (same_at A w2 (HE.out.below HB2.out) 6 (by omega) _ rfl g 0 107 (by decide) (HG2.out)).mono ?_; rintro e w3 ⟨rfl, hb3⟩
       have HB3 : Hid (Below w.heap.size w w3) := chain HB2.out hb3
       clear hb3)
    | (go_at_call 13; refine (placed_any 107 0 _ (by omega)).mono ?_; rintro e w2 ⟨rfl, hb2⟩
       have HB2 : Hid (Below w.heap.size w w2) := chain (chain HB1.out ((Below.refl _ _).alloc (Nat.le_refl _) _)) hb2
       have HG2 : Hid (Blk w2 g 81 #[.int .i64 0, errD A 6]) := (HG1.out.alloc _).below hb2 (HG1.out.alloc _).lt
       clear hb2)
    | (go_at_call 8; refine k1.out.mono ?_; rintro e w1 ⟨g, rfl, hg, hb1⟩
       have HB1 := hid'' hb1
       have HG1 := hid'' hg
       clear hg hb1))
  go_ret
  exact ⟨rfl, HB3.out⟩

end Go.Proofs.YtcnlkdoifogkbaaGreatDoor

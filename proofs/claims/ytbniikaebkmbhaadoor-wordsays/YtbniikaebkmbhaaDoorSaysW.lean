/-
  The words of any text, or where none begins; whether a text is a name: the program's answers are the document's: walked.
-/
import Derived.Test.YtbniikaebkmbhaaDoorTextW
import Derived.Test.YtbniikaebkmbhaaDoorWordSays1
import Derived.Test.YtbniikaebkmbhaaDoorIsRow
namespace Go.Proofs.YtbniikaebkmbhaaDoor
open Go.RowKit

namespace WP
theorem go_len : ∀ (f n : Nat) (d : List UInt8) (ws : List W), go f n d = .ok ws → ws.length ≤ f
  | 0, n, d, ws, h => by
    unfold go at h
    obtain rfl := Except.ok.inj h
    simp
  | f + 1, n, d, ws, h => by
    unfold go at h
    split at h
    · obtain rfl := Except.ok.inj h; simp
    · split at h
      · cases h
      · unfold pre at h
        split at h
        · cases h
        · rename_i l hl
          obtain rfl := Except.ok.inj h
          have := go_len f _ _ _ hl
          simp; omega
end WP

theorem seq_of_row {w w1 : World} {a : Option Addr} {len cap : Nat} {zs : List Int} (h : IsRow .i64 w a len cap zs) (hb : Below w.heap.size w w1) :
    SeqOk (w1.alloc (.cells #[.slice a len cap, .int .i64 0] 27)) w1.heap.size 0 := by
  rcases h with ⟨rfl, rfl, rfl, -⟩ | ⟨x, rfl, hl, hm, hz, hc, hw⟩
  · exact ⟨none, 0, 0, 0, blk_new w1 27 _, by omega, by omega, by unfold maxLen; omega, fun j hj => absurd hj (by omega)⟩
  · refine ⟨some x, len, cap, 0, blk_new w1 27 _, by omega, hl, hm, fun j hj => ?_⟩
    have hj' : j < zs.length := by omega
    have h1 := hc j hj'
    have h2 := World.block_lt_of_cell? w _ h1
    have h3 := h2
    rw [add_block] at h3
    have hlt : x.block < w1.heap.size := Nat.lt_of_lt_of_le h3 hb.size
    have hwf := hw (zs.getD j 0) (by simp [List.getD, hj'])
    refine ⟨x, zs.getD j 0, rfl, hlt, ?_, bounds_i64 hwf⟩
    have e : (w1.alloc (.cells #[.slice (some x) len cap, .int .i64 0] 27)).cell? (x.add j) = w1.cell? (x.add j) := World.cell?_of_block (Below.heap_alloc _ _ _ (by rw [add_block]; exact hlt))
    rw [e, hb.cell (p := x.add j) h2]
    exact h1

/-- A text made of numbers that came in. -/
theorem text_row {w w1 : World} {a : Option Addr} {len cap : Nat} {zs : List Int} (h : IsRow .i64 w a len cap zs) (hb : Below w.heap.size w w1) :
    Calls Tryd.prog 5 #[.pointer (some ⟨w1.heap.size, 0, none⟩)] (w1.alloc (.cells #[.slice a len cap, .int .i64 0] 27)) fun e w' => ∃ S : ByteArray, e = .returned (.string S) ∧ S.size ≤ 60000 ∧ Below w1.heap.size w1 w' := by
  refine (text_st _ w1.heap.size 0 _ ⟨seq_of_row h hb, Mk.refl _ _⟩ (by omega)).mono ?_
  rintro e w' ⟨S, rfl, hS, hst⟩
  exact ⟨S, rfl, hS, ((Below.refl _ _).alloc (Nat.le_refl _) _).trans (hst.out.2.low (Nat.le_refl _) (by simp))⟩

set_option maxRecDepth 100000 in
set_option maxHeartbeats 4000000 in
theorem wordsays (s t : ByteArray) (a : Option Addr) (len cap : Nat) (zs : List Int) (w : World) (A : Nat → Addr) (hE : Errs13 w A) (hs : s.size ≤ maxLen) (ht : t.size ≤ maxLen) (hl : IsRow .i64 w a len cap zs) (hT0 : ErrT w (A 0)) (hlen : len ≤ maxLen) :
    Calls Tryd.prog 3 #[.string s, .string t, .slice a len cap] w fun e w' => e = .returned (.bool true) ∧ Below w.heap.size w w' := by
  have kf := Lib.hid (first8_any (A 0) w hT0)
  unfold maxLen at hs ht hlen
  by_cases h600 : s.size ≤ 600
  · by_cases h60 : t.size ≤ 60
    · by_cases h200 : len ≤ 200
      · have kt : Hid (∀ w1, Below w.heap.size w w1 → Calls Tryd.prog 5 #[.pointer (some ⟨w1.heap.size, 0, none⟩)] (w1.alloc (.cells #[.slice a len cap, .int .i64 0] 27)) fun e w' => ∃ S : ByteArray, e = .returned (.string S) ∧ S.size ≤ 60000 ∧ Below w1.heap.size w1 w') := fun w1 hb => text_row hl hb
        have HE := Lib.hid hE
        have HT := Lib.hid hT0
        have kn := Lib.hid (fun W => isName_any t W (by omega))
        have kr := Lib.hid (fun W => risname_any t W (by omega))
        obtain ⟨P, hP⟩ : ∃ P, WP.isName t.data.toList = P := ⟨_, rfl⟩
        rw [hP] at kn kr
        have i1 : ¬ (600 < (s.size : Int)) := by omega
        have i2 : ¬ (60 < (t.size : Int)) := by omega
        have i3 : ¬ (200 < (len : Int)) := by omega
        clear hl hE hT0 hP
        go_enter Tryd.func3, Tryd.ntmps3
        go_wp2_with (first
          | (go_at_call 4; refine kf.out.mono ?_; rintro e w1 ⟨rfl, hb1⟩; have B1 := Lib.hid hb1; clear hb1)
          | (go_at_call 5; refine (kt.out _ B1.out).mono ?_; rintro e w2 ⟨T, rfl, hT, hb2⟩; have B2 := Lib.hid (B1.out.trans (hb2.mono B1.out.size)); clear hb2))
        have hcs : Hid (∀ k : Nat, k < 3 → ∃ U : ByteArray, U.size ≤ 60000 ∧ (w2.alloc (.cells #[.string s, .string t, .string T] 9)).cell? ⟨w2.heap.size, k, none⟩ = some (.string U)) := fun k hk => by
          rw [cell_new]
          have : k = 0 ∨ k = 1 ∨ k = 2 := by omega
          rcases this with rfl | rfl | rfl
          · exact ⟨s, by omega, rfl⟩
          · exact ⟨t, by omega, rfl⟩
          · exact ⟨T, hT, rfl⟩
        have hz : w2.heap.size < (w2.alloc (.cells #[.string s, .string t, .string T] 9)).heap.size := by simp
        have BS := Lib.hid (B2.out.alloc B2.out.size (.cells #[.string s, .string t, .string T] 9))
        obtain ⟨g, hg⟩ : ∃ g, w2.heap.size = g := ⟨_, rfl⟩
        rw [hg] at hcs hz ⊢
        generalize (w2.alloc (.cells #[.string s, .string t, .string T] 9)) = wS at hcs hz BS ⊢
        clear hg hT
        go_loopw [9] (fun i wr => ∃ k : Nat, i = .int .i64 k ∧ k ≤ 3 ∧ Hid (Below wS.heap.size wS wr)) (fun i _ => 3 - (intOf i).toNat)
        case atStart => exact ⟨0, rfl, by omega, Below.refl _ _⟩
        case round =>
          obtain ⟨k, rfl, hk, HB⟩ := hrel
          have BR := Lib.hid (BS.out.trans (HB.out.mono BS.out.size))
          by_cases hk3 : k < 3
          · obtain ⟨U, hU, hc⟩ := hcs.out k hk3
            have hki : (k : Int) < 3 := by omega
            have hc0 : ∀ W, Below wS.heap.size wS W → W.cell? ⟨g, k, none⟩ = some (.string U) := fun W hb => (hb.cell (p := ⟨g, k, none⟩) hz).trans hc
            have c1 := hc0 wr HB.out
            have HC := Lib.hid hc0
            clear hc hc0
            cases hX : WP.split U.data.toList with
            | ok ws =>
              have hwl : ws.length ≤ 60001 := by
                have := WP.go_len _ _ _ _ hX
                rw [← Lib.size_eq] at this
                omega
              obtain ⟨n, hn⟩ : ∃ n, ws.length = n := ⟨_, rfl⟩
              have ks := Lib.hid (split_ok U (A 0) wr hU (HT.out.below BR.out) ws hX)
              have kq : Hid (∀ W, Calls Tryd.prog 7 #[.string U] W fun e w' => ∃ ad cap C, e = .returned (.tuple #[.slice ad n cap, .agg #[.int .i64 0, .bool false, .int .i64 0]]) ∧ W.heap.size ≤ C ∧ Own w' C 57 3 wcells ad cap ws ∧ Below W.heap.size W w') := fun W => by
                refine (rsplit_any U W hU).mono ?_
                rw [hX]
                rintro e w' ⟨hb, ad, cap, C, hC, rfl, ho⟩
                exact ⟨ad, cap, C, by rw [hn], hC, ho, hb⟩
              rw [hn] at ks
              clear hX
              go_wp2_with (first
                | (go_at_call 6; refine ks.out.mono ?_; rintro e w3 ⟨ad, cap3, rfl, ho3, hb3⟩; have O3 := Lib.hid ho3; have B3 := Lib.hid hb3; clear ho3 hb3; have c2 := HC.out w3 (HB.out.trans (B3.out.mono HB.out.size)))
                | (go_at_call 7; refine (kq.out _).mono ?_; rintro e w4 ⟨ad4, cap4, C4, rfl, hC4, ho4, hb4⟩; have O4 := Lib.hid ho4; have B4 := Lib.hid hb4; clear ho4 hb4)
                | (go_at_call 8; refine (same_any ws n cap3 cap4 ad ad4 _ hn (by omega) _ _ ((O3.out.below B4.out (Nat.le_refl _)).alloc _) (O4.out.alloc _)).mono ?_; rintro e w5 ⟨rfl, m5, rfl⟩)
                | (go_at_call 9; refine (same_bare .nilIface 0 0 false _ (fun W _ => fault_nil W)).mono ?_; rintro e w6 ⟨rfl, hb6⟩; have B6 := Lib.hid hb6; clear hb6))
              go_round
              case rel =>
                refine ⟨k + 1, by go_num, by omega, ?_⟩
                have b3 := HB.out.trans (B3.out.mono HB.out.size)
                have b4 := b3.trans (B4.out.mono b3.size)
                have b5 := below_drewN (b4.alloc b4.size (.cells #[.int .i64 0, .bool false, .int .i64 0] 36)) m5
                exact b5.trans (B6.out.mono b5.size)
              case measure => simp [intOf]; omega
            | error n =>
              have ks := Lib.hid (split_bad U (A 0) wr hU (HT.out.below BR.out) n hX)
              have kq : Hid (∀ W, Calls Tryd.prog 7 #[.string U] W fun e w' => e = .returned (.tuple #[.slice none 0 0, .agg #[.int .i64 101, .bool true, .int .i64 (n : Nat)]]) ∧ Below W.heap.size W w') := fun W => by
                refine (rsplit_any U W hU).mono ?_
                rw [hX]
                rintro e w' ⟨hb, rfl⟩
                exact ⟨rfl, hb⟩
              clear hX
              go_wp2_with (first
                | (go_at_call 6; refine ks.out.mono ?_; rintro e w3 ⟨g3, rfl, hg3, hb3⟩; have G3 := Lib.hid hg3; have B3 := Lib.hid hb3; clear hg3 hb3; have c2 := HC.out w3 (HB.out.trans (B3.out.mono HB.out.size)))
                | (go_at_call 7; refine (kq.out _).mono ?_; rintro e w4 ⟨rfl, hb4⟩; have B4 := Lib.hid hb4; clear hb4)
                | (go_at_call 8; refine (same_any [] 0 0 0 none none _ rfl (by omega) _ _ (own_nil _ 0 _ _ _) (own_nil _ 0 _ _ _)).mono ?_; rintro e w5 ⟨rfl, m5, rfl⟩
                   have b3 := BR.out.trans (B3.out.mono BR.out.size)
                   have b4 := b3.trans (B4.out.mono b3.size)
                   have B5 := Lib.hid (below_drewN (b4.alloc b4.size (.cells #[.int .i64 101, .bool true, .int .i64 n] 36)) m5)
                   have X5 := Lib.hid (below_drewN (B4.out.alloc B4.out.size (.cells #[.int .i64 101, .bool true, .int .i64 n] 36)) m5)
                   clear b3 b4)
                | (go_at_call 9; refine (same_at A _ (HE.out.below B5.out) 0 (by omega) (A 0) rfl g3 (n : Int) 101 rfl ((X5.out.block g3 (Array.getElem?_eq_some_iff.1 G3.out).1).trans G3.out)).mono ?_; rintro e w6 ⟨rfl, hb6⟩; have B6 := Lib.hid hb6; clear hb6))
              go_round
              case rel =>
                refine ⟨k + 1, by go_num, by omega, ?_⟩
                have b3 := HB.out.trans (B3.out.mono HB.out.size)
                have b4 := b3.trans (B4.out.mono b3.size)
                have b5 := below_drewN (b4.alloc b4.size (.cells #[.int .i64 101, .bool true, .int .i64 n] 36)) m5
                exact b5.trans (B6.out.mono b5.size)
              case measure => simp [intOf]; omega
          · have hki : ¬ ((k : Int) < 3) := by omega
            go_wp2_with (first
              | (go_at_call 10; refine (kn.out _).mono ?_; rintro e w3 ⟨rfl, rfl⟩)
              | (go_at_call 11; refine (kr.out _).mono ?_; rintro e w4 ⟨rfl, hb4⟩; have B4 := Lib.hid (BR.out.trans (hb4.mono BR.out.size)); clear hb4))
            go_ret
            exact ⟨rfl, B4.out⟩
      · have i3 : 200 < (len : Int) := by omega
        have i1 : ¬ (600 < (s.size : Int)) := by omega
        have i2 : ¬ (60 < (t.size : Int)) := by omega
        clear hE hT0 hl
        go_enter Tryd.func3, Tryd.ntmps3
        go_wp2_with (go_at_call 4; refine kf.out.mono ?_; rintro e w1 ⟨rfl, hb1⟩)
        go_ret
        exact ⟨rfl, hb1⟩
    · have i2 : 60 < (t.size : Int) := by omega
      have i1 : ¬ (600 < (s.size : Int)) := by omega
      clear hE hT0 hl
      go_enter Tryd.func3, Tryd.ntmps3
      go_wp2_with (go_at_call 4; refine kf.out.mono ?_; rintro e w1 ⟨rfl, hb1⟩)
      go_ret
      exact ⟨rfl, hb1⟩
  · have i1 : 600 < (s.size : Int) := by omega
    clear hE hT0 hl
    go_enter Tryd.func3, Tryd.ntmps3
    go_wp2_with (go_at_call 4; refine kf.out.mono ?_; rintro e w1 ⟨rfl, hb1⟩)
    go_ret
    exact ⟨rfl, hb1⟩

end Go.Proofs.YtbniikaebkmbhaaDoor

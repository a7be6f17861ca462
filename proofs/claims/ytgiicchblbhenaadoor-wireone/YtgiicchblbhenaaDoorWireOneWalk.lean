/-
  The road of WireOne.
-/
import Derived.Deep.RegionHeld3
import Derived.Deep.DrawnRows
import Derived.Test.YtgiicchblbhenaaDoorWireLaw
namespace Go.Proofs.YtgiicchblbhenaaDoor
open Go.RowKit

set_option maxRecDepth 20000 in
set_option maxHeartbeats 1000000 in
theorem same_bytes (a1 a2 : Option Addr) (cap1 cap2 len : Nat) (bs : List Nat) (w : World) (hl : bs.length = len) (hle : len ≤ 1000000) (h1 : Cells w a1 bs) (h2 : Cells w a2 bs) :
    Calls Tryd.prog 14 #[.slice a1 len cap1, .slice a2 len cap2] w fun e w' => e = .returned (.bool true) ∧ ∃ m, w' = w.drewN m := by
  have HL : Hid (bs.length = len) := hl
  have H1 : Hid (Cells w a1 bs) := h1
  have H2 : Hid (Cells w a2 bs) := h2
  clear h1 h2 hl
  go_enter Tryd.func14, Tryd.ntmps14
  go_wp2
  go_loopw [5] (fun i wr => ∃ k m : Nat, k ≤ len ∧ i = .int .i64 k ∧ wr = w.drewN m) (fun i _ => len - (intOf i).toNat)
  case atStart => exact ⟨0, 0, Nat.zero_le _, rfl, rfl⟩
  case round =>
    obtain ⟨k, m, hk, rfl, rfl⟩ := hrel
    by_cases hlt : k < len
    · have hlt' : k < bs.length := by rw [HL.out]; exact hlt
      have hlti : (k : Int) < (len : Int) := by omega
      obtain ⟨b1, o1, rfl, _, c1⟩ := H1.out k hlt'
      obtain ⟨b2, o2, rfl, _, c2⟩ := H2.out k hlt'
      obtain ⟨c, hc⟩ : ∃ c, bs[k] = c := ⟨_, rfl⟩
      rw [hc] at c1 c2
      go_wp2
      go_quiet (fail)
      go_wp2
      go_roundw
      case rel => exact ⟨k + 1, _, by omega, by go_num, rfl⟩
      case measure => simp [intOf]; omega
    · go_wp2
      go_ret
      exact ⟨rfl, _, rfl⟩

theorem isrow_le {k : IntKind} {w : World} {a : Option Addr} {len cap : Nat} {zs : List Int} (h : IsRow k w a len cap zs) : len ≤ cap := by
  rcases h with ⟨_, rfl, rfl, _⟩ | ⟨_, _, hl, _⟩
  · exact Nat.le_refl _
  · exact hl

theorem one_long (a0 : Option Addr) (len0 cap0 n : Nat) (w : World) (h : 20 < len0) (h0 : len0 ≤ 9223372036854775807) :
    Calls Tryd.prog 4 #[.slice a0 len0 cap0, .int .u64 n] w fun e w' => e = .returned (.bool true) ∧ Below w.heap.size w w' := by
  go_enter Tryd.func4, Tryd.ntmps4
  go_wp2_with (go_at_call 6; refine (first_any _).mono ?_; rintro e w1 ⟨rfl, hb⟩)
  go_ret
  exact ⟨rfl, hb⟩

theorem last_set (n S1 c : Nat) (hS : WP.sz n = S1 + 1) : (vals (WP.enc n)).set S1 (.int .u8 (c : Int)) = vals ((WP.enc n).dropLast ++ [c]) := by
  have hl : (WP.enc n).length = S1 + 1 := hS
  have e : (WP.enc n) = (WP.enc n).dropLast ++ [(WP.enc n).getLast (WP.enc_ne n)] := (List.dropLast_concat_getLast (WP.enc_ne n)).symm
  have hd : (WP.enc n).dropLast.length = S1 := by simp [hl]
  conv => lhs; rw [e]
  rw [vals_append, vals_append, List.set_append_right _ _ (by rw [vals_length]; omega), vals_length, hd, Nat.sub_self]
  rfl

theorem own_stored {w : World} {B g n S1 c : Nat} (hS : WP.sz n = S1 + 1) (h : w.ownsRow B 5 1 (.slice (some ⟨g, 0, none⟩) (S1 + 1) (S1 + 1)) (S1 + 1) (vals (WP.enc n))) :
    (w.setCell ⟨g, S1, none⟩ (.int .u8 (c : Int))).ownsRow B 5 1 (.slice (some ⟨g, 0, none⟩) (S1 + 1) (S1 + 1)) (S1 + 1) (vals ((WP.enc n).dropLast ++ [c])) := by
  have := (h.stored S1 (.int .u8 (c : Int))).1
  rwa [last_set n S1 c hS] at this

theorem last_cell {w : World} {B g n S1 : Nat} (hS : WP.sz n = S1 + 1) (h : w.ownsRow B 5 1 (.slice (some ⟨g, 0, none⟩) (S1 + 1) (S1 + 1)) (S1 + 1) (vals (WP.enc n))) :
    w.cell? ⟨g, S1, none⟩ = some (.int .u8 ((WP.enc n).getLast (WP.enc_ne n) : Int)) := by
  have hl : (WP.enc n).length = S1 + 1 := hS
  rw [h.cellAt S1 (by omega), vals_at _ S1 (by omega), List.getLast_eq_getElem]
  simp [hl]

theorem or_top (l : Nat) (h : l < 128) : bits .or .u8 (l : Int) 128 = ((l + 128 : Nat) : Int) := by
  have : ∀ x : Fin 128, bits .or .u8 ((x.val : Nat) : Int) 128 = ((x.val + 128 : Nat) : Int) := by decide +kernel
  exact this ⟨l, h⟩

theorem one_cells (w : World) (H : Nat) (h : w.heap.size = H) : Cells (w.alloc (.cells #[.int .u8 0] 5 (0, 0))) (some ⟨H, 0, none⟩) [0] := by
  subst h
  exact cells_row (more := []) (heap_alloc_new w _)

set_option maxRecDepth 20000 in
set_option maxHeartbeats 2000000 in
theorem one_ok (a0 : Option Addr) (len0 cap0 n : Nat) (w : World) (bs : List Nat) (A : Nat → Addr)
    (l0 : bs.length = len0) (b0 : len0 ≤ 20) (hn : n < 18446744073709551616) (hc0 : Cells w a0 bs) (s0 : ∀ c ∈ bs, c < 256) (hcap : len0 ≤ cap0) (hE : Errs w A) (x k : Nat) (hR : WP.dec 0 0 (bs.drop 0) = .ok (x, k)) (hx : x < 18446744073709551616) (hk : WP.sz x = k) (ht : bs.take k = WP.enc x) (k1 : 1 ≤ k) (kl : k ≤ len0) :
    Calls Tryd.prog 4 #[.slice a0 len0 cap0, .int .u64 n] w fun e w' => e = .returned (.bool true) ∧ Below w.heap.size w w' := by
  obtain ⟨i0, hi, hz0, hz1, hz2⟩ := info_parts infoByte
  have HC0 : Hid (Cells w a0 bs) := hc0
  have HE : Hid (Errs w A) := hE
  have L0 : Hid (bs.length = len0) := l0
  have S0 : Hid (∀ c ∈ bs, c < 256) := s0
  have HR : Hid (WP.dec 0 0 (bs.drop 0) = .ok (x, k)) := hR
  have HT : Hid (bs.take k = WP.enc x) := ht
  have HK : Hid (WP.sz x = k) := hk
  have kk1 : (1 : Int) ≤ (k : Int) := by omega
  have kk2 : (k : Int) ≤ (len0 : Int) := by omega
  have kk3 : (k : Int) ≤ (cap0 : Int) := by omega
  have d1 : decide ((k : Int) < 1) = false := by simp; omega
  have d2 : decide (len0 < k) = false := by simp; omega
  obtain ⟨l, hl1, hl2, hl3⟩ := WP.dec_nought n 0 0 [] (by have := WP.sz_le10 hn; omega)
  have hor := or_top l hl2
  obtain ⟨c, hcl⟩ : ∃ c, l + 128 = c := ⟨_, rfl⟩
  rw [hcl] at hor
  have c256 : c < 256 := by omega
  obtain ⟨S1, hS⟩ : ∃ S1, WP.sz n = S1 + 1 := ⟨WP.sz n - 1, by have := WP.sz_pos n; omega⟩
  have s10 : S1 ≤ 9 := by have := WP.sz_le10 hn; omega
  have HS : Hid (WP.sz n = S1 + 1) := hS
  have HLast : Hid ((WP.enc n).getLast (WP.enc_ne n) = l) := hl1
  have HD : Hid (WP.dec 0 0 ((((WP.enc n).dropLast ++ [c]) ++ [0]).drop 0) = .error true) := by
    show _ = _
    rw [← hl3, ← hcl]
    simp
  have HLn : Hid ((((WP.enc n).dropLast ++ [c]) ++ [0]).length = S1 + 2) := by
    show _ = _
    have : (WP.enc n).length = S1 + 1 := hS
    simp [this]
  have H256 : Hid (∀ d ∈ ((WP.enc n).dropLast ++ [c]) ++ [0], d < 256) := by
    show ∀ d ∈ _, d < 256
    intro d hd
    simp only [List.mem_append, List.mem_singleton] at hd
    rcases hd with (hd | hd) | hd
    · exact WP.enc_lt256 n d ((List.dropLast_sublist _).subset hd)
    · omega
    · omega
  clear hl1 hl3 hcl hS
  clear hc0 hE l0 s0 hR ht hk
  go_enter Tryd.func4, Tryd.ntmps4
  go_wp2_with (first
    | (go_at_call 6; refine (first_any _).mono ?_; rintro e w1 ⟨rfl, hb1⟩)
    | (go_at_call 8; refine (get_num a0 cap0 bs len0 0 A _ L0.out (HC0.out.below hb1) S0.out (by omega) (by omega) (HE.out.below hb1) x k k HR.out (by omega)).mono ?_; rintro e w2 ⟨rfl, hb2⟩; have hb2' : Below w.heap.size w w2 := hb1.trans (hb2.mono hb1.size)))
  go_region_held3 (fun _ => True) (exact True.intro) (first
    | (go_at_call 7; refine (put_at none 0 [] 0 x k w2.drew rfl hx (cells_nil _ _) (by omega) (by rw [HK.out]; omega) w.heap.size hb2'.size).mono ?_; rintro e w3 ⟨g3, rfl, hg3, hrow3, hown3, hb3⟩; have hb3' : Below w2.heap.size w2 w3 := ⟨hb3.os, hb3.tape, hb3.output, hb3.size, hb3.block⟩)
    | (go_at_call 14; refine (same_bytes (some ⟨g3, 0, none⟩) a0 k cap0 k (WP.enc x) _ HK.out (by omega) (cells_own hown3.out) (by have := cells_take ((HC0.out.below hb2').below hb3') k; rw [HT.out] at this; exact this)).mono ?_; rintro e w4 ⟨rfl, m4, rfl⟩))
  obtain ⟨WX, hWX⟩ : ∃ WX, w3.drewN m4 = WX := ⟨_, rfl⟩
  have hbx : Below w.heap.size w WX := by rw [← hWX]; exact below_drewN (hb2'.trans (hb3'.mono hb2'.size)) _
  rw [hWX]
  go_wp2_with (first
    | (go_at_call 7; refine (put_at none 0 [] 0 n (S1 + 1) WX rfl hn (cells_nil _ _) (by omega) (by rw [HS.out]; omega) w.heap.size hbx.size).mono ?_; rintro e w5 ⟨g5, rfl, hg5, hrow5, hown5, hb5⟩; have hb5' : Below w.heap.size w w5 := hbx.trans (hb5.mono hbx.size); have cell5 := last_cell HS.out hown5.out; rw [HLast.out] at cell5; have fz5 := hown5.out.frozenAt S1)
    | (at_builtin; refine wpList_append_bytes _ rfl (.tmp 62) (.tmp 63) 22 rfl i0 Tryd.underlying22 hi hz0 hz1 hz2 w.heap.size w ((hb5'.setCell (Nat.le_trans hbx.size hg5) _).alloc (by simpa using hb5'.size) _) g5 (S1 + 1) (S1 + 1) ((WP.enc n).dropLast ++ [c]) rfl ((own_stored HS.out hown5.out).alloc _) (some ⟨w5.heap.size, 0, none⟩) 1 1 [0] rfl rfl (one_cells _ _ (by simp)) (by simp) (S1 + 2) (by omega) (by omega) (by have := hb5'.size; simp; omega) ?_; intro g6 cap6 w6 hg6 hcap6 hcap6' hown6 hb6 hsz6 hsz6')
    | (go_at_call 8; refine (get_err (some ⟨g6, 0, none⟩) cap6 (((WP.enc n).dropLast ++ [c]) ++ [0]) (S1 + 2) 0 A _ HLn.out (cells_own hown6.out) H256.out (by omega) (by omega) (HE.out.below hb6) true HD.out (A 1) rfl).mono ?_; rintro e w7 ⟨g7, rfl, hg7, hrow7, hb7⟩; have hb7' : Below w.heap.size w w7 := hb6.trans (hb7.mono hsz6))
    | (go_at_call 11; refine (placed_any _ _ _ (by decide)).mono ?_; rintro e w8 ⟨rfl, hb8⟩; have hb8' : Below w.heap.size w w8 := hb7'.trans (hb8.mono hb7'.size))
    | (go_at_call 10; refine (same_any A _ (HE.out.below hb8') 8 (by omega) (A 1) rfl g7 0 109 (by omega) (row_below hrow7 hb8).out).mono ?_; rintro e w9 ⟨rfl, hb9⟩))
  go_ret
  exact ⟨rfl, hb8'.trans (hb9.mono hb8'.size)⟩

set_option maxRecDepth 20000 in
set_option maxHeartbeats 2000000 in
theorem one_err (a0 : Option Addr) (len0 cap0 n : Nat) (w : World) (bs : List Nat) (A : Nat → Addr)
    (l0 : bs.length = len0) (b0 : len0 ≤ 20) (hn : n < 18446744073709551616) (hc0 : Cells w a0 bs) (s0 : ∀ c ∈ bs, c < 256) (hE : Errs w A) (b : Bool) (hR : WP.dec 0 0 (bs.drop 0) = .error b) :
    Calls Tryd.prog 4 #[.slice a0 len0 cap0, .int .u64 n] w fun e w' => e = .returned (.bool true) ∧ Below w.heap.size w w' := by
  obtain ⟨i0, hi, hz0, hz1, hz2⟩ := info_parts infoByte
  have HC0 : Hid (Cells w a0 bs) := hc0
  have HE : Hid (Errs w A) := hE
  have L0 : Hid (bs.length = len0) := l0
  have S0 : Hid (∀ c ∈ bs, c < 256) := s0
  have HR : Hid (WP.dec 0 0 (bs.drop 0) = .error b) := hR
  obtain ⟨a, ha⟩ : ∃ a, A (if b then 1 else 0) = a := ⟨_, rfl⟩
  have HA : Hid (A (if b then 1 else 0) = a) := ha
  obtain ⟨l, hl1, hl2, hl3⟩ := WP.dec_nought n 0 0 [] (by have := WP.sz_le10 hn; omega)
  have hor := or_top l hl2
  obtain ⟨c, hcl⟩ : ∃ c, l + 128 = c := ⟨_, rfl⟩
  rw [hcl] at hor
  have c256 : c < 256 := by omega
  obtain ⟨S1, hS⟩ : ∃ S1, WP.sz n = S1 + 1 := ⟨WP.sz n - 1, by have := WP.sz_pos n; omega⟩
  have s10 : S1 ≤ 9 := by have := WP.sz_le10 hn; omega
  have HS : Hid (WP.sz n = S1 + 1) := hS
  have HLast : Hid ((WP.enc n).getLast (WP.enc_ne n) = l) := hl1
  have HD : Hid (WP.dec 0 0 ((((WP.enc n).dropLast ++ [c]) ++ [0]).drop 0) = .error true) := by
    show _ = _
    rw [← hl3, ← hcl]
    simp
  have HLn : Hid ((((WP.enc n).dropLast ++ [c]) ++ [0]).length = S1 + 2) := by
    show _ = _
    have : (WP.enc n).length = S1 + 1 := hS
    simp [this]
  have H256 : Hid (∀ d ∈ ((WP.enc n).dropLast ++ [c]) ++ [0], d < 256) := by
    show ∀ d ∈ _, d < 256
    intro d hd
    simp only [List.mem_append, List.mem_singleton] at hd
    rcases hd with (hd | hd) | hd
    · exact WP.enc_lt256 n d ((List.dropLast_sublist _).subset hd)
    · omega
    · omega
  clear hl1 hl3 hcl hS
  clear hc0 hE l0 s0 hR ha
  go_enter Tryd.func4, Tryd.ntmps4
  go_wp2_with (first
    | (go_at_call 6; refine (first_any _).mono ?_; rintro e w1 ⟨rfl, hb1⟩)
    | (go_at_call 8; refine (get_err a0 cap0 bs len0 0 A _ L0.out (HC0.out.below hb1) S0.out (by omega) (by omega) (HE.out.below hb1) b HR.out a HA.out).mono ?_; rintro e w2 ⟨g2, rfl, hg2, hrow2, hb2⟩; have hb2' : Below w.heap.size w w2 := hb1.trans (hb2.mono hb1.size)))
  go_quiet (fail)
  obtain ⟨WX, hWX⟩ : ∃ WX, w2.drewN nq = WX := ⟨_, rfl⟩
  have hbx : Below w.heap.size w WX := by rw [← hWX]; exact below_drewN hb2' _
  rw [hWX]
  go_wp2_with (first
    | (go_at_call 7; refine (put_at none 0 [] 0 n (S1 + 1) WX rfl hn (cells_nil _ _) (by omega) (by rw [HS.out]; omega) w.heap.size hbx.size).mono ?_; rintro e w5 ⟨g5, rfl, hg5, hrow5, hown5, hb5⟩; have hb5' : Below w.heap.size w w5 := hbx.trans (hb5.mono hbx.size); have cell5 := last_cell HS.out hown5.out; rw [HLast.out] at cell5; have fz5 := hown5.out.frozenAt S1)
    | (at_builtin; refine wpList_append_bytes _ rfl (.tmp 62) (.tmp 63) 22 rfl i0 Tryd.underlying22 hi hz0 hz1 hz2 w.heap.size w ((hb5'.setCell (Nat.le_trans hbx.size hg5) _).alloc (by simpa using hb5'.size) _) g5 (S1 + 1) (S1 + 1) ((WP.enc n).dropLast ++ [c]) rfl ((own_stored HS.out hown5.out).alloc _) (some ⟨w5.heap.size, 0, none⟩) 1 1 [0] rfl rfl (one_cells _ _ (by simp)) (by simp) (S1 + 2) (by omega) (by omega) (by have := hb5'.size; simp; omega) ?_; intro g6 cap6 w6 hg6 hcap6 hcap6' hown6 hb6 hsz6 hsz6')
    | (go_at_call 8; refine (get_err (some ⟨g6, 0, none⟩) cap6 (((WP.enc n).dropLast ++ [c]) ++ [0]) (S1 + 2) 0 A _ HLn.out (cells_own hown6.out) H256.out (by omega) (by omega) (HE.out.below hb6) true HD.out (A 1) rfl).mono ?_; rintro e w7 ⟨g7, rfl, hg7, hrow7, hb7⟩; have hb7' : Below w.heap.size w w7 := hb6.trans (hb7.mono hsz6))
    | (go_at_call 11; refine (placed_any _ _ _ (by decide)).mono ?_; rintro e w8 ⟨rfl, hb8⟩; have hb8' : Below w.heap.size w w8 := hb7'.trans (hb8.mono hb7'.size))
    | (go_at_call 10; refine (same_any A _ (HE.out.below hb8') 8 (by omega) (A 1) rfl g7 0 109 (by omega) (row_below hrow7 hb8).out).mono ?_; rintro e w9 ⟨rfl, hb9⟩))
  go_ret
  exact ⟨rfl, hb8'.trans (hb9.mono hb8'.size)⟩

end Go.Proofs.YtgiicchblbhenaaDoor

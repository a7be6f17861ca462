/-
  The road of the statement WordErrors, walked over the program.
-/
import Derived.Test.YtdfbhdnklefbaaaDoorWordSplit
import Derived.Test.YtdfbhdnklefbaaaDoorWordSee
namespace Go.Proofs.YtdfbhdnklefbaaaDoor
open Go.RowKit

theorem split_ok (s : ByteArray) (ea : Addr) (w : World) (hs : s.size ≤ 60000) (hE : ErrT w ea) (ws : List WP.W) (h : WP.split s.data.toList = .ok ws) :
    Calls Tryd.prog 9 #[.string s] w fun e w' => ∃ ad cap, e = .returned (.tuple #[.slice ad ws.length cap, .nilIface]) ∧ Own w' w.heap.size 44 3 wcells ad cap ws ∧ Below w.heap.size w w' := by
  refine (split_any s ea w hs hE).mono ?_
  rintro e w' ⟨hb, h2⟩
  rw [h] at h2
  obtain ⟨ad, cap, h3, h4⟩ := h2
  exact ⟨ad, cap, h3, h4, hb⟩

theorem split_bad (s : ByteArray) (ea : Addr) (w : World) (hs : s.size ≤ 60000) (hE : ErrT w ea) (n : Nat) (h : WP.split s.data.toList = .error n) :
    Calls Tryd.prog 9 #[.string s] w fun e w' => ∃ g, e = .returned (.tuple #[.slice none 0 0, .iface 54 (.pointer (some ⟨g, 0, none⟩))]) ∧ w'.heap[g]? = some (.cells #[.int .i64 (n : Nat), .iface 107 (.pointer (some ea))] 56 (0, 0)) ∧ Below w.heap.size w w' := by
  refine (split_any s ea w hs hE).mono ?_
  rintro e w' ⟨hb, h2⟩
  rw [h] at h2
  obtain ⟨g, -, h3, h4⟩ := h2
  exact ⟨g, h3, h4, hb⟩

theorem own_w {w : World} {B : Nat} {ad : Option Addr} {cap : Nat} {ws : List WP.W} (h : Own w B 44 3 wcells ad cap ws) (hne : ws ≠ []) :
    ∃ g, ad = some ⟨g, 0, none⟩ ∧ g < w.heap.size ∧ ∀ (k : Nat) (hk : k < ws.length), w.cell? ⟨g, k * 3, none⟩ = some (.int .i64 (ws[k].1 : Nat)) ∧ w.cell? ⟨g, k * 3 + 1, none⟩ = some (.int .i64 (ws[k].2.1 : Nat)) ∧ w.cell? ⟨g, k * 3 + 2, none⟩ = some (.string ⟨ws[k].2.2.toArray⟩) := by
  have h0 : 0 < ws.length := List.length_pos_iff.2 hne
  rcases h.2 with ⟨_, h2⟩ | ⟨g, c, cur, h1, -, h3, -⟩
  · omega
  · have e : ad = some ⟨g, 0, none⟩ := by cases h1; rfl
    refine ⟨g, e, (Array.getElem?_eq_some_iff.1 h3).1, fun k hk => ?_⟩
    have key : ∀ j u, (wcells ws[k])[j]? = some u → w.cell? ⟨g, k * 3 + j, none⟩ = some u := fun j u hj => by
      have hj3 : j < 3 := by
        rcases Nat.lt_or_ge j 3 with h | h
        · exact h
        · rw [List.getElem?_eq_none (by rw [w_len]; exact h)] at hj; cases hj
      have := World.ownsRow.cells h (g := g) (by rw [h1]; rfl) (k * 3 + j) u (by rw [flat_at wcells 3 w_len ws k hk j hj3]; exact hj)
      rw [Addr.add_lit] at this
      simpa using this
    exact ⟨key 0 _ rfl, key 1 _ rfl, key 2 _ rfl⟩

namespace WP
def errAt (n : Nat) : Except Nat (List W) → Bool
  | .error m => decide (m = n)
  | .ok _ => false
theorem errAt_eq {n : Nat} {r : Except Nat (List W)} (h : errAt n r = true) : r = .error n := by
  cases r with
  | error m => simp [errAt] at h; rw [h]
  | ok _ => simp [errAt] at h
end WP

theorem cat_any (a b : List UInt8) : (⟨a.toArray⟩ : ByteArray) ++ ⟨b.toArray⟩ = ⟨(a ++ b).toArray⟩ := by
  apply ByteArray.ext
  rw [ByteArray.data_append]
  simp

theorem s_a1 : WP.split [97, 49] = .ok [(1, 0, [97, 49])] := by kernel_rfl
theorem n_a1 : WP.isName [97, 95, 49] = true := by decide +kernel
theorem n_path : WP.isName [112, 97, 116, 104] = false := by decide +kernel

set_option maxRecDepth 20000 in
set_option maxHeartbeats 1000000 in
theorem first8_any (ea : Addr) (w : World) (hE : ErrT w ea) :
    Calls Tryd.prog 7 #[] w fun e w' => e = .returned (.bool true) ∧ Below w.heap.size w w' := by
  have k1 := hid'' (split_ok ⟨#[97, 49]⟩ ea w (by decide) hE _ s_a1)
  have k2 : Hid (∀ W, Calls Tryd.prog 13 #[.string ⟨#[97, 95, 49]⟩] W fun e w' => e = .returned (.bool true) ∧ w' = W) := fun W => by
    have h := isName_any ⟨#[97, 95, 49]⟩ W (by decide)
    rw [n_a1] at h
    exact h
  have k3 : Hid (∀ W, Calls Tryd.prog 13 #[.string ⟨#[112, 97, 116, 104]⟩] W fun e w' => e = .returned (.bool false) ∧ w' = W) := fun W => by
    have h := isName_any ⟨#[112, 97, 116, 104]⟩ W (by decide)
    rw [n_path] at h
    exact h
  clear hE
  go_enter Tryd.func7, Tryd.ntmps7
  go_wp2_with (first
    | (go_at_call 9; refine k1.out.mono ?_; rintro e w1 ⟨ad, cap, rfl, hown, hb1⟩
       obtain ⟨g, rfl, hg, hcs⟩ := own_w hown (by simp)
       have c0 : w1.cell? ⟨g, 0, none⟩ = some (.int .i64 1) := (hcs 0 (by simp)).1
       have HB1 := hid'' hb1
       clear hcs hown hb1)
    | (have v1 := u1; go_at_call 13; refine (k3.out _).mono ?_; rintro e w2 ⟨rfl, rfl⟩)
    | (go_at_call 13; refine (k2.out _).mono ?_; rintro e w2 ⟨rfl, rfl⟩; have u1 : True := trivial))
  go_ret
  exact ⟨rfl, HB1.out⟩

def etexts : List (List UInt8) := [[49, 50, 51, 52, 53, 54, 55], [49, 46], [49, 46, 49, 50, 51, 52, 53, 54, 55], [45], [45, 32, 49], [35, 49, 50, 51, 52, 53], [35, 49, 50, 51, 52, 53, 54, 55], [35, 49, 50, 51, 52, 53, 54, 55, 56, 57], [35, 49, 50, 51, 52, 53, 103], [49, 50, 97], [49, 46, 53, 46], [35, 102, 102, 102, 102, 102, 102, 35], [77, 77], [77, 49], [68], [36], [47], [49, 50, 35, 102, 102, 102, 102, 102, 102], [97, 98, 99, 100, 101, 102, 103, 104, 105, 106, 107, 108, 109, 110, 111, 112, 113, 114, 115, 116, 117, 118, 119, 120, 121], [49, 65], [35, 97, 98, 99, 100, 101, 102, 90]]
def ahead : Nat → List UInt8
  | 0 => []
  | n + 1 => ahead n ++ [97, 32]

theorem err_all (K n : Nat) (hK : K < 21) (hn : n < 5) : WP.split (ahead n ++ etexts.getD K [] ++ [32, 98]) = .error (2 * n) := by
  have : ∀ (i : Fin 21) (j : Fin 5), WP.errAt (2 * j.val) (WP.split (ahead j.val ++ etexts.getD i.val [] ++ [32, 98])) = true := by decide +kernel
  exact WP.errAt_eq (this ⟨K, hK⟩ ⟨n, hn⟩)
theorem err_len (K n : Nat) (hK : K < 21) (hn : n < 5) : (ahead n ++ etexts.getD K [] ++ [32, 98]).length ≤ 60000 := by
  have : ∀ (i : Fin 21) (j : Fin 5), (ahead j.val ++ etexts.getD i.val [] ++ [32, 98]).length ≤ 60000 := by decide +kernel
  exact this ⟨K, hK⟩ ⟨n, hn⟩
theorem s_row : WP.split [49, 59, 50, 123, 120, 45, 49, 61, 35, 97, 98, 99, 100, 101, 102, 125, 77, 45, 49] = .ok [(3, 0, [49]), (5, 1, [59]), (3, 2, [50]), (5, 3, [123]), (1, 4, [120]), (3, 5, [45, 49]), (5, 7, [61]), (4, 8, [35, 97, 98, 99, 100, 101, 102]), (5, 15, [125]), (6, 16, [77]), (3, 17, [45, 49])] := by kernel_rfl

theorem etext_cell (w : World) (K : Nat) (h : K < 21) : (w.alloc (.cells #[.string ⟨#[49, 50, 51, 52, 53, 54, 55]⟩, .string ⟨#[49, 46]⟩, .string ⟨#[49, 46, 49, 50, 51, 52, 53, 54, 55]⟩, .string ⟨#[45]⟩, .string ⟨#[45, 32, 49]⟩, .string ⟨#[35, 49, 50, 51, 52, 53]⟩, .string ⟨#[35, 49, 50, 51, 52, 53, 54, 55]⟩, .string ⟨#[35, 49, 50, 51, 52, 53, 54, 55, 56, 57]⟩, .string ⟨#[35, 49, 50, 51, 52, 53, 103]⟩, .string ⟨#[49, 50, 97]⟩, .string ⟨#[49, 46, 53, 46]⟩, .string ⟨#[35, 102, 102, 102, 102, 102, 102, 35]⟩, .string ⟨#[77, 77]⟩, .string ⟨#[77, 49]⟩, .string ⟨#[68]⟩, .string ⟨#[36]⟩, .string ⟨#[47]⟩, .string ⟨#[49, 50, 35, 102, 102, 102, 102, 102, 102]⟩, .string ⟨#[97, 98, 99, 100, 101, 102, 103, 104, 105, 106, 107, 108, 109, 110, 111, 112, 113, 114, 115, 116, 117, 118, 119, 120, 121]⟩, .string ⟨#[49, 65]⟩, .string ⟨#[35, 97, 98, 99, 100, 101, 102, 90]⟩] 9)).cell? ⟨w.heap.size, K, none⟩ = some (.string ⟨(etexts.getD K []).toArray⟩) := by
  rw [World.cell?_alloc_mark]
  have : K = 0 ∨ K = 1 ∨ K = 2 ∨ K = 3 ∨ K = 4 ∨ K = 5 ∨ K = 6 ∨ K = 7 ∨ K = 8 ∨ K = 9 ∨ K = 10 ∨ K = 11 ∨ K = 12 ∨ K = 13 ∨ K = 14 ∨ K = 15 ∨ K = 16 ∨ K = 17 ∨ K = 18 ∨ K = 19 ∨ K = 20 := by omega
  rcases this with rfl | rfl | rfl | rfl | rfl | rfl | rfl | rfl | rfl | rfl | rfl | rfl | rfl | rfl | rfl | rfl | rfl | rfl | rfl | rfl | rfl <;> rfl

set_option maxRecDepth 20000 in
set_option maxHeartbeats 1000000 in
theorem werr_at (A : Nat → Addr) (which aheadI : Int) (w : World) (hE : Errs13 w A) (t : Int) (ht : which.tmod 21 = t) (h0 : -20 ≤ t) (h1 : t ≤ 20) (K : Nat) (hK : (t + 21).tmod 21 = K) (hK21 : K < 21)
    (u : Int) (hu : aheadI.tmod 5 = u) (g0 : -4 ≤ u) (g1 : u ≤ 4) (n : Nat) (hn : (u + 5).tmod 5 = n) (hn5 : n < 5) :
    Calls Tryd.prog 5 #[.int .i64 which, .int .i64 aheadI] w fun e w' => e = .returned (.bool true) ∧ Below w.heap.size w w' := by
  have HE := hid'' hE
  have HT : Hid (ErrT w (A 1)) := ⟨(hE 1 (by omega)).1, (hE 1 (by omega)).2.1⟩
  clear hE
  have HC := hid'' (fun W => etext_cell W K hK21)
  have HX := hid'' (err_all K n hK21 hn5)
  have HL := hid'' (err_len K n hK21 hn5)
  have hTz : (etexts.getD K []).length ≤ 25 := by
    have : ∀ i : Fin 21, (etexts.getD i.val []).length ≤ 25 := by decide +kernel
    exact this ⟨K, hK21⟩
  obtain ⟨T, hT⟩ : ∃ T, etexts.getD K [] = T := ⟨_, rfl⟩
  rw [hT] at HX HL HC hTz
  clear hT
  rw [← size_mk] at hTz
  obtain ⟨Tb, hTb⟩ : ∃ Tb : ByteArray, ⟨T.toArray⟩ = Tb := ⟨_, rfl⟩
  rw [hTb] at HC hTz
  have HTb := hid'' hTb
  clear hTb
  have hKi : (K : Int) < 21 := by omega
  go_enter Tryd.func5, Tryd.ntmps5
  go_wp2_with (go_at_call 7; refine (first8_any _ w HT.out).mono ?_; rintro e w1 ⟨rfl, hb1⟩; have cx := HC.out w1; have HB1 : Hid (Below w.heap.size w (w1.alloc (.cells #[.string ⟨#[49, 50, 51, 52, 53, 54, 55]⟩, .string ⟨#[49, 46]⟩, .string ⟨#[49, 46, 49, 50, 51, 52, 53, 54, 55]⟩, .string ⟨#[45]⟩, .string ⟨#[45, 32, 49]⟩, .string ⟨#[35, 49, 50, 51, 52, 53]⟩, .string ⟨#[35, 49, 50, 51, 52, 53, 54, 55]⟩, .string ⟨#[35, 49, 50, 51, 52, 53, 54, 55, 56, 57]⟩, .string ⟨#[35, 49, 50, 51, 52, 53, 103]⟩, .string ⟨#[49, 50, 97]⟩, .string ⟨#[49, 46, 53, 46]⟩, .string ⟨#[35, 102, 102, 102, 102, 102, 102, 35]⟩, .string ⟨#[77, 77]⟩, .string ⟨#[77, 49]⟩, .string ⟨#[68]⟩, .string ⟨#[36]⟩, .string ⟨#[47]⟩, .string ⟨#[49, 50, 35, 102, 102, 102, 102, 102, 102]⟩, .string ⟨#[97, 98, 99, 100, 101, 102, 103, 104, 105, 106, 107, 108, 109, 110, 111, 112, 113, 114, 115, 116, 117, 118, 119, 120, 121]⟩, .string ⟨#[49, 65]⟩, .string ⟨#[35, 97, 98, 99, 100, 101, 102, 90]⟩] 9))) := hb1.alloc hb1.size _; clear hb1)
  obtain ⟨g, hg⟩ : ∃ g, w1.heap.size = g := ⟨_, rfl⟩
  have hz : (w1.alloc (.cells #[.string ⟨#[49, 50, 51, 52, 53, 54, 55]⟩, .string ⟨#[49, 46]⟩, .string ⟨#[49, 46, 49, 50, 51, 52, 53, 54, 55]⟩, .string ⟨#[45]⟩, .string ⟨#[45, 32, 49]⟩, .string ⟨#[35, 49, 50, 51, 52, 53]⟩, .string ⟨#[35, 49, 50, 51, 52, 53, 54, 55]⟩, .string ⟨#[35, 49, 50, 51, 52, 53, 54, 55, 56, 57]⟩, .string ⟨#[35, 49, 50, 51, 52, 53, 103]⟩, .string ⟨#[49, 50, 97]⟩, .string ⟨#[49, 46, 53, 46]⟩, .string ⟨#[35, 102, 102, 102, 102, 102, 102, 35]⟩, .string ⟨#[77, 77]⟩, .string ⟨#[77, 49]⟩, .string ⟨#[68]⟩, .string ⟨#[36]⟩, .string ⟨#[47]⟩, .string ⟨#[49, 50, 35, 102, 102, 102, 102, 102, 102]⟩, .string ⟨#[97, 98, 99, 100, 101, 102, 103, 104, 105, 106, 107, 108, 109, 110, 111, 112, 113, 114, 115, 116, 117, 118, 119, 120, 121]⟩, .string ⟨#[49, 65]⟩, .string ⟨#[35, 97, 98, 99, 100, 101, 102, 90]⟩] 9)).heap.size = g + 1 := by rw [size_alloc, hg]
  rw [hg] at cx ⊢
  generalize (w1.alloc (.cells #[.string ⟨#[49, 50, 51, 52, 53, 54, 55]⟩, .string ⟨#[49, 46]⟩, .string ⟨#[49, 46, 49, 50, 51, 52, 53, 54, 55]⟩, .string ⟨#[45]⟩, .string ⟨#[45, 32, 49]⟩, .string ⟨#[35, 49, 50, 51, 52, 53]⟩, .string ⟨#[35, 49, 50, 51, 52, 53, 54, 55]⟩, .string ⟨#[35, 49, 50, 51, 52, 53, 54, 55, 56, 57]⟩, .string ⟨#[35, 49, 50, 51, 52, 53, 103]⟩, .string ⟨#[49, 50, 97]⟩, .string ⟨#[49, 46, 53, 46]⟩, .string ⟨#[35, 102, 102, 102, 102, 102, 102, 35]⟩, .string ⟨#[77, 77]⟩, .string ⟨#[77, 49]⟩, .string ⟨#[68]⟩, .string ⟨#[36]⟩, .string ⟨#[47]⟩, .string ⟨#[49, 50, 35, 102, 102, 102, 102, 102, 102]⟩, .string ⟨#[97, 98, 99, 100, 101, 102, 103, 104, 105, 106, 107, 108, 109, 110, 111, 112, 113, 114, 115, 116, 117, 118, 119, 120, 121]⟩, .string ⟨#[49, 65]⟩, .string ⟨#[35, 97, 98, 99, 100, 101, 102, 90]⟩] 9)) = W at cx HB1 hz ⊢
  clear hg HC
  rename World => W
  go_loop [9, 10] (fun v i => ∃ (j : Nat) (S : ByteArray), j ≤ n ∧ v = .string S ∧ i = .int .i64 j ∧ Hid (S = ⟨(ahead j).toArray⟩) ∧ S.size = 2 * j) (fun _ i => n - (intOf i).toNat)
  case atStart => exact ⟨0, _, Nat.zero_le _, rfl, rfl, rfl, rfl⟩
  case round =>
    obtain ⟨j, S, hj, rfl, rfl, HS, hSz⟩ := hrel
    by_cases hjn : j < n
    · go_wp2
      go_round
      case rel => exact ⟨j + 1, _, by omega, rfl, by go_num, by rw [HS.out]; exact cat_any _ _, by rw [ByteArray.size_append, hSz]; show 2 * j + 2 = _; omega⟩
      case measure => simp [intOf]; omega
    · obtain rfl : j = n := by omega
      have k1 : Hid (Calls Tryd.prog 9 #[.string (S ++ Tb ++ ⟨#[32, 98]⟩)] W fun e w' => ∃ g, e = .returned (.tuple #[.slice none 0 0, .iface 54 (.pointer (some ⟨g, 0, none⟩))]) ∧ w'.heap[g]? = some (.cells #[.int .i64 (2 * (j : Int)), .iface 107 (.pointer (some (A 1)))] 56 (0, 0)) ∧ Below W.heap.size W w') := by
        have e1 : S ++ Tb ++ ⟨#[32, 98]⟩ = ⟨(ahead j ++ T ++ [32, 98]).toArray⟩ := by
          rw [HS.out, ← HTb.out, cat_any]; exact cat_any _ [32, 98]
        rw [e1]
        have h := split_bad ⟨(ahead j ++ T ++ [32, 98]).toArray⟩ (A 1) W (by rw [size_mk]; exact HL.out) (HT.out.below HB1.out) (2 * j) (by rw [mk_data]; exact HX.out)
        exact h
      have hjn' : ¬ ((j : Int) < (j : Int)) := by omega
      clear hjn hn HX HL
      go_wp2_with (first
        | (have v1 := u1; go_at_call 9; refine (split_ok ⟨#[49, 59, 50, 123, 120, 45, 49, 61, 35, 97, 98, 99, 100, 101, 102, 125, 77, 45, 49]⟩ (A 1) w2 (by decide) (HT.out.below HB2.out) _ s_row).mono ?_; rintro e w3 ⟨ad, cap, rfl, -, hb3⟩
           have HB3 : Hid (Below w.heap.size w w3) := chain HB2.out hb3
           have HG3 : Hid (w3.heap[g2]? = some (.cells #[.int .i64 (2 * (j : Int)), .iface 107 (.pointer (some (A 1)))] 56 (0, 0))) := (hb3.block g2 (Array.getElem?_eq_some_iff.1 HG2.out).1).trans HG2.out
           clear hb3)
        | (go_at_call 9; refine k1.out.mono ?_; rintro e w2 ⟨g2, rfl, hg2, hb2⟩
           have HB2 : Hid (Below w.heap.size w w2) := chain HB1.out hb2
           have HG2 := hid'' hg2
           clear hb2 hg2 cx
           have u1 : True := trivial)
        | (go_at_call 15; refine (placed_any 101 (2 * (j : Int)) w3 (by decide)).mono ?_; rintro e w4 ⟨rfl, hb4⟩
           have HB4 : Hid (Below w.heap.size w w4) := chain HB3.out hb4
           have HG4 : Hid (w4.heap[g2]? = some (.cells #[.int .i64 (2 * (j : Int)), .iface 107 (.pointer (some (A 1)))] 56 (0, 0))) := (hb4.block g2 (Array.getElem?_eq_some_iff.1 HG3.out).1).trans HG3.out
           clear hb4)
        | (go_at_call 12; refine (same_at A w4 (HE.out.below HB4.out) 0 (by decide) (A 1) rfl g2 (2 * (j : Int)) 101 rfl HG4.out).mono ?_; rintro e w5 ⟨rfl, hb5⟩
           have HB5 : Hid (Below w.heap.size w w5) := chain HB4.out hb5
           clear hb5))
      go_ret
      exact ⟨rfl, HB5.out⟩

end Go.Proofs.YtdfbhdnklefbaaaDoor

/-
  The road of the statement WordErrors, walked over the program.
-/
import Derived.Test.YtbniikaebkmbhaaDoorWordSplit
import Derived.Test.YtbniikaebkmbhaaDoorErrsSee
namespace Go.Proofs.YtbniikaebkmbhaaDoor
open Go.RowKit

theorem split_ok (s : ByteArray) (ea : Addr) (w : World) (hs : s.size ≤ 60000) (hE : ErrT w ea) (ws : List WP.W) (h : WP.split s.data.toList = .ok ws) :
    Calls Tryd.prog 6 #[.string s] w fun e w' => ∃ ad cap, e = .returned (.tuple #[.slice ad ws.length cap, .nilIface]) ∧ Own w' w.heap.size 44 3 wcells ad cap ws ∧ Below w.heap.size w w' := by
  refine (split_any s ea w hs hE).mono ?_
  rintro e w' ⟨hb, h2⟩
  rw [h] at h2
  obtain ⟨ad, cap, h3, h4⟩ := h2
  exact ⟨ad, cap, h3, h4, hb⟩

theorem split_bad (s : ByteArray) (ea : Addr) (w : World) (hs : s.size ≤ 60000) (hE : ErrT w ea) (n : Nat) (h : WP.split s.data.toList = .error n) :
    Calls Tryd.prog 6 #[.string s] w fun e w' => ∃ g, e = .returned (.tuple #[.slice none 0 0, .iface 49 (.pointer (some ⟨g, 0, none⟩))]) ∧ w'.heap[g]? = some (.cells #[.int .i64 (n : Nat), .iface 105 (.pointer (some ea))] 51 (0, 0)) ∧ Below w.heap.size w w' := by
  refine (split_any s ea w hs hE).mono ?_
  rintro e w' ⟨hb, h2⟩
  rw [h] at h2
  obtain ⟨g, -, h3, h4⟩ := h2
  exact ⟨g, h3, h4, hb⟩

theorem own_w {w : World} {B : Nat} {ad : Option Addr} {cap : Nat} {ws : List WP.W} (h : Own w B 44 3 wcells ad cap ws) (hne : ws ≠ []) :
    ∃ g, ad = some ⟨g, 0, none⟩ ∧ g < w.heap.size ∧ ∀ (k : Nat) (hk : k < ws.length), w.cell? ⟨g, k * 3, none⟩ = some (.int .i64 (ws[k].1 : Nat)) ∧ w.cell? ⟨g, k * 3 + 1, none⟩ = some (.int .i64 (ws[k].2.1 : Nat)) ∧ w.cell? ⟨g, k * 3 + 2, none⟩ = some (.string ⟨ws[k].2.2.toArray⟩) := by
  have h0 : 0 < ws.length := List.length_pos_iff.2 hne
  rcases h.2 with ⟨_, h2⟩ | ⟨g, c, cur, h1, -, h3, -⟩
  · omega
  · have e : ad = some ⟨g, 0, none⟩ := by cases h1; rfl
    refine ⟨g, e, (Array.getElem?_eq_some_iff.1 h3).1, fun k hk => ?_⟩
    have key : ∀ j u, (wcells ws[k])[j]? = some u → w.cell? ⟨g, k * 3 + j, none⟩ = some u := fun j u hj => by
      have hj3 : j < 3 := by
        rcases Nat.lt_or_ge j 3 with h | h
        · exact h
        · rw [List.getElem?_eq_none (by rw [w_len]; exact h)] at hj; cases hj
      have := World.ownsRow.cells h (g := g) (by rw [h1]; rfl) (k * 3 + j) u (by rw [flat_at wcells 3 w_len ws k hk j hj3]; exact hj)
      rw [Addr.add_lit] at this
      simpa using this
    exact ⟨key 0 _ rfl, key 1 _ rfl, key 2 _ rfl⟩

namespace WP
def errAt (n : Nat) : Except Nat (List W) → Bool
  | .error m => decide (m = n)
  | .ok _ => false
theorem errAt_eq {n : Nat} {r : Except Nat (List W)} (h : errAt n r = true) : r = .error n := by
  cases r with
  | error m => simp [errAt] at h; rw [h]
  | ok _ => simp [errAt] at h
end WP

theorem cat_any (a b : List UInt8) : (⟨a.toArray⟩ : ByteArray) ++ ⟨b.toArray⟩ = ⟨(a ++ b).toArray⟩ := by
  apply ByteArray.ext
  rw [ByteArray.data_append]
  simp

theorem s_a1 : WP.split [97, 49] = .ok [(1, 0, [97, 49])] := by kernel_rfl
theorem n_a1 : WP.isName [97, 95, 49] = true := by decide +kernel
theorem n_path : WP.isName [112, 97, 116, 104] = false := by decide +kernel

set_option maxRecDepth 20000 in
set_option maxHeartbeats 1000000 in
theorem first8_any (ea : Addr) (w : World) (hE : ErrT w ea) :
    Calls Tryd.prog 4 #[] w fun e w' => e = .returned (.bool true) ∧ Below w.heap.size w w' := by
  have k1 := hid'' (split_ok ⟨#[97, 49]⟩ ea w (by decide) hE _ s_a1)
  have k2 : Hid (∀ W, Calls Tryd.prog 10 #[.string ⟨#[97, 95, 49]⟩] W fun e w' => e = .returned (.bool true) ∧ w' = W) := fun W => by
    have h := isName_any ⟨#[97, 95, 49]⟩ W (by decide)
    rw [n_a1] at h
    exact h
  have k3 : Hid (∀ W, Calls Tryd.prog 10 #[.string ⟨#[112, 97, 116, 104]⟩] W fun e w' => e = .returned (.bool false) ∧ w' = W) := fun W => by
    have h := isName_any ⟨#[112, 97, 116, 104]⟩ W (by decide)
    rw [n_path] at h
    exact h
  clear hE
  go_enter Tryd.func4, Tryd.ntmps4
  go_wp2_with (first
    | (go_at_call 6; refine k1.out.mono ?_; rintro e w1 ⟨ad, cap, rfl, hown, hb1⟩
       obtain ⟨g, rfl, hg, hcs⟩ := own_w hown (by simp)
       have c0 : w1.cell? ⟨g, 0, none⟩ = some (.int .i64 1) := (hcs 0 (by simp)).1
       have HB1 := hid'' hb1
       clear hcs hown hb1)
    | (have v1 := u1; go_at_call 10; refine (k3.out _).mono ?_; rintro e w2 ⟨rfl, rfl⟩)
    | (go_at_call 10; refine (k2.out _).mono ?_; rintro e w2 ⟨rfl, rfl⟩; have u1 : True := trivial))
  go_ret
  exact ⟨rfl, HB1.out⟩

end Go.Proofs.YtbniikaebkmbhaaDoor

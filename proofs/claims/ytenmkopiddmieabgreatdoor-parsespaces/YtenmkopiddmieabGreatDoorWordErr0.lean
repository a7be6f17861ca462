/-
  The words of a text, in hand: what Split gives, read word by word.
-/
import Derived.Test.YtenmkopiddmieabGreatDoorWordSplit
import Derived.Test.YtenmkopiddmieabGreatDoorJA
namespace Go.Proofs.YtenmkopiddmieabGreatDoor
open Go.RowKit

theorem split_ok (s : ByteArray) (ea : Addr) (w : World) (hs : s.size ≤ 60000) (hE : ErrT w ea) (ws : List WP.W) (h : WP.split s.data.toList = .ok ws) :
    Calls Tryz.prog 14 #[.string s] w fun e w' => ∃ ad cap, e = .returned (.tuple #[.slice ad ws.length cap, .nilIface]) ∧ Own w' w.heap.size 83 3 wcells ad cap ws ∧ Below w.heap.size w w' := by
  refine (split_any s ea w hs hE).mono ?_
  rintro e w' ⟨hb, h2⟩
  rw [h] at h2
  obtain ⟨ad, cap, h3, h4⟩ := h2
  exact ⟨ad, cap, h3, h4, hb⟩

theorem split_bad (s : ByteArray) (ea : Addr) (w : World) (hs : s.size ≤ 60000) (hE : ErrT w ea) (n : Nat) (h : WP.split s.data.toList = .error n) :
    Calls Tryz.prog 14 #[.string s] w fun e w' => ∃ g, e = .returned (.tuple #[.slice none 0 0, .iface 75 (.pointer (some ⟨g, 0, none⟩))]) ∧ w'.heap[g]? = some (.cells #[.int .i64 (n : Nat), .iface 167 (.pointer (some ea))] 77 (0, 0)) ∧ Below w.heap.size w w' := by
  refine (split_any s ea w hs hE).mono ?_
  rintro e w' ⟨hb, h2⟩
  rw [h] at h2
  obtain ⟨g, -, h3, h4⟩ := h2
  exact ⟨g, h3, h4, hb⟩

theorem own_w {w : World} {B : Nat} {ad : Option Addr} {cap : Nat} {ws : List WP.W} (h : Own w B 83 3 wcells ad cap ws) (hne : ws ≠ []) :
    ∃ g, ad = some ⟨g, 0, none⟩ ∧ g < w.heap.size ∧ ∀ (k : Nat) (hk : k < ws.length), w.cell? ⟨g, k * 3, none⟩ = some (.int .i64 (ws[k].1 : Nat)) ∧ w.cell? ⟨g, k * 3 + 1, none⟩ = some (.int .i64 (ws[k].2.1 : Nat)) ∧ w.cell? ⟨g, k * 3 + 2, none⟩ = some (.string ⟨ws[k].2.2.toArray⟩) := by
  have h0 : 0 < ws.length := List.length_pos_iff.2 hne
  rcases h.2 with ⟨_, h2⟩ | ⟨g, c, cur, h1, -, h3, -⟩
  · omega
  · have e : ad = some ⟨g, 0, none⟩ := by cases h1; rfl
    refine ⟨g, e, (Array.getElem?_eq_some_iff.1 h3).1, fun k hk => ?_⟩
    have key : ∀ j u, (wcells ws[k])[j]? = some u → w.cell? ⟨g, k * 3 + j, none⟩ = some u := fun j u hj => by
      have hj3 : j < 3 := by
        rcases Nat.lt_or_ge j 3 with h | h
        · exact h
        · rw [List.getElem?_eq_none (by rw [w_len]; exact h)] at hj; cases hj
      have := World.ownsRow.cells h (g := g) (by rw [h1]; rfl) (k * 3 + j) u (by rw [flat_at wcells 3 w_len ws k hk j hj3]; exact hj)
      rw [Addr.add_lit] at this
      simpa using this
    exact ⟨key 0 _ rfl, key 1 _ rfl, key 2 _ rfl⟩

namespace WP
def errAt (n : Nat) : Except Nat (List W) → Bool
  | .error m => decide (m = n)
  | .ok _ => false
theorem errAt_eq {n : Nat} {r : Except Nat (List W)} (h : errAt n r = true) : r = .error n := by
  cases r with
  | error m => simp [errAt] at h; rw [h]
  | ok _ => simp [errAt] at h
end WP

theorem cat_any (a b : List UInt8) : (⟨a.toArray⟩ : ByteArray) ++ ⟨b.toArray⟩ = ⟨(a ++ b).toArray⟩ := by
  apply ByteArray.ext
  rw [ByteArray.data_append]
  simp

end Go.Proofs.YtenmkopiddmieabGreatDoor

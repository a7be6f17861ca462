/-
  What Parse of package color answers, walked over the program: the parts that the text tells, or the program's own error.
-/
import Derived.Test.YtlgcbjipfolmbaaDoorColorShow
namespace Go.Proofs.YtlgcbjipfolmbaaDoor
open Go.RowKit

theorem digit_any (c : Nat) (w : World) (hc : c < 256) : Calls Tryd.prog 15 #[.int .u8 c] w fun e w' => e = .returned (.int .i64 (CP.dig c)) ∧ w' = w := by
  by_cases h1 : 48 ≤ c ∧ c ≤ 57
  · have HD : Hid (CP.dig c = (c : Int) - 48) := if_pos h1
    have h2 := h1.1
    have h3 := h1.2
    go_enter Tryd.func15, Tryd.ntmps15
    go_wp2
    go_ret
    exact ⟨ret_int HD.out.symm, rfl⟩
  · by_cases h2 : 97 ≤ c ∧ c ≤ 102
    · have HD : Hid (CP.dig c = (c : Int) - 87) := by show _ = _; unfold CP.dig; rw [if_neg h1, if_pos h2]
      have h3 := h2.1
      have h4 := h2.2
      go_enter Tryd.func15, Tryd.ntmps15
      go_wp2
      go_ret
      exact ⟨ret_int (by rw [HD.out]; omega), rfl⟩
    · have HD : Hid (CP.dig c = -1) := by show _ = _; unfold CP.dig; rw [if_neg h1, if_neg h2]
      go_enter Tryd.func15, Tryd.ntmps15
      go_wp2
      all_goals
        go_ret
        exact ⟨ret_int HD.out.symm, rfl⟩

/-- The variable of the error for a wrong text lies where the program lays it. -/
def ErrAt (w : World) (ea : Addr) : Prop := w.cell? ⟨0, 0, none⟩ = some (.iface 63 (.pointer (some ea))) ∧ 0 < w.heap.size

theorem ErrAt.below {w w' : World} {ea : Addr} (h : ErrAt w ea) (hb : Below w.heap.size w w') : ErrAt w' ea := ⟨(hb.cell (p := ⟨0, 0, none⟩) h.2).trans h.1, Nat.lt_of_lt_of_le h.2 hb.size⟩

def ParsePost (w : World) (ea : Addr) (R : Option (List Nat)) (e : Ending) (w' : World) : Prop :=
  ((∃ r g b a : Nat, R = some [r, g, b, a] ∧ e = .returned (.tuple #[.agg #[.int .u8 r, .int .u8 g, .int .u8 b, .int .u8 a], .nilIface])) ∨
    R = none ∧ e = .returned (.tuple #[.agg #[.int .u8 0, .int .u8 0, .int .u8 0, .int .u8 0], .iface 63 (.pointer (some ea))])) ∧ Below w.heap.size w w'

set_option maxRecDepth 20000 in
set_option maxHeartbeats 1000000 in
theorem parse_len (s : ByteArray) (ea : Addr) (w : World) (hE : ErrAt w ea) (h7 : s.size ≠ 7) (h9 : s.size ≠ 9) : Calls Tryd.prog 7 #[.string s] w (ParsePost w ea (CP.parse (CP.bytes s))) := by
  obtain ⟨e0, z0⟩ := hE
  have HR : Hid (CP.parse (CP.bytes s) = none) := CP.parse_len _ (by rw [CP.bytes_len]; exact h7) (by rw [CP.bytes_len]; exact h9)
  have d7 : ((s.size : Int) == 7) = false := by simp; omega
  have d9 : ((s.size : Int) == 9) = false := by simp; omega
  go_enter Tryd.func7, Tryd.ntmps7
  go_wp2
  go_region
  all_goals go_wp2
  all_goals exact bodyPost_ret (v := .tuple #[.agg #[.int .u8 0, .int .u8 0, .int .u8 0, .int .u8 0], .iface 63 (.pointer (some ea))]) (by simp [results, Tryd.results7, go_sem]) rfl ⟨.inr ⟨HR.out, rfl⟩, ((Below.refl _ _).alloc (Nat.le_refl _) _).drew⟩

set_option maxRecDepth 20000 in
set_option maxHeartbeats 1000000 in
theorem parse_sign (s : ByteArray) (ea : Addr) (w : World) (hE : ErrAt w ea) (h79 : s.size = 7 ∨ s.size = 9) (h0 : (CP.bytes s).head? ≠ some 35) : Calls Tryd.prog 7 #[.string s] w (ParsePost w ea (CP.parse (CP.bytes s))) := by
  obtain ⟨e0, z0⟩ := hE
  have HR : Hid (CP.parse (CP.bytes s) = none) := by
    show _ = _
    unfold CP.parse
    rw [if_neg (fun h => h0 h.2)]
  have hz : 0 < s.size := by omega
  have hb := CP.bytes_at s 0 hz
  obtain ⟨c, hc⟩ : ∃ c, (CP.bytes s)[0]'(by rw [CP.bytes_len]; exact hz) = c := ⟨_, rfl⟩
  rw [hc] at hb
  have hc35 : c ≠ 35 := by
    intro h
    apply h0
    rw [List.head?_eq_getElem?, List.getElem?_eq_getElem (by rw [CP.bytes_len]; exact hz), hc, h]
  have d35 : ((c : Int) == 35) = false := by simp; omega
  clear h0 hc
  have hbs : ∀ h, (s[0]'h).toNat = c := fun _ => hb
  clear hb
  rcases h79 with h7 | h9
  · go_enter Tryd.func7, Tryd.ntmps7
    go_wp2
    go_region
    all_goals go_wp2
    all_goals exact bodyPost_ret (v := .tuple #[.agg #[.int .u8 0, .int .u8 0, .int .u8 0, .int .u8 0], .iface 63 (.pointer (some ea))]) (by simp [results, Tryd.results7, go_sem]) rfl ⟨.inr ⟨HR.out, rfl⟩, ((Below.refl _ _).alloc (Nat.le_refl _) _).drew⟩
  · go_enter Tryd.func7, Tryd.ntmps7
    go_wp2
    go_region
    all_goals go_wp2
    all_goals exact bodyPost_ret (v := .tuple #[.agg #[.int .u8 0, .int .u8 0, .int .u8 0, .int .u8 0], .iface 63 (.pointer (some ea))]) (by simp [results, Tryd.results7, go_sem]) rfl ⟨.inr ⟨HR.out, rfl⟩, ((Below.refl _ _).alloc (Nat.le_refl _) _).drew⟩

end Go.Proofs.YtlgcbjipfolmbaaDoor

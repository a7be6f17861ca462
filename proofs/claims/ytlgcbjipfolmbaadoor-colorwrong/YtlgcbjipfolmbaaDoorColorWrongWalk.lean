/-
  The road of the statement ColorWrong, walked over the program: each of its texts is no color's.
-/
import Derived.Test.YtlgcbjipfolmbaaDoorColorParse3
namespace Go.Proofs.YtlgcbjipfolmbaaDoor
open Go.RowKit

def texts : List ByteArray := [⟨#[]⟩, ⟨#[35]⟩, ⟨#[102, 102, 48, 48, 48, 48]⟩, ⟨#[35, 102, 102, 48, 48, 48]⟩, ⟨#[35, 102, 102, 48, 48, 48, 48, 48]⟩, ⟨#[35, 102, 102, 48, 48, 48, 48, 48, 48, 48]⟩, ⟨#[35, 70, 70, 48, 48, 48, 48]⟩, ⟨#[35, 102, 102, 48, 48, 48, 103]⟩, ⟨#[32, 35, 102, 102, 48, 48, 48, 48]⟩, ⟨#[35, 102, 102, 48, 48, 48, 48, 32]⟩, ⟨#[35, 35, 102, 48, 48, 48, 48]⟩, ⟨#[35, 102, 102, 45, 48, 48, 48]⟩]

theorem texts_none (K : Nat) (h : K < 12) : CP.parse (CP.bytes (texts.getD K ⟨#[]⟩)) = none := by
  have : ∀ i : Fin 12, CP.parse (CP.bytes (texts.getD i.val ⟨#[]⟩)) = none := by decide +kernel
  exact this ⟨K, h⟩

theorem text_cell (w : World) (K : Nat) (h : K < 12) : (w.alloc (.cells #[.string ⟨#[]⟩, .string ⟨#[35]⟩, .string ⟨#[102, 102, 48, 48, 48, 48]⟩, .string ⟨#[35, 102, 102, 48, 48, 48]⟩, .string ⟨#[35, 102, 102, 48, 48, 48, 48, 48]⟩, .string ⟨#[35, 102, 102, 48, 48, 48, 48, 48, 48, 48]⟩, .string ⟨#[35, 70, 70, 48, 48, 48, 48]⟩, .string ⟨#[35, 102, 102, 48, 48, 48, 103]⟩, .string ⟨#[32, 35, 102, 102, 48, 48, 48, 48]⟩, .string ⟨#[35, 102, 102, 48, 48, 48, 48, 32]⟩, .string ⟨#[35, 35, 102, 48, 48, 48, 48]⟩, .string ⟨#[35, 102, 102, 45, 48, 48, 48]⟩] 9)).cell? ⟨w.heap.size, K, none⟩ = some (.string (texts.getD K ⟨#[]⟩)) := by
  rw [World.cell?_alloc_mark]
  have : K = 0 ∨ K = 1 ∨ K = 2 ∨ K = 3 ∨ K = 4 ∨ K = 5 ∨ K = 6 ∨ K = 7 ∨ K = 8 ∨ K = 9 ∨ K = 10 ∨ K = 11 := by omega
  rcases this with rfl | rfl | rfl | rfl | rfl | rfl | rfl | rfl | rfl | rfl | rfl | rfl <;> rfl

set_option maxRecDepth 20000 in
set_option maxHeartbeats 1000000 in
theorem wrong_at (which : Int) (ea : Addr) (w : World) (hE : ErrAt w ea) (t : Int) (ht : which.tmod 12 = t) (h0 : -11 ≤ t) (h1 : t ≤ 11) (K : Nat) (hK : (t + 12).tmod 12 = K) (hK12 : K < 12) :
    Calls Tryd.prog 5 #[.int .i64 which] w fun e w' => e = .returned (.bool true) ∧ Below w.heap.size w w' := by
  have HE : Hid (ErrAt w ea) := hE
  clear hE
  have hKi : (K : Int) < 12 := by omega
  have HN : Hid (CP.parse (CP.bytes (texts.getD K ⟨#[]⟩)) = none) := texts_none K hK12
  have HC : Hid (∀ w : World, (w.alloc (.cells #[.string ⟨#[]⟩, .string ⟨#[35]⟩, .string ⟨#[102, 102, 48, 48, 48, 48]⟩, .string ⟨#[35, 102, 102, 48, 48, 48]⟩, .string ⟨#[35, 102, 102, 48, 48, 48, 48, 48]⟩, .string ⟨#[35, 102, 102, 48, 48, 48, 48, 48, 48, 48]⟩, .string ⟨#[35, 70, 70, 48, 48, 48, 48]⟩, .string ⟨#[35, 102, 102, 48, 48, 48, 103]⟩, .string ⟨#[32, 35, 102, 102, 48, 48, 48, 48]⟩, .string ⟨#[35, 102, 102, 48, 48, 48, 48, 32]⟩, .string ⟨#[35, 35, 102, 48, 48, 48, 48]⟩, .string ⟨#[35, 102, 102, 45, 48, 48, 48]⟩] 9)).cell? ⟨w.heap.size, K, none⟩ = some (.string (texts.getD K ⟨#[]⟩))) := fun w => text_cell w K hK12
  obtain ⟨S, hS⟩ : ∃ S, texts.getD K ⟨#[]⟩ = S := ⟨_, rfl⟩
  rw [hS] at HN HC
  clear hS
  have kc : Hid (∀ w, Calls Tryd.prog 11 #[.agg #[.int .u8 0, .int .u8 0, .int .u8 0, .int .u8 0], .agg #[.int .u8 0, .int .u8 0, .int .u8 0, .int .u8 0]] w fun e w' => e = .returned (.bool true) ∧ Below w.heap.size w w') := fun w => same_any 0 0 0 0 0 0 0 0 w
  go_enter Tryd.func5, Tryd.ntmps5
  go_wp2_with (first
    | (go_at_call 6; refine (first_any w).mono ?_; rintro e w1 ⟨rfl, hb1⟩; have cx := HC.out w1)
    | (go_at_call 7; refine (parse_none S ea _ (HE.out.below (hb1.alloc hb1.size _)) HN.out).mono ?_; rintro e w2 ⟨rfl, hb2⟩; have B2 : Hid (Below w.heap.size w w2) := (hb1.alloc hb1.size _).trans (hb2.mono (by simp; have := hb1.size; omega)); clear cx)
    | (go_at_call 11; refine (kc.out _).mono ?_; rintro e w3 ⟨rfl, hb3⟩; have B3 : Hid (Below w.heap.size w w3) := (B2.out.alloc B2.out.size _).trans (hb3.mono (by simp; have := B2.out.size; omega))))
  go_ret
  exact ⟨rfl, B3.out⟩

end Go.Proofs.YtlgcbjipfolmbaaDoor

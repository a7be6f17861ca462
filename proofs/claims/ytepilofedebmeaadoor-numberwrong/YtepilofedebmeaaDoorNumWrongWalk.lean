/-
  What is no number: walked over the program.
-/
import Derived.Test.YtepilofedebmeaaDoorNumFirst
import Derived.Test.YtepilofedebmeaaDoorNumIs
namespace Go.Proofs.YtepilofedebmeaaDoor
open Go.RowKit

theorem wrong_texts (K : Nat) (hK : K < 17) : ∃ s : ByteArray, (#[.string ⟨#[]⟩, .string ⟨#[45]⟩, .string ⟨#[46]⟩, .string ⟨#[49, 46]⟩, .string ⟨#[46, 53]⟩, .string ⟨#[49, 50, 51, 52, 53, 54, 55]⟩, .string ⟨#[49, 46, 49, 50, 51, 52, 53, 54, 55]⟩, .string ⟨#[49, 32]⟩, .string ⟨#[32, 49]⟩, .string ⟨#[43, 49]⟩, .string ⟨#[45, 45, 49]⟩, .string ⟨#[49, 45]⟩, .string ⟨#[49, 46, 53, 46, 53]⟩, .string ⟨#[48, 120, 49]⟩, .string ⟨#[49, 101, 53]⟩, .string ⟨#[45, 46, 53]⟩, .string ⟨#[49, 44, 53]⟩] : Array Value)[K]? = some (.string s) ∧ s.size ≤ 1000 ∧ NP.parse s.data.toList = none ∧ NP.whole s.data.toList = none := by
  have h : K = 0 ∨ K = 1 ∨ K = 2 ∨ K = 3 ∨ K = 4 ∨ K = 5 ∨ K = 6 ∨ K = 7 ∨ K = 8 ∨ K = 9 ∨ K = 10 ∨ K = 11 ∨ K = 12 ∨ K = 13 ∨ K = 14 ∨ K = 15 ∨ K = 16 := by omega
  rcases h with rfl | rfl | rfl | rfl | rfl | rfl | rfl | rfl | rfl | rfl | rfl | rfl | rfl | rfl | rfl | rfl | rfl
  · exact ⟨⟨#[]⟩, rfl, by decide, by decide, by decide⟩
  · exact ⟨⟨#[45]⟩, rfl, by decide, by decide, by decide⟩
  · exact ⟨⟨#[46]⟩, rfl, by decide, by decide, by decide⟩
  · exact ⟨⟨#[49, 46]⟩, rfl, by decide, by decide, by decide⟩
  · exact ⟨⟨#[46, 53]⟩, rfl, by decide, by decide, by decide⟩
  · exact ⟨⟨#[49, 50, 51, 52, 53, 54, 55]⟩, rfl, by decide, by decide, by decide⟩
  · exact ⟨⟨#[49, 46, 49, 50, 51, 52, 53, 54, 55]⟩, rfl, by decide, by decide, by decide⟩
  · exact ⟨⟨#[49, 32]⟩, rfl, by decide, by decide, by decide⟩
  · exact ⟨⟨#[32, 49]⟩, rfl, by decide, by decide, by decide⟩
  · exact ⟨⟨#[43, 49]⟩, rfl, by decide, by decide, by decide⟩
  · exact ⟨⟨#[45, 45, 49]⟩, rfl, by decide, by decide, by decide⟩
  · exact ⟨⟨#[49, 45]⟩, rfl, by decide, by decide, by decide⟩
  · exact ⟨⟨#[49, 46, 53, 46, 53]⟩, rfl, by decide, by decide, by decide⟩
  · exact ⟨⟨#[48, 120, 49]⟩, rfl, by decide, by decide, by decide⟩
  · exact ⟨⟨#[49, 101, 53]⟩, rfl, by decide, by decide, by decide⟩
  · exact ⟨⟨#[45, 46, 53]⟩, rfl, by decide, by decide, by decide⟩
  · exact ⟨⟨#[49, 44, 53]⟩, rfl, by decide, by decide, by decide⟩

set_option maxRecDepth 20000 in
set_option maxHeartbeats 2000000 in
theorem nwrong_at (n T1 : Int) (K : Nat) (w : World) (A : Nat → Addr) (hE : Errs13 w A) (htab : Lib.TabIs Tryd.prog w "internal/strconv.uint64pow10" .u64 Lib.pow10Tab) (e1 : n.tmod 17 = T1) (b1 : -17 < T1 ∧ T1 < 17) (e2 : (T1 + 17).tmod 17 = K) (hK : K < 17) :
    Calls Tryd.prog 6 #[.int .i64 n] w fun e w' => e = .returned (.bool true) ∧ Below w.heap.size w w' := by
  obtain ⟨s, hs, hsz, hp, hw⟩ := wrong_texts K hK
  obtain ⟨b1, b2⟩ := b1
  have kf := Lib.hid (first9_any w htab)
  have HE := Lib.hid hE
  have e0 : ∀ W, Below w.heap.size w W → W.cell? ⟨0, 0, none⟩ = some (.iface 105 (.pointer (some (A 0)))) := fun W hb => ((HE.out.below hb) 0 (by omega)).1
  have kp : Hid (∀ W, Below w.heap.size w W → Calls Tryd.prog 8 #[.string s] W fun e w' => e = .returned (.tuple #[.int .i64 0, .iface 105 (.pointer (some (A 0)))]) ∧ ∃ m, w' = W.drewN m) := fun W hb => by
    have := parse_any s W hsz (A 0) (e0 W hb)
    rw [hp] at this
    exact this
  have kw := Lib.hid (fun W => whole_none_any s hw W)
  have kn := Lib.hid (fun W => whole_none_any ⟨#[45, 49]⟩ (by decide) W)
  have ki : Hid (∀ W, Below w.heap.size w W → Calls Tryd.prog 12 #[.iface 105 (.pointer (some (A 0))), .int .i64 101] W fun e w' => e = .returned (.bool true) ∧ Below W.heap.size W w') := fun W hb => is_bare A W (HE.out.below hb) 0 (by omega) _ rfl 101 rfl
  have HC : Hid (∀ W : World, (W.alloc (.cells #[.string ⟨#[]⟩, .string ⟨#[45]⟩, .string ⟨#[46]⟩, .string ⟨#[49, 46]⟩, .string ⟨#[46, 53]⟩, .string ⟨#[49, 50, 51, 52, 53, 54, 55]⟩, .string ⟨#[49, 46, 49, 50, 51, 52, 53, 54, 55]⟩, .string ⟨#[49, 32]⟩, .string ⟨#[32, 49]⟩, .string ⟨#[43, 49]⟩, .string ⟨#[45, 45, 49]⟩, .string ⟨#[49, 45]⟩, .string ⟨#[49, 46, 53, 46, 53]⟩, .string ⟨#[48, 120, 49]⟩, .string ⟨#[49, 101, 53]⟩, .string ⟨#[45, 46, 53]⟩, .string ⟨#[49, 44, 53]⟩] 9)).cell? ⟨W.heap.size, K, none⟩ = some (.string s)) := fun W => by rw [cell_new]; exact hs
  have hKi : (K : Int) < 17 := by omega
  clear e0 hE htab hp hw hs
  obtain ⟨a, ha⟩ : ∃ a, A 0 = a := ⟨_, rfl⟩
  rw [ha] at kp ki
  go_enter Tryd.func6, Tryd.ntmps6
  go_wp2_with (first
    | (have v1 := u1; go_at_call 10; refine (kn.out _).mono ?_; rintro e w3 ⟨rfl, rfl⟩)
    | (go_at_call 10; refine (kw.out _).mono ?_; rintro e w3 ⟨rfl, rfl⟩; have u1 : True := trivial)
    | (go_at_call 7; refine kf.out.mono ?_; rintro e w1 ⟨rfl, hb1⟩; have cx := HC.out w1; have B1 := Lib.hid (hb1.alloc (o := .cells #[.string ⟨#[]⟩, .string ⟨#[45]⟩, .string ⟨#[46]⟩, .string ⟨#[49, 46]⟩, .string ⟨#[46, 53]⟩, .string ⟨#[49, 50, 51, 52, 53, 54, 55]⟩, .string ⟨#[49, 46, 49, 50, 51, 52, 53, 54, 55]⟩, .string ⟨#[49, 32]⟩, .string ⟨#[32, 49]⟩, .string ⟨#[43, 49]⟩, .string ⟨#[45, 45, 49]⟩, .string ⟨#[49, 45]⟩, .string ⟨#[49, 46, 53, 46, 53]⟩, .string ⟨#[48, 120, 49]⟩, .string ⟨#[49, 101, 53]⟩, .string ⟨#[45, 46, 53]⟩, .string ⟨#[49, 44, 53]⟩] 9) hb1.size))
    | (go_at_call 8; refine (kp.out _ B1.out).mono ?_; rintro e w2 ⟨rfl, m, rfl⟩)
    | (go_at_call 12; refine (ki.out _ (below_drewN B1.out _)).mono ?_; rintro e w4 ⟨rfl, hb4⟩))
  go_ret
  exact ⟨rfl, (below_drewN B1.out m).trans (hb4.mono (below_drewN B1.out m).size)⟩

theorem wnumwrong (a0 : Int) (w : World) (A : Nat → Addr) (hE : Errs13 w A) (htab : Lib.TabIs Tryd.prog w "internal/strconv.uint64pow10" .u64 Lib.pow10Tab) :
    Calls Tryd.prog 6 #[.int .i64 a0] w fun e w' => e = .returned (.bool true) ∧ Below w.heap.size w w' := by
  obtain ⟨T1, e1, b1, b2⟩ := rem_down a0 17 (by omega)
  obtain ⟨K, e2, b3⟩ := rem_up (T1 + 17) 17 (by omega) (by omega)
  exact nwrong_at a0 T1 K w A hE htab e1 ⟨b1, b2⟩ e2 (by omega)

end Go.Proofs.YtepilofedebmeaaDoor

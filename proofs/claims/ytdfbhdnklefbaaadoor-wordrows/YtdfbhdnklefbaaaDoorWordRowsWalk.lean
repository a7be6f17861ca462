/-
  The road of the statement WordRows, walked over the program.
-/
import Derived.Deep.Cut
import Derived.Deep.CutBlock
import Derived.OpenShut
import Derived.Test.YtdfbhdnklefbaaaDoorWordErrWalk
import Derived.Test.YtdfbhdnklefbaaaDoorWordRowsPlain
namespace Go.Proofs.YtdfbhdnklefbaaaDoor
open Go.RowKit

/-- Integers that came in as a slice: none, or cell by cell. -/
def IsRow (k : IntKind) (w : World) (a : Option Addr) (len cap : Nat) (zs : List Int) : Prop :=
  (a = none ∧ len = 0 ∧ cap = 0 ∧ zs = []) ∨
  ∃ x, a = some x ∧ len ≤ cap ∧ cap ≤ maxLen ∧ zs.length = cap ∧ (∀ i, i < zs.length → w.cell? (x.add i) = some (.int k (zs.getD i 0))) ∧ ∀ n ∈ zs, (Lit.int k n).wf = true

theorem rt_cell (w : World) (K : Nat) (h : K < 20) : (w.alloc (.cells #[.string ⟨#[97, 98, 99]⟩, .string ⟨#[120, 95, 49]⟩, .string ⟨#[105, 99, 111, 110]⟩, .string ⟨#[116, 117, 114, 110]⟩, .string ⟨#[49, 50]⟩, .string ⟨#[45, 48, 46, 53]⟩, .string ⟨#[57, 57, 57, 57, 57, 57, 46, 57, 57, 57, 57, 57, 57]⟩, .string ⟨#[35, 48, 48, 102, 102, 48, 48]⟩, .string ⟨#[35, 49, 50, 51, 52, 53, 54, 55, 56]⟩, .string ⟨#[123]⟩, .string ⟨#[125]⟩, .string ⟨#[59]⟩, .string ⟨#[61]⟩, .string ⟨#[77]⟩, .string ⟨#[76]⟩, .string ⟨#[81]⟩, .string ⟨#[67]⟩, .string ⟨#[65]⟩, .string ⟨#[66]⟩, .string ⟨#[90]⟩] 9)).cell? ⟨w.heap.size, K, none⟩ = some (.string ⟨(WP.rtext K).toArray⟩) := by
  rw [World.cell?_alloc_mark]
  have : K = 0 ∨ K = 1 ∨ K = 2 ∨ K = 3 ∨ K = 4 ∨ K = 5 ∨ K = 6 ∨ K = 7 ∨ K = 8 ∨ K = 9 ∨ K = 10 ∨ K = 11 ∨ K = 12 ∨ K = 13 ∨ K = 14 ∨ K = 15 ∨ K = 16 ∨ K = 17 ∨ K = 18 ∨ K = 19 := by omega
  rcases this with rfl | rfl | rfl | rfl | rfl | rfl | rfl | rfl | rfl | rfl | rfl | rfl | rfl | rfl | rfl | rfl | rfl | rfl | rfl | rfl <;> rfl
theorem rk_cell (w : World) (K : Nat) (h : K < 20) : (w.alloc (.cells #[.int .i64 1, .int .i64 1, .int .i64 2, .int .i64 2, .int .i64 3, .int .i64 3, .int .i64 3, .int .i64 4, .int .i64 4, .int .i64 5, .int .i64 5, .int .i64 5, .int .i64 5, .int .i64 6, .int .i64 6, .int .i64 6, .int .i64 6, .int .i64 6, .int .i64 6, .int .i64 6] 3)).cell? ⟨w.heap.size, K, none⟩ = some (.int .i64 (WP.rkind K : Nat)) := by
  rw [World.cell?_alloc_mark]
  have : K = 0 ∨ K = 1 ∨ K = 2 ∨ K = 3 ∨ K = 4 ∨ K = 5 ∨ K = 6 ∨ K = 7 ∨ K = 8 ∨ K = 9 ∨ K = 10 ∨ K = 11 ∨ K = 12 ∨ K = 13 ∨ K = 14 ∨ K = 15 ∨ K = 16 ∨ K = 17 ∨ K = 18 ∨ K = 19 := by omega
  rcases this with rfl | rfl | rfl | rfl | rfl | rfl | rfl | rfl | rfl | rfl | rfl | rfl | rfl | rfl | rfl | rfl | rfl | rfl | rfl | rfl <;> rfl
theorem rg_cell (w : World) (K : Nat) (h : K < 5) : (w.alloc (.cells #[.string ⟨#[32]⟩, .string ⟨#[10]⟩, .string ⟨#[9, 13, 32]⟩, .string ⟨#[32, 47, 47, 32, 77, 32, 123, 10]⟩, .string ⟨#[47, 47, 10]⟩] 9)).cell? ⟨w.heap.size, K, none⟩ = some (.string ⟨(WP.rgap K).toArray⟩) := by
  rw [World.cell?_alloc_mark]
  have : K = 0 ∨ K = 1 ∨ K = 2 ∨ K = 3 ∨ K = 4 := by omega
  rcases this with rfl | rfl | rfl | rfl | rfl <;> rfl

/-- What a number comes to between 0 and m. -/
theorem rem_to (a m : Int) (hm : 0 < m ∧ m ≤ 1000) : ∃ (t : Int) (k : Nat), a.tmod m = t ∧ -m < t ∧ t < m ∧ (t + m).tmod m = (k : Int) ∧ (k : Int) < m := by
  have t0 : -m < a.tmod m ∧ a.tmod m < m := by
    rcases Int.le_total 0 a with h | h
    · rw [Int.tmod_eq_emod_of_nonneg h]
      have := Int.emod_nonneg a (b := m) (by omega)
      have := Int.emod_lt_of_pos a (b := m) (by omega)
      omega
    · have e : a.tmod m = -((-a).tmod m) := by rw [Int.neg_tmod]; omega
      rw [e, Int.tmod_eq_emod_of_nonneg (by omega)]
      have := Int.emod_nonneg (-a) (b := m) (by omega)
      have := Int.emod_lt_of_pos (-a) (b := m) (by omega)
      omega
  have e1 : (a.tmod m + m).tmod m = (a.tmod m + m) % m := Int.tmod_eq_emod_of_nonneg (by omega)
  have h1 := Int.emod_nonneg (a.tmod m + m) (b := m) (by omega)
  have h2 := Int.emod_lt_of_pos (a.tmod m + m) (b := m) (by omega)
  exact ⟨_, ((a.tmod m + m) % m).toNat, rfl, t0.1, t0.2, by rw [e1, Int.toNat_of_nonneg h1], by rw [Int.toNat_of_nonneg h1]; exact h2⟩

/-- The numbers that are chosen, place by place. -/
theorem picks (z0 z1 : List Int) : ∀ n, ∃ ps : List (Nat × Nat), ps.length = n ∧ (∀ p ∈ ps, p.1 < 20 ∧ p.2 < 5) ∧ ∀ i (hi : i < ps.length), (∃ t, (z0.getD i 0).tmod 20 = t ∧ -20 < t ∧ t < 20 ∧ (t + 20).tmod 20 = (ps[i].1 : Int)) ∧ (∃ t, (z1.getD i 0).tmod 5 = t ∧ -5 < t ∧ t < 5 ∧ (t + 5).tmod 5 = (ps[i].2 : Int)) := by
  intro n
  induction n with
  | zero => exact ⟨[], rfl, by simp, fun i hi => by simp at hi⟩
  | succ n ih =>
    obtain ⟨ps, h1, h2, h3⟩ := ih
    obtain ⟨t, k, a1, a2, a3, a4, a5⟩ := rem_to (z0.getD n 0) 20 (by omega)
    obtain ⟨u, g, b1, b2, b3, b4, b5⟩ := rem_to (z1.getD n 0) 5 (by omega)
    refine ⟨ps ++ [(k, g)], by simp [h1], ?_, ?_⟩
    · intro p hp
      rcases List.mem_append.1 hp with hp | hp
      · exact h2 p hp
      · simp at hp; subst hp; exact ⟨by show k < 20; omega, by show g < 5; omega⟩
    · intro i hi
      rcases Nat.lt_or_ge i ps.length with h | h
      · rw [List.getElem_append_left h]; exact h3 i h
      · have e : i = n := by simp at hi; omega
        subst e
        rw [List.getElem_append_right h]
        simp only [h1, Nat.sub_self, List.getElem_cons_zero]
        exact ⟨⟨t, a1, a2, a3, a4⟩, ⟨u, b1, b2, b3, b4⟩⟩

theorem wrap_in (n : Int) (h : -9223372036854775808 ≤ n ∧ n ≤ 9223372036854775807) : IntKind.i64.wrap n = n := by rw [IntKind.wrap_i64]; omega
theorem add_block (x : Addr) (j : Nat) : (x.add j).block = x.block := by unfold Addr.add; split <;> rfl

set_option maxRecDepth 20000 in
set_option maxHeartbeats 2000000 in
theorem wrows_few (ea : Addr) (a0 a1 : Option Addr) (n len1 cap0 cap1 : Nat) (z0 z1 : List Int) (w : World) (hE : ErrT w ea) (hn : n ≤ 30) (h1 : n ≤ len1) (hb : ∀ i, i < n → ∃ x0 x1, a0 = some x0 ∧ a1 = some x1 ∧ x0.block < w.heap.size ∧ x1.block < w.heap.size ∧ w.cell? (x0.add i) = some (.int .i64 (z0.getD i 0)) ∧ w.cell? (x1.add i) = some (.int .i64 (z1.getD i 0))) :
    Calls Tryd.prog 4 #[.slice a0 n cap0, .slice a1 len1 cap1] w fun e w' => e = .returned (.bool true) ∧ Below w.heap.size w w' := by
  have HE := hid'' hE
  have HZ := hid'' hb
  clear hE hb
  obtain ⟨ps, hps, hpb, hpi⟩ := picks z0 z1 n
  have HP := hid'' hps
  have HQ := hid'' hpb
  have HI := hid'' hpi
  clear hps hpb hpi
  go_enter Tryd.func4, Tryd.ntmps4
  go_wp2_with (go_at_call 7; refine (first8_any _ w HE.out).mono ?_; rintro e w1 ⟨rfl, hb1⟩; have HB1 := hid'' hb1; clear hb1)
  obtain ⟨g0, hg0⟩ : ∃ g0, w1.heap.size = g0 := ⟨_, rfl⟩
  have HB0 : Hid (Below w.heap.size w ((w1.alloc (.cells #[.string ⟨#[97, 98, 99]⟩, .string ⟨#[120, 95, 49]⟩, .string ⟨#[105, 99, 111, 110]⟩, .string ⟨#[116, 117, 114, 110]⟩, .string ⟨#[49, 50]⟩, .string ⟨#[45, 48, 46, 53]⟩, .string ⟨#[57, 57, 57, 57, 57, 57, 46, 57, 57, 57, 57, 57, 57]⟩, .string ⟨#[35, 48, 48, 102, 102, 48, 48]⟩, .string ⟨#[35, 49, 50, 51, 52, 53, 54, 55, 56]⟩, .string ⟨#[123]⟩, .string ⟨#[125]⟩, .string ⟨#[59]⟩, .string ⟨#[61]⟩, .string ⟨#[77]⟩, .string ⟨#[76]⟩, .string ⟨#[81]⟩, .string ⟨#[67]⟩, .string ⟨#[65]⟩, .string ⟨#[66]⟩, .string ⟨#[90]⟩] 9)).alloc (.cells #[.int .i64 1, .int .i64 1, .int .i64 2, .int .i64 2, .int .i64 3, .int .i64 3, .int .i64 3, .int .i64 4, .int .i64 4, .int .i64 5, .int .i64 5, .int .i64 5, .int .i64 5, .int .i64 6, .int .i64 6, .int .i64 6, .int .i64 6, .int .i64 6, .int .i64 6, .int .i64 6] 3))) := (HB1.out.alloc HB1.out.size _).alloc (by have := HB1.out.size; simp; omega) _
  have HC0 : Hid (∀ K, K < 20 → ((w1.alloc (.cells #[.string ⟨#[97, 98, 99]⟩, .string ⟨#[120, 95, 49]⟩, .string ⟨#[105, 99, 111, 110]⟩, .string ⟨#[116, 117, 114, 110]⟩, .string ⟨#[49, 50]⟩, .string ⟨#[45, 48, 46, 53]⟩, .string ⟨#[57, 57, 57, 57, 57, 57, 46, 57, 57, 57, 57, 57, 57]⟩, .string ⟨#[35, 48, 48, 102, 102, 48, 48]⟩, .string ⟨#[35, 49, 50, 51, 52, 53, 54, 55, 56]⟩, .string ⟨#[123]⟩, .string ⟨#[125]⟩, .string ⟨#[59]⟩, .string ⟨#[61]⟩, .string ⟨#[77]⟩, .string ⟨#[76]⟩, .string ⟨#[81]⟩, .string ⟨#[67]⟩, .string ⟨#[65]⟩, .string ⟨#[66]⟩, .string ⟨#[90]⟩] 9)).alloc (.cells #[.int .i64 1, .int .i64 1, .int .i64 2, .int .i64 2, .int .i64 3, .int .i64 3, .int .i64 3, .int .i64 4, .int .i64 4, .int .i64 5, .int .i64 5, .int .i64 5, .int .i64 5, .int .i64 6, .int .i64 6, .int .i64 6, .int .i64 6, .int .i64 6, .int .i64 6, .int .i64 6] 3)).cell? ⟨g0, K, none⟩ = some (.string ⟨(WP.rtext K).toArray⟩) ∧ ((w1.alloc (.cells #[.string ⟨#[97, 98, 99]⟩, .string ⟨#[120, 95, 49]⟩, .string ⟨#[105, 99, 111, 110]⟩, .string ⟨#[116, 117, 114, 110]⟩, .string ⟨#[49, 50]⟩, .string ⟨#[45, 48, 46, 53]⟩, .string ⟨#[57, 57, 57, 57, 57, 57, 46, 57, 57, 57, 57, 57, 57]⟩, .string ⟨#[35, 48, 48, 102, 102, 48, 48]⟩, .string ⟨#[35, 49, 50, 51, 52, 53, 54, 55, 56]⟩, .string ⟨#[123]⟩, .string ⟨#[125]⟩, .string ⟨#[59]⟩, .string ⟨#[61]⟩, .string ⟨#[77]⟩, .string ⟨#[76]⟩, .string ⟨#[81]⟩, .string ⟨#[67]⟩, .string ⟨#[65]⟩, .string ⟨#[66]⟩, .string ⟨#[90]⟩] 9)).alloc (.cells #[.int .i64 1, .int .i64 1, .int .i64 2, .int .i64 2, .int .i64 3, .int .i64 3, .int .i64 3, .int .i64 4, .int .i64 4, .int .i64 5, .int .i64 5, .int .i64 5, .int .i64 5, .int .i64 6, .int .i64 6, .int .i64 6, .int .i64 6, .int .i64 6, .int .i64 6, .int .i64 6] 3)).cell? ⟨g0 + 1, K, none⟩ = some (.int .i64 (WP.rkind K : Nat))) := fun K hK => by
    refine ⟨?_, ?_⟩
    · have h := rt_cell w1 K hK
      rw [hg0] at h
      rw [← h]
      exact World.cell?_of_block (Below.heap_alloc _ _ _ (by show g0 < _; rw [size_alloc, hg0]; omega))
    · have h := rk_cell (w1.alloc (.cells #[.string ⟨#[97, 98, 99]⟩, .string ⟨#[120, 95, 49]⟩, .string ⟨#[105, 99, 111, 110]⟩, .string ⟨#[116, 117, 114, 110]⟩, .string ⟨#[49, 50]⟩, .string ⟨#[45, 48, 46, 53]⟩, .string ⟨#[57, 57, 57, 57, 57, 57, 46, 57, 57, 57, 57, 57, 57]⟩, .string ⟨#[35, 48, 48, 102, 102, 48, 48]⟩, .string ⟨#[35, 49, 50, 51, 52, 53, 54, 55, 56]⟩, .string ⟨#[123]⟩, .string ⟨#[125]⟩, .string ⟨#[59]⟩, .string ⟨#[61]⟩, .string ⟨#[77]⟩, .string ⟨#[76]⟩, .string ⟨#[81]⟩, .string ⟨#[67]⟩, .string ⟨#[65]⟩, .string ⟨#[66]⟩, .string ⟨#[90]⟩] 9)) K hK
      rw [size_alloc, hg0] at h
      exact h
  have hz0 : ((w1.alloc (.cells #[.string ⟨#[97, 98, 99]⟩, .string ⟨#[120, 95, 49]⟩, .string ⟨#[105, 99, 111, 110]⟩, .string ⟨#[116, 117, 114, 110]⟩, .string ⟨#[49, 50]⟩, .string ⟨#[45, 48, 46, 53]⟩, .string ⟨#[57, 57, 57, 57, 57, 57, 46, 57, 57, 57, 57, 57, 57]⟩, .string ⟨#[35, 48, 48, 102, 102, 48, 48]⟩, .string ⟨#[35, 49, 50, 51, 52, 53, 54, 55, 56]⟩, .string ⟨#[123]⟩, .string ⟨#[125]⟩, .string ⟨#[59]⟩, .string ⟨#[61]⟩, .string ⟨#[77]⟩, .string ⟨#[76]⟩, .string ⟨#[81]⟩, .string ⟨#[67]⟩, .string ⟨#[65]⟩, .string ⟨#[66]⟩, .string ⟨#[90]⟩] 9)).alloc (.cells #[.int .i64 1, .int .i64 1, .int .i64 2, .int .i64 2, .int .i64 3, .int .i64 3, .int .i64 3, .int .i64 4, .int .i64 4, .int .i64 5, .int .i64 5, .int .i64 5, .int .i64 5, .int .i64 6, .int .i64 6, .int .i64 6, .int .i64 6, .int .i64 6, .int .i64 6, .int .i64 6] 3)).heap.size = g0 + 2 := by rw [size_alloc, size_alloc, hg0]
  rw [hg0]
  generalize ((w1.alloc (.cells #[.string ⟨#[97, 98, 99]⟩, .string ⟨#[120, 95, 49]⟩, .string ⟨#[105, 99, 111, 110]⟩, .string ⟨#[116, 117, 114, 110]⟩, .string ⟨#[49, 50]⟩, .string ⟨#[45, 48, 46, 53]⟩, .string ⟨#[57, 57, 57, 57, 57, 57, 46, 57, 57, 57, 57, 57, 57]⟩, .string ⟨#[35, 48, 48, 102, 102, 48, 48]⟩, .string ⟨#[35, 49, 50, 51, 52, 53, 54, 55, 56]⟩, .string ⟨#[123]⟩, .string ⟨#[125]⟩, .string ⟨#[59]⟩, .string ⟨#[61]⟩, .string ⟨#[77]⟩, .string ⟨#[76]⟩, .string ⟨#[81]⟩, .string ⟨#[67]⟩, .string ⟨#[65]⟩, .string ⟨#[66]⟩, .string ⟨#[90]⟩] 9)).alloc (.cells #[.int .i64 1, .int .i64 1, .int .i64 2, .int .i64 2, .int .i64 3, .int .i64 3, .int .i64 3, .int .i64 4, .int .i64 4, .int .i64 5, .int .i64 5, .int .i64 5, .int .i64 5, .int .i64 6, .int .i64 6, .int .i64 6, .int .i64 6, .int .i64 6, .int .i64 6, .int .i64 6] 3)) = W0 at HB0 HC0 hz0 ⊢
  clear HB1 hg0
  go_loopw [8, 9] (fun v i wr => ∃ (j : Nat) (S : ByteArray), j ≤ n ∧ i = .int .i64 j ∧ v = .string S ∧ Hid (S = ⟨(WP.rows (ps.take j)).toArray⟩) ∧ S.size ≤ 21 * j ∧ Hid (Below W0.heap.size W0 wr) ∧ g0 + 2 ≤ wr.heap.size) (fun _ i _ => n - (intOf i).toNat)
  case atStart => exact ⟨0, _, Nat.zero_le _, rfl, rfl, rfl, Nat.zero_le _, Below.refl _ _, Nat.le_of_eq hz0.symm⟩
  case round =>
    obtain ⟨j, S, hj, rfl, rfl, HS, hSz, HBr, hzr⟩ := hrel
    by_cases hjn : j < n
    · obtain ⟨x0, x1, rfl, rfl, hx0, hx1, hc0, hc1⟩ := HZ.out j hjn
      have hjp : j < ps.length := by rw [HP.out]; exact hjn
      obtain ⟨⟨t, t1, t2, t3, t4⟩, ⟨u, u1, u2, u3, u4⟩⟩ := HI.out j hjp
      obtain ⟨hk, hg⟩ := HQ.out ps[j] (List.getElem_mem hjp)
      have hrow := WP.rows_take ps j hjp
      obtain ⟨k, hkk⟩ : ∃ k, ps[j].1 = k := ⟨_, rfl⟩
      obtain ⟨g, hgg⟩ : ∃ g, ps[j].2 = g := ⟨_, rfl⟩
      rw [hkk] at t4 hk hrow
      rw [hgg] at u4 hg hrow
      have hBW := HB0.out
      have d0 : wr.cell? (x0.add j) = some (.int .i64 (z0.getD j 0)) := by
        rw [HBr.out.cell (p := x0.add j) (by rw [add_block]; have := hBW.size; omega), hBW.cell (p := x0.add j) (by rw [add_block]; exact hx0)]; exact hc0
      have d1 : wr.cell? (x1.add j) = some (.int .i64 (z1.getD j 0)) := by
        rw [HBr.out.cell (p := x1.add j) (by rw [add_block]; have := hBW.size; omega), hBW.cell (p := x1.add j) (by rw [add_block]; exact hx1)]; exact hc1
      have d2 : wr.cell? ⟨g0, k, none⟩ = some (.string ⟨(WP.rtext k).toArray⟩) := by
        rw [HBr.out.cell (p := ⟨g0, k, none⟩) (by show g0 < _; omega)]; exact (HC0.out k hk).1
      have d3 := fun W => rg_cell W g hg
      obtain ⟨l1, l2, l3⟩ := WP.rlen k g hk hg
      rw [← size_mk] at l2 l3
      obtain ⟨Tb, hTb⟩ : ∃ Tb : ByteArray, ⟨(WP.rtext k).toArray⟩ = Tb := ⟨_, rfl⟩
      obtain ⟨Gb, hGb⟩ : ∃ Gb : ByteArray, ⟨(WP.rgap g).toArray⟩ = Gb := ⟨_, rfl⟩
      rw [hTb] at d2 l2
      rw [hGb] at d3 l3
      obtain ⟨zz0, hz00⟩ : ∃ z, z0.getD j 0 = z := ⟨_, rfl⟩
      obtain ⟨zz1, hz11⟩ : ∃ z, z1.getD j 0 = z := ⟨_, rfl⟩
      rw [hz00] at d0 t1
      rw [hz11] at d1 u1
      have HN : Hid (S ++ Tb ++ Gb = ⟨(WP.rows (ps.take (j + 1))).toArray⟩) := by
        show _ = _
        rw [HS.out, ← hTb, ← hGb, cat_any, cat_any, hrow]
      have hki : (k : Int) < 20 := by omega
      have hw1 : IntKind.i64.wrap (t + 20) = t + 20 := wrap_in _ (by omega)
      have hw2 : IntKind.i64.wrap (u + 5) = u + 5 := wrap_in _ (by omega)
      have hk0 : (0 : Int) ≤ (k : Int) := by omega
      have hg00 : (0 : Int) ≤ (g : Int) := by omega
      have hj00 : (0 : Int) ≤ (j : Int) := by omega
      have hgi : (g : Int) < 5 := by omega
      have hji : (j : Int) < (n : Int) := by omega
      have hj1 : (j : Int) < (len1 : Int) := by omega
      have f0 : ∀ o, (wr.alloc o).cell? (x0.add j) = some (.int .i64 zz0) := fun o => (World.cell?_of_block (Below.heap_alloc _ _ _ (by rw [add_block]; have := HBr.out.size; have := hBW.size; omega))).trans d0
      have f1 : ∀ o, (wr.alloc o).cell? (x1.add j) = some (.int .i64 zz1) := fun o => (World.cell?_of_block (Below.heap_alloc _ _ _ (by rw [add_block]; have := HBr.out.size; have := hBW.size; omega))).trans d1
      have f2 : ∀ o, (wr.alloc o).cell? ⟨g0, k, none⟩ = some (.string Tb) := fun o => (World.cell?_of_block (Below.heap_alloc _ _ _ (by show g0 < _; omega))).trans d2
      clear hrow hkk hgg hc0 hc1 hTb hGb hz00 hz11 hBW hjp hx0 hx1 l1
      go_wp2
      go_region
      all_goals go_wp2
      all_goals go_roundw
      case rel => exact ⟨j + 1, _, by omega, by go_num, rfl, HN, by rw [ByteArray.size_append, ByteArray.size_append]; omega, (HBr.out.alloc (by omega) _).drew, by simp; omega⟩
      case measure => simp [intOf]; omega
    · obtain rfl : j = n := by omega
      have etk : ps.take j = ps := List.take_of_length_le (by rw [HP.out]; omega)
      rw [etk] at HS
      have HT1 : Hid (ErrT wr ea) := HE.out.below (chain HB0.out HBr.out)
      have HS1 : Hid (Calls Tryd.prog 9 #[.string S] wr fun e w' => ∃ ad cap, e = .returned (.tuple #[.slice ad j cap, .nilIface]) ∧ Own w' wr.heap.size 44 3 wcells ad cap (WP.rwords 0 ps) ∧ Below wr.heap.size wr w') := by
        have h := split_ok S ea wr (by omega) HT1.out (WP.rwords 0 ps) (by rw [HS.out, mk_data]; exact WP.split_rows ps HQ.out)
        rw [WP.rwords_len, HP.out] at h
        exact h
      have hjn' : ¬ ((j : Int) < (j : Int)) := by omega
      clear hjn hj etk HT1
      go_wp2_with (go_at_call 9; refine HS1.out.mono ?_; rintro e w3 ⟨ad3, cap3, rfl, hown3, hb3⟩
                   have HO3 := hid'' hown3
                   have HB3 : Hid (Below W0.heap.size W0 w3) := chain HBr.out hb3
                   clear hown3 hb3)
      obtain ⟨q, hq⟩ : ∃ q : Nat → Nat, q = fun i => (WP.rows (ps.take i)).length := ⟨_, rfl⟩
      have HQq : Hid (∀ i (hi : i < ps.length), q i + (WP.rtext ps[i].1).length ≤ q (i + 1)) := fun i hi => by
        rw [hq]
        show (WP.rows (ps.take i)).length + _ ≤ (WP.rows (ps.take (i + 1))).length
        rw [WP.rows_take ps i hi]; simp only [List.length_append]; omega
      have HQS : Hid (∀ i (hi : i < ps.length), q i + (WP.rtext ps[i].1).length ≤ S.size ∧ S.extract (q i) (q i + (WP.rtext ps[i].1).length) = ⟨(WP.rtext ps[i].1).toArray⟩) := fun i hi => by
        have h := WP.rows_piece ps i hi
        rw [hq]
        refine ⟨?_, ?_⟩
        · have h2 := WP.rows_split ps (i + 1)
          have h3 := WP.rows_take ps i hi
          rw [HS.out, size_mk, h2, h3]
          simp only [List.length_append]
          omega
        · rw [Lib.extract_eq, Nat.add_sub_cancel_left, HS.out, mk_data]
          exact congrArg (fun l => (⟨List.toArray l⟩ : ByteArray)) h
      have HW : Hid (∀ i (hi : i < ps.length), ∃ g3, ad3 = some ⟨g3, 0, none⟩ ∧ g3 < w3.heap.size ∧ w3.cell? ⟨g3, i * 3, none⟩ = some (.int .i64 (WP.rkind ps[i].1 : Nat)) ∧ w3.cell? ⟨g3, i * 3 + 1, none⟩ = some (.int .i64 (q i : Nat)) ∧ w3.cell? ⟨g3, i * 3 + 2, none⟩ = some (.string ⟨(WP.rtext ps[i].1).toArray⟩)) := fun i hi => by
        have hne : WP.rwords 0 ps ≠ [] := by intro e; have := WP.rwords_len ps 0; rw [e] at this; simp at this; omega
        obtain ⟨g3, e3, hg3, hc⟩ := own_w HO3.out hne
        have hl : i < (WP.rwords 0 ps).length := by rw [WP.rwords_len]; exact hi
        have ha := WP.rwords_at ps 0 i hi
        rw [List.getElem?_eq_getElem hl] at ha
        have ha' := Option.some.inj ha
        have := hc i hl
        rw [ha'] at this
        simp only [Nat.zero_add] at this
        rw [hq]
        exact ⟨g3, e3, hg3, this⟩
      have hSz' : S.size ≤ 630 := by omega
      have HBw : Hid (Below w.heap.size w w3) := chain HB0.out HB3.out
      have HT3 : Hid (∀ K, K < 20 → w3.cell? ⟨g0, K, none⟩ = some (.string ⟨(WP.rtext K).toArray⟩) ∧ w3.cell? ⟨g0 + 1, K, none⟩ = some (.int .i64 (WP.rkind K : Nat))) := fun K hK => ⟨(HB3.out.cell (p := ⟨g0, K, none⟩) (by show g0 < _; omega)).trans (HC0.out K hK).1, (HB3.out.cell (p := ⟨g0 + 1, K, none⟩) (by show g0 + 1 < _; omega)).trans (HC0.out K hK).2⟩
      have HP' : Hid (ps.length = j) := HP
      have HZ3 : Hid (∀ i, i < j → ∃ x0, a0 = some x0 ∧ w3.cell? (x0.add i) = some (.int .i64 (z0.getD i 0))) := fun i hi => by
        obtain ⟨x0, x1, e0, e1, hx0, hx1, hc0, hc1⟩ := HZ.out i hi
        exact ⟨x0, e0, (HBw.out.cell (p := x0.add i) (by rw [add_block]; exact hx0)).trans hc0⟩
      have hq0 : 0 ≤ q 0 := Nat.zero_le _
      clear hq HO3 HB3 HS HBr HC0 HB0 hzr hz0 HS1 hjn' HP HZ
      rename World => w3
      go_loopw [12, 13] (fun a i wv => ∃ (m b d : Nat), m ≤ j ∧ i = .int .i64 m ∧ a = .int .i64 b ∧ b ≤ q m ∧ b ≤ 630 ∧ wv = w3.drewN d) (fun _ i _ => j - (intOf i).toNat)
      case atStart => exact ⟨0, 0, 0, Nat.zero_le _, rfl, rfl, Nat.zero_le _, by omega, rfl⟩
      case round =>
        obtain ⟨m, b, d, hm, rfl, rfl, hb, hb2, rfl⟩ := hrel
        by_cases hmj : m < j
        · have hmp : m < ps.length := by rw [HP'.out]; exact hmj
          obtain ⟨x0, rfl, hc0⟩ := HZ3.out m hmj
          obtain ⟨⟨t, t1, t2, t3, t4⟩, -⟩ := HI.out m hmp
          obtain ⟨hk, -⟩ := HQ.out ps[m] (List.getElem_mem hmp)
          obtain ⟨g3, rfl, hg3, e0, e1, e2⟩ := HW.out m hmp
          have hq1 := HQq.out m hmp
          obtain ⟨hq2, hq3⟩ := HQS.out m hmp
          obtain ⟨k, hkk⟩ : ∃ k, ps[m].1 = k := ⟨_, rfl⟩
          rw [hkk] at t4 hk e0 e2 hq1 hq2 hq3
          obtain ⟨c0, c1⟩ := HT3.out k hk
          have hTz : (WP.rtext k).length = (⟨(WP.rtext k).toArray⟩ : ByteArray).size := (size_mk _).symm
          rw [hTz] at hq1 hq2 hq3
          obtain ⟨Tb, hTb⟩ : ∃ Tb : ByteArray, ⟨(WP.rtext k).toArray⟩ = Tb := ⟨_, rfl⟩
          rw [hTb] at c0 e2 hq1 hq2 hq3
          obtain ⟨kd, hkd⟩ : ∃ kd, WP.rkind k = kd := ⟨_, rfl⟩
          rw [hkd] at c1 e0
          obtain ⟨p, hp⟩ : ∃ p, q m = p := ⟨_, rfl⟩
          obtain ⟨p', hp'⟩ : ∃ p, q (m + 1) = p := ⟨_, rfl⟩
          rw [hp] at e1 hq1 hq2 hq3 hb
          rw [hp'] at hq1
          have HP1 := hid'' hp'
          obtain ⟨zz, hzz⟩ : ∃ z, z0.getD m 0 = z := ⟨_, rfl⟩
          rw [hzz] at hc0 t1
          have hki : (k : Int) < 20 := by omega
          have hk0 : (0 : Int) ≤ (k : Int) := by omega
          have hmi : (m : Int) < (j : Int) := by omega
          have hm0 : (0 : Int) ≤ (m : Int) := by omega
          have hw1 : IntKind.i64.wrap (t + 20) = t + 20 := wrap_in _ (by omega)
          have hw3 : IntKind.i64.wrap ((p : Int) + (Tb.size : Int)) = (p : Int) + (Tb.size : Int) := wrap_in _ (by omega)
          have hpb : ¬ ((p : Int) < (b : Int)) := by omega
          clear hkk hTz hTb hkd hp hp' hzz hmp hk
          go_wp2
          have y1 : (0 : Int) ≤ (p : Int) := by omega
          have y2 : (p : Int) ≤ (p : Int) + (Tb.size : Int) := by omega
          have y3 : (p : Int) + (Tb.size : Int) ≤ (S.size : Int) := by omega
          have y4 : (0 : Int) ≤ (p : Int) + (Tb.size : Int) := by omega
          have y5 : ((p : Int) + (Tb.size : Int)).toNat = p + Tb.size := by omega
          go_quiet (fail)
          go_wp2
          go_quiet (fail)
          go_wp2
          go_roundw
          case rel => exact ⟨m + 1, p + Tb.size, _, by omega, by go_num, by push_cast; rfl, by rw [HP1.out]; exact hq1, by omega, rfl⟩
          case measure => simp [intOf]; omega
        · obtain rfl : m = j := by omega
          have hmm : ¬ ((m : Int) < (m : Int)) := by omega
          clear hmj
          go_wp2
          go_ret
          exact ⟨rfl, below_drewN HBw.out _⟩

end Go.Proofs.YtdfbhdnklefbaaaDoor

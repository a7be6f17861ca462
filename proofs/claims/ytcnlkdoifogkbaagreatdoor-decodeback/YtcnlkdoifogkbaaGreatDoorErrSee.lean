/-
  How the statements see a bare error: which of the program's own it is; none. Walked over the program.
-/
import Derived.LaidEql
import Derived.Test.YtcnlkdoifogkbaaGreatDoorIconBase
namespace Go.Proofs.YtcnlkdoifogkbaaGreatDoor
open Go.RowKit

/-- The program's own errors lie where its variables say, each in memory of its own. -/
def Errs13 (w : World) (A : Nat → Addr) : Prop := ∀ i, i < 13 → w.cell? ⟨i, 0, none⟩ = some (.iface 173 (.pointer (some (A i)))) ∧ i < w.heap.size ∧ (∃ c t, w.heap[(A i).block]? = some (.cells c t (0, 0))) ∧ ∀ j, j < 13 → i ≠ j → A i ≠ A j

theorem Errs13.below {w w' : World} {A : Nat → Addr} (h : Errs13 w A) (hb : Below w.heap.size w w') : Errs13 w' A := by
  intro i hi
  obtain ⟨h1, h2, ⟨c, t, h3⟩, h4⟩ := h i hi
  refine ⟨(hb.cell (p := ⟨i, 0, none⟩) h2).trans h1, Nat.lt_of_lt_of_le h2 hb.size, ⟨c, t, ?_⟩, h4⟩
  rw [hb.block _ (Array.getElem?_eq_some_iff.1 h3).1]
  exact h3

theorem infoPtr : (Tryz.prog.info? 173).map (fun i => i.comparable) = some true := by kernel_rfl
theorem infoErr : (Tryz.prog.info? 190).map (fun i => i.size) = some 1 := by kernel_rfl

set_option maxRecDepth 20000 in
theorem alike_same (a : Addr) (w : World) :
    Calls Tryz.prog 65 #[.iface 173 (.pointer (some a)), .iface 173 (.pointer (some a))] w fun e w' => e = .returned (.bool true) ∧ w' = w := by
  obtain ⟨i, hi, hcmp⟩ := Option.map_eq_some_iff.1 infoPtr
  obtain ⟨j, hj, hsz⟩ := Option.map_eq_some_iff.1 infoErr
  go_enter Tryz.func65, Tryz.ntmps65
  go_wp2
  rw [run_eql_iface_ptr_same w a Tryz.underlying34 Tryz.underlying173 hi hcmp hj]
  go_wp2
  go_ret
  exact ⟨rfl, rfl⟩

set_option maxRecDepth 20000 in
theorem alike_other (a b : Addr) (w : World) (ca cb : Array Value) (ta tb : TypeId) (hne : a ≠ b) (ha : w.heap[a.block]? = some (.cells ca ta (0, 0))) (hb : w.heap[b.block]? = some (.cells cb tb (0, 0))) :
    Calls Tryz.prog 65 #[.iface 173 (.pointer (some a)), .iface 173 (.pointer (some b))] w fun e w' => e = .returned (.bool false) ∧ w' = w := by
  obtain ⟨i, hi, hcmp⟩ := Option.map_eq_some_iff.1 infoPtr
  obtain ⟨j, hj, hsz⟩ := Option.map_eq_some_iff.1 infoErr
  have hr := run_eql_iface_ptr_other (P := Tryz.prog) w Tryz.underlying34 Tryz.underlying173 hi hcmp hj (by rw [hsz]; decide) hne ha hb
  go_enter Tryz.func65, Tryz.ntmps65
  go_wp2
  go_ret
  exact ⟨rfl, rfl⟩

/-- The variables' numbers, in the order of the errors' codes. -/
def perm (i : Nat) : Nat := [6, 7, 8, 9, 1, 0, 3, 4, 10, 2, 5, 11, 12].getD i 0

set_option maxRecDepth 20000 in
set_option maxHeartbeats 1000000 in
theorem sentinels_any (A : Nat → Addr) (w : World) (hE : Errs13 w A) :
    Calls Tryz.prog 64 #[] w fun e w' => ∃ g, e = .returned (.slice (some ⟨g, 0, none⟩) 13 13) ∧ (∀ j, j < 13 → w'.cell? ⟨g, j, none⟩ = some (.iface 173 (.pointer (some (A (perm j)))))) ∧ Below w.heap.size w w' := by
  have e0 := (hE 0 (by omega)).1
  have e1 := (hE 1 (by omega)).1
  have e2 := (hE 2 (by omega)).1
  have e3 := (hE 3 (by omega)).1
  have e4 := (hE 4 (by omega)).1
  have e5 := (hE 5 (by omega)).1
  have e6 := (hE 6 (by omega)).1
  have e7 := (hE 7 (by omega)).1
  have e8 := (hE 8 (by omega)).1
  have e9 := (hE 9 (by omega)).1
  have e10 := (hE 10 (by omega)).1
  have e11 := (hE 11 (by omega)).1
  have e12 := (hE 12 (by omega)).1
  clear hE
  go_enter Tryz.func64, Tryz.ntmps64
  go_wp2
  go_ret
  refine ⟨w.heap.size, rfl, ?_, (Below.refl _ _).alloc (Nat.le_refl _) _⟩
  intro j hj
  rw [cell_of_row _ w.heap.size j _ _ _ (heap_alloc_new w _)]
  have : j = 0 ∨ j = 1 ∨ j = 2 ∨ j = 3 ∨ j = 4 ∨ j = 5 ∨ j = 6 ∨ j = 7 ∨ j = 8 ∨ j = 9 ∨ j = 10 ∨ j = 11 ∨ j = 12 := by omega
  rcases this with rfl | rfl | rfl | rfl | rfl | rfl | rfl | rfl | rfl | rfl | rfl | rfl | rfl <;> rfl

theorem perm_lt (i : Nat) (h : i < 13) : perm i < 13 := by
  have : ∀ i : Fin 13, perm i.val < 13 := by decide
  exact this ⟨i, h⟩

theorem perm_ne (i j : Nat) (h : i < 13) (g : j < 13) (n : i ≠ j) : perm i ≠ perm j := by
  have : ∀ i j : Fin 13, i ≠ j → perm i.val ≠ perm j.val := by decide
  exact this ⟨i, h⟩ ⟨j, g⟩ (by simpa using n)

set_option maxRecDepth 20000 in
set_option maxHeartbeats 1000000 in
theorem sentinel_any (A : Nat → Addr) (w : World) (hE : Errs13 w A) (s : Nat) (hs : s < 13) (a : Addr) (ha : A (perm s) = a) :
    Calls Tryz.prog 35 #[.iface 173 (.pointer (some a))] w fun e w' => e = .returned (.int .i64 (101 + (s : Int))) ∧ Below w.heap.size w w' := by
  have HE : Hid (Errs13 w A) := hE
  have HA : Hid (A (perm s) = a) := ha
  have ks : Hid (∀ w, Errs13 w A → Calls Tryz.prog 64 #[] w fun e w' => ∃ g, e = .returned (.slice (some ⟨g, 0, none⟩) 13 13) ∧ Hid (∀ j, j < 13 → w'.cell? ⟨g, j, none⟩ = some (.iface 173 (.pointer (some (A (perm j)))))) ∧ Below w.heap.size w w') := fun w h => sentinels_any A w h
  clear hE ha
  go_enter Tryz.func35, Tryz.ntmps35
  go_wp2_with (go_at_call 64; refine (ks.out _ HE.out).mono ?_; rintro e w1 ⟨g, rfl, hc, hb⟩)
  go_loop [4] (fun i => ∃ k : Nat, k ≤ s ∧ i = .int .i64 k) (fun i => 13 - (intOf i).toNat)
  case atStart => exact ⟨0, Nat.zero_le _, rfl⟩
  case round =>
    obtain ⟨k, hk, rfl⟩ := hrel
    have hk13 : k < 13 := by omega
    have hcell := hc.out k hk13
    have HE1 : Hid (Errs13 w1 A) := HE.out.below hb
    by_cases hks : k = s
    · subst hks
      rw [HA.out] at hcell
      go_wp2_with (go_at_call 65; refine (alike_same _ _).mono ?_; rintro e w2 ⟨rfl, rfl⟩)
      go_ret
      exact ⟨rfl, hb⟩
    · obtain ⟨_, _, ⟨c1, t1, h1⟩, _⟩ := HE1.out (perm k) (perm_lt k hk13)
      obtain ⟨_, _, ⟨c2, t2, h2⟩, _⟩ := HE1.out (perm s) (perm_lt s hs)
      have hne : A (perm s) ≠ A (perm k) := (HE1.out (perm s) (perm_lt s hs)).2.2.2 _ (perm_lt k hk13) (perm_ne _ _ hs hk13 (fun e => hks e.symm))
      rw [HA.out] at h2 hne
      obtain ⟨b, hb'⟩ : ∃ b, A (perm k) = b := ⟨_, rfl⟩
      rw [hb'] at h1 hne hcell
      have KA : Hid (Calls Tryz.prog 65 #[.iface 173 (.pointer (some a)), .iface 173 (.pointer (some b))] w1 fun e w' => e = .returned (.bool false) ∧ w' = w1) := alike_other a b w1 c2 c1 t2 t1 hne h2 h1
      clear h1 h2 hne hb'
      go_wp2_with (go_at_call 65; refine KA.out.mono ?_; rintro e w2 ⟨rfl, rfl⟩)
      go_round
      case rel => exact ⟨k + 1, by omega, by go_num⟩
      case measure => simp [intOf]; omega

theorem bare_any (code : Int) (w : World) :
    Calls Tryz.prog 34 #[.int .i64 code] w fun e w' => e = .returned (.agg #[.int .i64 code, .bool false, .int .i64 0]) ∧ Below w.heap.size w w' := by
  go_enter Tryz.func34, Tryz.ntmps34
  go_wp2
  exact bodyPost_ret (v := .agg #[.int .i64 code, .bool false, .int .i64 0]) (by simp [results, Tryz.results34, go_sem]) rfl ⟨rfl, (by first | exact ((Below.refl _ _).alloc (Nat.le_refl _) _) | exact ((((Below.refl _ _).alloc (Nat.le_refl _) _).setCell (by simp) _).setCell (by simp) _).setCell (by simp) _)⟩

theorem none_any (w : World) :
    Calls Tryz.prog 33 #[] w fun e w' => e = .returned (.agg #[.int .i64 0, .bool false, .int .i64 0]) ∧ Below w.heap.size w w' := by
  go_enter Tryz.func33, Tryz.ntmps33
  go_wp2
  exact bodyPost_ret (v := .agg #[.int .i64 0, .bool false, .int .i64 0]) (by simp [results, Tryz.results33, go_sem]) rfl ⟨rfl, (by first | exact ((Below.refl _ _).alloc (Nat.le_refl _) _) | exact ((((Below.refl _ _).alloc (Nat.le_refl _) _).setCell (by simp) _).setCell (by simp) _).setCell (by simp) _)⟩

theorem same_fault (c p : Int) (b : Bool) (w : World) :
    Calls Tryz.prog 32 #[.agg #[.int .i64 c, .bool b, .int .i64 p], .agg #[.int .i64 c, .bool b, .int .i64 p]] w fun e w' => e = .returned (.bool true) ∧ Below w.heap.size w w' := by
  go_enter Tryz.func32, Tryz.ntmps32
  go_wp2
  go_ret
  exact ⟨rfl, ((Below.refl _ _).alloc (Nat.le_refl _) _).alloc (by simp) _⟩

theorem infoAt : (Tryz.prog.info? 79).map (fun i => i.zero) = some (some (.pointer none)) := by kernel_rfl

theorem assert_no (v : Value) (W : World) : (Instr.typeAssert (.iface 173 v) 34 79 true).run Tryz.prog W = .ok (.tuple #[.pointer none, .bool false]) W := by
  obtain ⟨i, hi, hz⟩ := Option.map_eq_some_iff.1 infoAt
  simp [Instr.typeAssert, run_underlying Tryz.underlying79, zeroValue, typeInfo, go_sem, hi, hz]

set_option maxRecDepth 20000 in
set_option maxHeartbeats 1000000 in
theorem fault_bare (A : Nat → Addr) (w : World) (hE : Errs13 w A) (s : Nat) (hs : s < 13) (a : Addr) (ha : A (perm s) = a) :
    Calls Tryz.prog 14 #[.iface 173 (.pointer (some a))] w fun e w' => e = .returned (.agg #[.int .i64 (101 + (s : Int)), .bool false, .int .i64 0]) ∧ Below w.heap.size w w' := by
  have KS : Hid (∀ W, Below w.heap.size w W → Calls Tryz.prog 35 #[.iface 173 (.pointer (some a))] W fun e w' => e = .returned (.int .i64 (101 + (s : Int))) ∧ Below W.heap.size W w') := fun W hb => sentinel_any A W (hE.below hb) s hs a ha
  clear hE ha
  have hta := fun W => assert_no (.pointer (some a)) W
  go_enter Tryz.func14, Tryz.ntmps14
  go_wp2_with (first
    | (go_at_call 35; refine (KS.out _ ((Below.refl _ _).alloc (Nat.le_refl _) _)).mono ?_; rintro e w1 ⟨rfl, hb1⟩; obtain ⟨hc1, hf1⟩ := bcell hb1; have hz1 : w.heap.size < w1.heap.size := by { have := hb1.size; simp at this; omega })
    | (go_at_call 34; refine (bare_any _ w1).mono ?_; rintro e w2 ⟨rfl, hb2⟩; obtain ⟨hc2, hf2⟩ := bcell hb2))
  refine bodyPost_ret (v := .agg #[.int .i64 (101 + (s : Int)), .bool false, .int .i64 0]) (by simp [results, Tryz.results14, go_sem, hc1, hc2, hz1]) rfl ⟨rfl, ?_⟩
  have B1 : Below w.heap.size w w1 := ((Below.refl _ _).alloc (Nat.le_refl _) _).trans (hb1.mono (by simp))
  have B2 : Below w.heap.size w w2 := B1.trans (hb2.mono (by omega))
  exact ((B2.setCell (Nat.le_refl _) _).setCell (Nat.le_refl _) _).setCell (Nat.le_refl _) _

set_option maxRecDepth 20000 in
set_option maxHeartbeats 1000000 in
theorem fault_nil (w : World) :
    Calls Tryz.prog 14 #[.nilIface] w fun e w' => e = .returned (.agg #[.int .i64 0, .bool false, .int .i64 0]) ∧ Below w.heap.size w w' := by
  go_enter Tryz.func14, Tryz.ntmps14
  go_wp2_with (go_at_call 33; refine (none_any _).mono ?_; rintro e w1 ⟨rfl, hb1⟩; obtain ⟨hc1, hf1⟩ := bcell hb1; have hz1 : w.heap.size < w1.heap.size := by { have := hb1.size; simp at this; omega })
  refine bodyPost_ret (v := .agg #[.int .i64 0, .bool false, .int .i64 0]) (by simp [results, Tryz.results14, go_sem, hc1]) rfl ⟨rfl, ?_⟩
  have B1 : Below w.heap.size w w1 := ((Below.refl _ _).alloc (Nat.le_refl _) _).trans (hb1.mono (by simp))
  exact ((B1.setCell (Nat.le_refl _) _).setCell (Nat.le_refl _) _).setCell (Nat.le_refl _) _

set_option maxRecDepth 20000 in
set_option maxHeartbeats 1000000 in
/-- An error is the fault that it is seen as. -/
theorem same_bare (x : Value) (c p : Int) (b : Bool) (w : World) (hx : ∀ W, Below w.heap.size w W → Calls Tryz.prog 14 #[x] W fun e w' => e = .returned (.agg #[.int .i64 c, .bool b, .int .i64 p]) ∧ Below W.heap.size W w') :
    Calls Tryz.prog 12 #[x, .agg #[.int .i64 c, .bool b, .int .i64 p]] w fun e w' => e = .returned (.bool true) ∧ Below w.heap.size w w' := by
  have KF : Hid (∀ W, Below w.heap.size w W → Calls Tryz.prog 14 #[x] W fun e w' => e = .returned (.agg #[.int .i64 c, .bool b, .int .i64 p]) ∧ Below W.heap.size W w') := hx
  clear hx
  go_enter Tryz.func12, Tryz.ntmps12
  go_wp2
  go_region_with (first
    | (go_at_call 14; refine (KF.out _ (by first | exact (Below.refl _ _).alloc (Nat.le_refl _) _ | exact ((Below.refl _ _).alloc (Nat.le_refl _) _).drew)).mono ?_; rintro e w1 ⟨rfl, hb1⟩; obtain ⟨hc1, hf1⟩ := bcell hb1; have hz1 : w.heap.size < w1.heap.size := by { have := hb1.size; simp at this; omega })
    | (go_at_call 32; refine (same_fault _ _ _ _).mono ?_; rintro e w2 ⟨rfl, hb2⟩))
  all_goals go_wp2
  all_goals
    go_ret
    have B1 : Below w.heap.size w w1 := (((Below.refl _ _).alloc (Nat.le_refl _) _).drew).trans (hb1.mono (by simp))
    exact ⟨rfl, B1.trans (hb2.mono (by omega))⟩

end Go.Proofs.YtcnlkdoifogkbaaGreatDoor

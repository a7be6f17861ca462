/-
  The document's word at a place: walked over the document's text.
-/
import Derived.Test.YtbniikaebkmbhaaDoorWordRef2
namespace Go.Proofs.YtbniikaebkmbhaaDoor
open Go.RowKit

/-- A word as the document's text hands it out. -/
def RWPost (w : World) (r : WP.W) (e : Ending) (w' : World) : Prop := e = .returned (.agg #[.int .i64 (r.1 : Nat), .int .i64 (r.2.1 : Nat), .string ⟨r.2.2.toArray⟩]) ∧ Below w.heap.size w w'

set_option maxRecDepth 20000 in
set_option maxHeartbeats 2000000 in
theorem rword_small (s : ByteArray) (p N : Nat) (R : WP.W) (c : UInt8) (w : World) (hp : p < s.size) (hc : ∀ h, s[p]'h = c) (hs : s.size ≤ 1000000) (h1 : WP.small c = true) (hN : WP.count WP.nsign (s.data.toList.drop p) = N)
    (hR : R = if 24 < N then (0, 0, []) else if WP.reserved ((s.data.toList.drop p).take N) then (2, p, (s.data.toList.drop p).take N) else (1, p, (s.data.toList.drop p).take N)) :
    Calls Tryd.prog 22 #[.string s, .int .i64 p] w (RWPost w R) := by
  have k1 := hid'' (fun W => rlow_any c W)
  rw [h1] at k1
  have ki := hid'' (fun c W => rinner_any c W)
  have HN := hid'' hN
  have HR := hid'' hR
  clear hN hR h1
  go_enter Tryd.func22, Tryd.ntmps22
  go_wp2_with (go_at_call 26; refine (k1.out _).mono ?_; rintro e w1 ⟨rfl, rfl⟩)
  go_loop [6] (fun i => ∃ m : Nat, i = .int .i64 ((p + m : Nat) : Int) ∧ p + m ≤ s.size ∧ Hid (N = m + WP.count WP.nsign (s.data.toList.drop (p + m)))) (fun i => s.size - (intOf i).toNat)
  case atStart => exact ⟨0, rfl, by omega, by rw [Nat.add_zero, Nat.zero_add]; exact HN.out.symm⟩
  case round =>
    obtain ⟨m, rfl, hm, HM0⟩ := hrel
    obtain ⟨kk, hkk⟩ : ∃ kk, p + m = kk := ⟨_, rfl⟩
    rw [hkk] at hm HM0 ⊢
    have HK := hid'' hkk
    have hkm : (kk : Int) - (p : Int) = (m : Int) := by omega
    cases hl : s.data.toList.drop kk with
    | nil =>
      have h0 := drop_nil s kk hl
      have hks : ¬ ((kk : Int) < (s.size : Int)) := by omega
      have HM : Hid (N = m) := by show _ = _; rw [HM0.out, hl]; rfl
      clear hl h0 HM0
      by_cases h24 : 24 < m
      · have HX : Hid (R = (0, 0, [])) := by show _ = _; rw [HR.out, HM.out, if_pos h24]
        have h24i : (24 : Int) < (m : Int) := by omega
        clear h24
        go_wp2
        refine bodyPost_ret (v := .agg #[.int .i64 0, .int .i64 0, .string ⟨#[]⟩]) (by simp [results, Tryd.results22, go_sem]) rfl ?_
        rw [HX.out]
        exact ⟨rfl, by first | exact (((Below.refl _ _).alloc (Nat.le_refl _) _)) | exact ((((Below.refl _ _).alloc (Nat.le_refl _) _).setCell (Nat.le_refl _) _).setCell (Nat.le_refl _) _).setCell (Nat.le_refl _) _⟩
      · have h24i : ¬ ((24 : Int) < (m : Int)) := by omega
        have kr : Hid (∀ W, Calls Tryd.prog 27 #[.string (s.extract p kk)] W fun e w' => e = .returned (.bool (WP.reserved ((s.data.toList.drop p).take m))) ∧ Below W.heap.size W w') := fun W => by have h := rreserved_any (s.extract p kk) W; rw [Lib.extract_data, show kk - p = m by omega] at h; exact h
        have HT : Hid (s.extract p kk = ⟨((s.data.toList.drop p).take m).toArray⟩) := by show _ = _; rw [Lib.extract_eq, show kk - p = m by omega]
        have HX : Hid (R = if WP.reserved ((s.data.toList.drop p).take m) then (2, p, (s.data.toList.drop p).take m) else (1, p, (s.data.toList.drop p).take m)) := by show _ = _; rw [HR.out, HM.out, if_neg h24]
        obtain ⟨V, hV⟩ : ∃ V, WP.reserved ((s.data.toList.drop p).take m) = V := ⟨_, rfl⟩
        rw [hV] at kr HX
        clear h24 hV
        cases V
        all_goals
          go_wp2_with ((go_at_call 27; refine (kr.out _).mono ?_; rintro e w2 ⟨rfl, hb2⟩; obtain ⟨hc2, hf2⟩ := bcell hb2; have hz2 : w.heap.size < w2.heap.size := by { have := hb2.size; simp at this; omega }; have HB2 : Hid (Below w.heap.size w w2) := ((Below.refl _ _).alloc (Nat.le_refl _) _).trans (hb2.mono (by simp)); clear hb2))
        · refine bodyPost_ret (v := .agg #[.int .i64 1, .int .i64 p, .string (s.extract p kk)]) (by simp [results, Tryd.results22, go_sem, hc2]) rfl ?_
          rw [HX.out]
          exact ⟨by rw [HT.out]; rfl, ((HB2.out.setCell (Nat.le_refl _) _).setCell (Nat.le_refl _) _).setCell (Nat.le_refl _) _⟩
        · refine bodyPost_ret (v := .agg #[.int .i64 2, .int .i64 p, .string (s.extract p kk)]) (by simp [results, Tryd.results22, go_sem, hc2]) rfl ?_
          rw [HX.out]
          exact ⟨by rw [HT.out]; rfl, ((HB2.out.setCell (Nat.le_refl _) _).setCell (Nat.le_refl _) _).setCell (Nat.le_refl _) _⟩
    | cons c2 t2 =>
      obtain ⟨hlt, hcc, -⟩ := at_drop s kk c2 t2 hl
      have hks : (kk : Int) < (s.size : Int) := by omega
      have kt := hid'' (fun W => ki.out c2 W)
      obtain ⟨B, hB⟩ : ∃ B, WP.nsign c2 = B := ⟨_, rfl⟩
      rw [hB] at kt
      cases B with
      | true =>
        have HM : Hid (N = m + 1 + WP.count WP.nsign (s.data.toList.drop (kk + 1))) := by show _ = _; rw [HM0.out, WP.count_more WP.nsign _ kk c2 t2 hl hB]; omega
        clear hl hB HM0
        go_wp2_with (go_at_call 28; refine (kt.out _).mono ?_; rintro e w1 ⟨rfl, rfl⟩)
        go_round
        case rel => exact ⟨m + 1, by rw [← HK.out]; go_num, by omega, by rw [← Nat.add_assoc, HK.out]; exact HM⟩
        case measure => simp [intOf]; omega
      | false =>
        have HM : Hid (N = m) := by show _ = _; rw [HM0.out, hl]; simp [WP.count, hB]
        clear hl hB HM0
        by_cases h24 : 24 < m
        · have HX : Hid (R = (0, 0, [])) := by show _ = _; rw [HR.out, HM.out, if_pos h24]
          have h24i : (24 : Int) < (m : Int) := by omega
          clear h24
          go_wp2_with (go_at_call 28; refine (kt.out _).mono ?_; rintro e w1 ⟨rfl, rfl⟩)
          refine bodyPost_ret (v := .agg #[.int .i64 0, .int .i64 0, .string ⟨#[]⟩]) (by simp [results, Tryd.results22, go_sem]) rfl ?_
          rw [HX.out]
          exact ⟨rfl, by first | exact (((Below.refl _ _).alloc (Nat.le_refl _) _)) | exact ((((Below.refl _ _).alloc (Nat.le_refl _) _).setCell (Nat.le_refl _) _).setCell (Nat.le_refl _) _).setCell (Nat.le_refl _) _⟩
        · have h24i : ¬ ((24 : Int) < (m : Int)) := by omega
          have kr : Hid (∀ W, Calls Tryd.prog 27 #[.string (s.extract p kk)] W fun e w' => e = .returned (.bool (WP.reserved ((s.data.toList.drop p).take m))) ∧ Below W.heap.size W w') := fun W => by have h := rreserved_any (s.extract p kk) W; rw [Lib.extract_data, show kk - p = m by omega] at h; exact h
          have HT : Hid (s.extract p kk = ⟨((s.data.toList.drop p).take m).toArray⟩) := by show _ = _; rw [Lib.extract_eq, show kk - p = m by omega]
          have HX : Hid (R = if WP.reserved ((s.data.toList.drop p).take m) then (2, p, (s.data.toList.drop p).take m) else (1, p, (s.data.toList.drop p).take m)) := by show _ = _; rw [HR.out, HM.out, if_neg h24]
          obtain ⟨V, hV⟩ : ∃ V, WP.reserved ((s.data.toList.drop p).take m) = V := ⟨_, rfl⟩
          rw [hV] at kr HX
          clear h24 hV
          cases V
          all_goals
            go_wp2_with (first
          | (go_at_call 28; refine (kt.out _).mono ?_; rintro e w1 ⟨rfl, rfl⟩)
          | (go_at_call 27; refine (kr.out _).mono ?_; rintro e w2 ⟨rfl, hb2⟩; obtain ⟨hc2, hf2⟩ := bcell hb2; have hz2 : w.heap.size < w2.heap.size := by { have := hb2.size; simp at this; omega }; have HB2 : Hid (Below w.heap.size w w2) := ((Below.refl _ _).alloc (Nat.le_refl _) _).trans (hb2.mono (by simp)); clear hb2))
          · refine bodyPost_ret (v := .agg #[.int .i64 1, .int .i64 p, .string (s.extract p kk)]) (by simp [results, Tryd.results22, go_sem, hc2]) rfl ?_
            rw [HX.out]
            exact ⟨by rw [HT.out]; rfl, ((HB2.out.setCell (Nat.le_refl _) _).setCell (Nat.le_refl _) _).setCell (Nat.le_refl _) _⟩
          · refine bodyPost_ret (v := .agg #[.int .i64 2, .int .i64 p, .string (s.extract p kk)]) (by simp [results, Tryd.results22, go_sem, hc2]) rfl ?_
            rw [HX.out]
            exact ⟨by rw [HT.out]; rfl, ((HB2.out.setCell (Nat.le_refl _) _).setCell (Nat.le_refl _) _).setCell (Nat.le_refl _) _⟩

end Go.Proofs.YtbniikaebkmbhaaDoor

/-
  The document's word at a place: numbers, colors, marks, steps: walked over the document's text.
-/
import Derived.Test.YtbniikaebkmbhaaDoorWordRef3
namespace Go.Proofs.YtbniikaebkmbhaaDoor
open Go.RowKit

set_option maxRecDepth 20000 in
set_option maxHeartbeats 2000000 in
theorem rword_num (s : ByteArray) (p E : Nat) (R : WP.W) (c : UInt8) (w : World) (hp : p < s.size) (hc : ∀ h, s[p]'h = c) (hs : s.size ≤ 1000000) (h1 : WP.small c = false) (h45 : ((c.toNat : Int) == 45) = true ∨ (((c.toNat : Int) == 45) = false ∧ WP.digit c = true)) (hE : WP.numEnd (s.data.toList.drop p) = E) (hEl : p + E ≤ s.size)
    (hR : R = if E = 0 ∨ WP.glued ((s.data.toList.drop p).drop E) = true then (0, 0, []) else (3, p, (s.data.toList.drop p).take E)) :
    Calls Tryd.prog 22 #[.string s, .int .i64 p] w (RWPost w R) := by
  have k1 := hid'' (fun W => rlow_any c W)
  rw [h1] at k1
  have k2 := hid'' (fun W => rdigit_any c W)
  have kn := hid'' (fun W => numeral_any s p W hp hs)
  rw [hE] at kn
  obtain ⟨kk, hkk⟩ : ∃ kk, p + E = kk := ⟨_, rfl⟩
  rw [hkk] at kn hEl
  have kf := hid'' (fun W => follows_any s kk W hEl)
  rw [List.drop_drop, hkk] at hR
  obtain ⟨G, hG⟩ : ∃ G, WP.glued (s.data.toList.drop kk) = G := ⟨_, rfl⟩
  rw [hG] at kf hR
  have HR := hid'' hR
  have HT : Hid (s.extract p kk = ⟨((s.data.toList.drop p).take E).toArray⟩) := by show _ = _; rw [Lib.extract_eq, show kk - p = E by omega]
  obtain ⟨D, hD⟩ : ∃ D, WP.digit c = D := ⟨_, rfl⟩
  rw [hD] at k2 h45
  clear hR hG h1 hE hD
  by_cases h0 : E = 0
  · have HX : Hid (R = (0, 0, [])) := by show _ = _; rw [HR.out, if_pos (.inl h0)]
    have hkp : kk = p := by omega
    subst hkp
    clear hkk h0 HR HT
    rcases h45 with h | ⟨h, rfl⟩
    all_goals
      go_enter Tryd.func22, Tryd.ntmps22
      go_wp2_with (first | (go_at_call 26; refine (k1.out _).mono ?_; rintro e w1 ⟨rfl, rfl⟩) | (go_at_call 45; refine (k2.out _).mono ?_; rintro e w1 ⟨rfl, rfl⟩) | (go_at_call 46; refine (kn.out _).mono ?_; rintro e w1 ⟨rfl, rfl⟩) | (go_at_call 47; refine (kf.out _).mono ?_; rintro e w1 ⟨rfl, rfl⟩))
      refine bodyPost_ret (v := .agg #[.int .i64 0, .int .i64 0, .string ⟨#[]⟩]) (by simp [results, Tryd.results22, go_sem]) rfl ?_
      rw [HX.out]
      exact ⟨rfl, by first | exact ((Below.refl _ _).alloc (Nat.le_refl _) _) | exact ((((Below.refl _ _).alloc (Nat.le_refl _) _).setCell (Nat.le_refl _) _).setCell (Nat.le_refl _) _).setCell (Nat.le_refl _) _⟩
  · have hkp : ((kk : Int) == (p : Int)) = false := by simp; omega
    have hk1 : (0 : Int) ≤ (p : Int) := by omega
    cases G with
    | true =>
      have HX : Hid (R = (0, 0, [])) := by show _ = _; rw [HR.out, if_pos (.inr rfl)]
      clear hkk h0 HR HT
      rcases h45 with h | ⟨h, rfl⟩
      all_goals
        go_enter Tryd.func22, Tryd.ntmps22
        go_wp2_with (first | (go_at_call 26; refine (k1.out _).mono ?_; rintro e w1 ⟨rfl, rfl⟩) | (go_at_call 45; refine (k2.out _).mono ?_; rintro e w1 ⟨rfl, rfl⟩) | (go_at_call 46; refine (kn.out _).mono ?_; rintro e w1 ⟨rfl, rfl⟩) | (go_at_call 47; refine (kf.out _).mono ?_; rintro e w1 ⟨rfl, rfl⟩))
        refine bodyPost_ret (v := .agg #[.int .i64 0, .int .i64 0, .string ⟨#[]⟩]) (by simp [results, Tryd.results22, go_sem]) rfl ?_
        rw [HX.out]
        exact ⟨rfl, by first | exact ((Below.refl _ _).alloc (Nat.le_refl _) _) | exact ((((Below.refl _ _).alloc (Nat.le_refl _) _).setCell (Nat.le_refl _) _).setCell (Nat.le_refl _) _).setCell (Nat.le_refl _) _⟩
    | false =>
      have HX : Hid (R = (3, p, (s.data.toList.drop p).take E)) := by show _ = _; rw [HR.out, if_neg (by simp; exact h0)]
      have hpk : p ≤ kk := by omega
      clear hkk h0 HR
      rcases h45 with h | ⟨h, rfl⟩
      all_goals
        go_enter Tryd.func22, Tryd.ntmps22
        go_wp2_with (first | (go_at_call 26; refine (k1.out _).mono ?_; rintro e w1 ⟨rfl, rfl⟩) | (go_at_call 45; refine (k2.out _).mono ?_; rintro e w1 ⟨rfl, rfl⟩) | (go_at_call 46; refine (kn.out _).mono ?_; rintro e w1 ⟨rfl, rfl⟩) | (go_at_call 47; refine (kf.out _).mono ?_; rintro e w1 ⟨rfl, rfl⟩))
        refine bodyPost_ret (v := .agg #[.int .i64 3, .int .i64 p, .string (s.extract p kk)]) (by simp [results, Tryd.results22, go_sem]) rfl ?_
        rw [HX.out]
        exact ⟨by rw [HT.out]; rfl, by first | exact ((Below.refl _ _).alloc (Nat.le_refl _) _) | exact ((((Below.refl _ _).alloc (Nat.le_refl _) _).setCell (Nat.le_refl _) _).setCell (Nat.le_refl _) _).setCell (Nat.le_refl _) _⟩

set_option maxRecDepth 20000 in
set_option maxHeartbeats 2000000 in
theorem rword_mark123 (s : ByteArray) (p : Nat) (R : WP.W) (c : UInt8) (w : World) (hp : p < s.size) (hc : ∀ h, s[p]'h = c) (hs : s.size ≤ 1000000) (hn : c.toNat = 123) (hR : R = (5, p, (s.data.toList.drop p).take 1)) :
    Calls Tryd.prog 22 #[.string s, .int .i64 p] w (RWPost w R) := by
  have HX := hid'' hR
  have HT : Hid (s.extract p (p + 1) = ⟨((s.data.toList.drop p).take 1).toArray⟩) := by show _ = _; rw [Lib.extract_eq, Nat.add_sub_cancel_left]
  have k1 := hid'' (fun W => rlow_any c W)
  rw [show WP.small c = false by unfold WP.small; rw [hn]; rfl] at k1
  have k2 := hid'' (fun W => rdigit_any c W)
  rw [show WP.digit c = false by unfold WP.digit; rw [hn]; rfl] at k2
  have d45 : ((c.toNat : Int) == 45) = false := by rw [hn]; rfl
  have d35 : ((c.toNat : Int) == 35) = false := by rw [hn]; rfl
  have e123 : ((c.toNat : Int) == 123) = true := by rw [hn]; rfl
  have e125 : ((c.toNat : Int) == 125) = false := by rw [hn]; rfl
  have e59 : ((c.toNat : Int) == 59) = false := by rw [hn]; rfl
  have e61 : ((c.toNat : Int) == 61) = false := by rw [hn]; rfl
  clear hR hn
  go_enter Tryd.func22, Tryd.ntmps22
  go_wp2_with (first | (go_at_call 26; refine (k1.out _).mono ?_; rintro e w1 ⟨rfl, rfl⟩) | (go_at_call 45; refine (k2.out _).mono ?_; rintro e w1 ⟨rfl, rfl⟩))
  refine bodyPost_ret (v := .agg #[.int .i64 5, .int .i64 p, .string (s.extract p (p + 1))]) (by simp [results, Tryd.results22, go_sem]) rfl ?_
  rw [HX.out]
  exact ⟨by rw [HT.out]; rfl, by first | exact ((Below.refl _ _).alloc (Nat.le_refl _) _) | exact ((((Below.refl _ _).alloc (Nat.le_refl _) _).setCell (Nat.le_refl _) _).setCell (Nat.le_refl _) _).setCell (Nat.le_refl _) _⟩

set_option maxRecDepth 20000 in
set_option maxHeartbeats 2000000 in
theorem rword_mark125 (s : ByteArray) (p : Nat) (R : WP.W) (c : UInt8) (w : World) (hp : p < s.size) (hc : ∀ h, s[p]'h = c) (hs : s.size ≤ 1000000) (hn : c.toNat = 125) (hR : R = (5, p, (s.data.toList.drop p).take 1)) :
    Calls Tryd.prog 22 #[.string s, .int .i64 p] w (RWPost w R) := by
  have HX := hid'' hR
  have HT : Hid (s.extract p (p + 1) = ⟨((s.data.toList.drop p).take 1).toArray⟩) := by show _ = _; rw [Lib.extract_eq, Nat.add_sub_cancel_left]
  have k1 := hid'' (fun W => rlow_any c W)
  rw [show WP.small c = false by unfold WP.small; rw [hn]; rfl] at k1
  have k2 := hid'' (fun W => rdigit_any c W)
  rw [show WP.digit c = false by unfold WP.digit; rw [hn]; rfl] at k2
  have d45 : ((c.toNat : Int) == 45) = false := by rw [hn]; rfl
  have d35 : ((c.toNat : Int) == 35) = false := by rw [hn]; rfl
  have e123 : ((c.toNat : Int) == 123) = false := by rw [hn]; rfl
  have e125 : ((c.toNat : Int) == 125) = true := by rw [hn]; rfl
  have e59 : ((c.toNat : Int) == 59) = false := by rw [hn]; rfl
  have e61 : ((c.toNat : Int) == 61) = false := by rw [hn]; rfl
  clear hR hn
  go_enter Tryd.func22, Tryd.ntmps22
  go_wp2_with (first | (go_at_call 26; refine (k1.out _).mono ?_; rintro e w1 ⟨rfl, rfl⟩) | (go_at_call 45; refine (k2.out _).mono ?_; rintro e w1 ⟨rfl, rfl⟩))
  refine bodyPost_ret (v := .agg #[.int .i64 5, .int .i64 p, .string (s.extract p (p + 1))]) (by simp [results, Tryd.results22, go_sem]) rfl ?_
  rw [HX.out]
  exact ⟨by rw [HT.out]; rfl, by first | exact ((Below.refl _ _).alloc (Nat.le_refl _) _) | exact ((((Below.refl _ _).alloc (Nat.le_refl _) _).setCell (Nat.le_refl _) _).setCell (Nat.le_refl _) _).setCell (Nat.le_refl _) _⟩

set_option maxRecDepth 20000 in
set_option maxHeartbeats 2000000 in
theorem rword_mark59 (s : ByteArray) (p : Nat) (R : WP.W) (c : UInt8) (w : World) (hp : p < s.size) (hc : ∀ h, s[p]'h = c) (hs : s.size ≤ 1000000) (hn : c.toNat = 59) (hR : R = (5, p, (s.data.toList.drop p).take 1)) :
    Calls Tryd.prog 22 #[.string s, .int .i64 p] w (RWPost w R) := by
  have HX := hid'' hR
  have HT : Hid (s.extract p (p + 1) = ⟨((s.data.toList.drop p).take 1).toArray⟩) := by show _ = _; rw [Lib.extract_eq, Nat.add_sub_cancel_left]
  have k1 := hid'' (fun W => rlow_any c W)
  rw [show WP.small c = false by unfold WP.small; rw [hn]; rfl] at k1
  have k2 := hid'' (fun W => rdigit_any c W)
  rw [show WP.digit c = false by unfold WP.digit; rw [hn]; rfl] at k2
  have d45 : ((c.toNat : Int) == 45) = false := by rw [hn]; rfl
  have d35 : ((c.toNat : Int) == 35) = false := by rw [hn]; rfl
  have e123 : ((c.toNat : Int) == 123) = false := by rw [hn]; rfl
  have e125 : ((c.toNat : Int) == 125) = false := by rw [hn]; rfl
  have e59 : ((c.toNat : Int) == 59) = true := by rw [hn]; rfl
  have e61 : ((c.toNat : Int) == 61) = false := by rw [hn]; rfl
  clear hR hn
  go_enter Tryd.func22, Tryd.ntmps22
  go_wp2_with (first | (go_at_call 26; refine (k1.out _).mono ?_; rintro e w1 ⟨rfl, rfl⟩) | (go_at_call 45; refine (k2.out _).mono ?_; rintro e w1 ⟨rfl, rfl⟩))
  refine bodyPost_ret (v := .agg #[.int .i64 5, .int .i64 p, .string (s.extract p (p + 1))]) (by simp [results, Tryd.results22, go_sem]) rfl ?_
  rw [HX.out]
  exact ⟨by rw [HT.out]; rfl, by first | exact ((Below.refl _ _).alloc (Nat.le_refl _) _) | exact ((((Below.refl _ _).alloc (Nat.le_refl _) _).setCell (Nat.le_refl _) _).setCell (Nat.le_refl _) _).setCell (Nat.le_refl _) _⟩

set_option maxRecDepth 20000 in
set_option maxHeartbeats 2000000 in
theorem rword_mark61 (s : ByteArray) (p : Nat) (R : WP.W) (c : UInt8) (w : World) (hp : p < s.size) (hc : ∀ h, s[p]'h = c) (hs : s.size ≤ 1000000) (hn : c.toNat = 61) (hR : R = (5, p, (s.data.toList.drop p).take 1)) :
    Calls Tryd.prog 22 #[.string s, .int .i64 p] w (RWPost w R) := by
  have HX := hid'' hR
  have HT : Hid (s.extract p (p + 1) = ⟨((s.data.toList.drop p).take 1).toArray⟩) := by show _ = _; rw [Lib.extract_eq, Nat.add_sub_cancel_left]
  have k1 := hid'' (fun W => rlow_any c W)
  rw [show WP.small c = false by unfold WP.small; rw [hn]; rfl] at k1
  have k2 := hid'' (fun W => rdigit_any c W)
  rw [show WP.digit c = false by unfold WP.digit; rw [hn]; rfl] at k2
  have d45 : ((c.toNat : Int) == 45) = false := by rw [hn]; rfl
  have d35 : ((c.toNat : Int) == 35) = false := by rw [hn]; rfl
  have e123 : ((c.toNat : Int) == 123) = false := by rw [hn]; rfl
  have e125 : ((c.toNat : Int) == 125) = false := by rw [hn]; rfl
  have e59 : ((c.toNat : Int) == 59) = false := by rw [hn]; rfl
  have e61 : ((c.toNat : Int) == 61) = true := by rw [hn]; rfl
  clear hR hn
  go_enter Tryd.func22, Tryd.ntmps22
  go_wp2_with (first | (go_at_call 26; refine (k1.out _).mono ?_; rintro e w1 ⟨rfl, rfl⟩) | (go_at_call 45; refine (k2.out _).mono ?_; rintro e w1 ⟨rfl, rfl⟩))
  refine bodyPost_ret (v := .agg #[.int .i64 5, .int .i64 p, .string (s.extract p (p + 1))]) (by simp [results, Tryd.results22, go_sem]) rfl ?_
  rw [HX.out]
  exact ⟨by rw [HT.out]; rfl, by first | exact ((Below.refl _ _).alloc (Nat.le_refl _) _) | exact ((((Below.refl _ _).alloc (Nat.le_refl _) _).setCell (Nat.le_refl _) _).setCell (Nat.le_refl _) _).setCell (Nat.le_refl _) _⟩

set_option maxRecDepth 20000 in
set_option maxHeartbeats 2000000 in
theorem rword_step77 (s : ByteArray) (p : Nat) (R : WP.W) (c : UInt8) (w : World) (hp : p < s.size) (hc : ∀ h, s[p]'h = c) (hs : s.size ≤ 1000000) (hn : c.toNat = 77) (hR : R = if WP.begins WP.sign (s.data.toList.drop (p + 1)) then (0, 0, []) else (6, p, (s.data.toList.drop p).take 1)) :
    Calls Tryd.prog 22 #[.string s, .int .i64 p] w (RWPost w R) := by
  have HT : Hid (s.extract p (p + 1) = ⟨((s.data.toList.drop p).take 1).toArray⟩) := by show _ = _; rw [Lib.extract_eq, Nat.add_sub_cancel_left]
  have k1 := hid'' (fun W => rlow_any c W)
  rw [show WP.small c = false by unfold WP.small; rw [hn]; rfl] at k1
  have k2 := hid'' (fun W => rdigit_any c W)
  rw [show WP.digit c = false by unfold WP.digit; rw [hn]; rfl] at k2
  have d45 : ((c.toNat : Int) == 45) = false := by rw [hn]; rfl
  have d35 : ((c.toNat : Int) == 35) = false := by rw [hn]; rfl
  have e123 : ((c.toNat : Int) == 123) = false := by rw [hn]; rfl
  have e125 : ((c.toNat : Int) == 125) = false := by rw [hn]; rfl
  have e59 : ((c.toNat : Int) == 59) = false := by rw [hn]; rfl
  have e61 : ((c.toNat : Int) == 61) = false := by rw [hn]; rfl
  have e77 : ((c.toNat : Int) == 77) = true := by rw [hn]; rfl
  have e76 : ((c.toNat : Int) == 76) = false := by rw [hn]; rfl
  have e81 : ((c.toNat : Int) == 81) = false := by rw [hn]; rfl
  have e67 : ((c.toNat : Int) == 67) = false := by rw [hn]; rfl
  have e65 : ((c.toNat : Int) == 65) = false := by rw [hn]; rfl
  have e66 : ((c.toNat : Int) == 66) = false := by rw [hn]; rfl
  have e90 : ((c.toNat : Int) == 90) = false := by rw [hn]; rfl
  clear hn
  cases hl : s.data.toList.drop (p + 1) with
  | nil =>
    have h0 := drop_nil s (p + 1) hl
    have HX : Hid (R = (6, p, (s.data.toList.drop p).take 1)) := by show _ = _; rw [hR, hl]; rfl
    have hlt : ¬ ((p : Int) + 1 < (s.size : Int)) := by omega
    clear hR hl h0
    go_enter Tryd.func22, Tryd.ntmps22
    go_wp2_with (first | (go_at_call 26; refine (k1.out _).mono ?_; rintro e w1 ⟨rfl, rfl⟩) | (go_at_call 45; refine (k2.out _).mono ?_; rintro e w1 ⟨rfl, rfl⟩))
    refine bodyPost_ret (v := .agg #[.int .i64 6, .int .i64 p, .string (s.extract p (p + 1))]) (by simp [results, Tryd.results22, go_sem]) rfl ?_
    rw [HX.out]
    exact ⟨by rw [HT.out]; rfl, by first | exact ((Below.refl _ _).alloc (Nat.le_refl _) _) | exact ((((Below.refl _ _).alloc (Nat.le_refl _) _).setCell (Nat.le_refl _) _).setCell (Nat.le_refl _) _).setCell (Nat.le_refl _) _⟩
  | cons c2 t2 =>
    obtain ⟨hlt, hcc, -⟩ := at_drop s (p + 1) c2 t2 hl
    rw [hl] at hR
    have HR : Hid (R = if (WP.nsign c2 || WP.great c2) = true then (0, 0, []) else (6, p, (s.data.toList.drop p).take 1)) := hR
    have kt := hid'' (fun W => rinner_any c2 W)
    have kg := hid'' (fun W => rgreat_any c2 W)
    obtain ⟨S, hS⟩ : ∃ S, WP.nsign c2 = S := ⟨_, rfl⟩
    obtain ⟨G, hG⟩ : ∃ G, WP.great c2 = G := ⟨_, rfl⟩
    rw [hS] at HR kt
    rw [hG] at HR kg
    have hlti : (p : Int) + 1 < (s.size : Int) := by omega
    clear hR hl hS hG
    cases S <;> cases G
    · have HX : Hid (R = (6, p, (s.data.toList.drop p).take 1)) := HR.out
      go_enter Tryd.func22, Tryd.ntmps22
      go_wp2_with (first | (go_at_call 26; refine (k1.out _).mono ?_; rintro e w1 ⟨rfl, rfl⟩) | (go_at_call 45; refine (k2.out _).mono ?_; rintro e w1 ⟨rfl, rfl⟩) | (go_at_call 28; refine (kt.out _).mono ?_; rintro e w1 ⟨rfl, rfl⟩) | (go_at_call 48; refine (kg.out _).mono ?_; rintro e w1 ⟨rfl, rfl⟩))
      refine bodyPost_ret (v := .agg #[.int .i64 6, .int .i64 p, .string (s.extract p (p + 1))]) (by simp [results, Tryd.results22, go_sem]) rfl ?_
      rw [HX.out]
      exact ⟨by rw [HT.out]; rfl, by first | exact ((Below.refl _ _).alloc (Nat.le_refl _) _) | exact ((((Below.refl _ _).alloc (Nat.le_refl _) _).setCell (Nat.le_refl _) _).setCell (Nat.le_refl _) _).setCell (Nat.le_refl _) _⟩
    all_goals
      have HX : Hid (R = (0, 0, [])) := HR.out
      go_enter Tryd.func22, Tryd.ntmps22
      go_wp2_with (first | (go_at_call 26; refine (k1.out _).mono ?_; rintro e w1 ⟨rfl, rfl⟩) | (go_at_call 45; refine (k2.out _).mono ?_; rintro e w1 ⟨rfl, rfl⟩) | (go_at_call 28; refine (kt.out _).mono ?_; rintro e w1 ⟨rfl, rfl⟩) | (go_at_call 48; refine (kg.out _).mono ?_; rintro e w1 ⟨rfl, rfl⟩))
      refine bodyPost_ret (v := .agg #[.int .i64 0, .int .i64 0, .string ⟨#[]⟩]) (by simp [results, Tryd.results22, go_sem]) rfl ?_
      rw [HX.out]
      exact ⟨rfl, by first | exact ((Below.refl _ _).alloc (Nat.le_refl _) _) | exact ((((Below.refl _ _).alloc (Nat.le_refl _) _).setCell (Nat.le_refl _) _).setCell (Nat.le_refl _) _).setCell (Nat.le_refl _) _⟩

set_option maxRecDepth 20000 in
set_option maxHeartbeats 2000000 in
theorem rword_step76 (s : ByteArray) (p : Nat) (R : WP.W) (c : UInt8) (w : World) (hp : p < s.size) (hc : ∀ h, s[p]'h = c) (hs : s.size ≤ 1000000) (hn : c.toNat = 76) (hR : R = if WP.begins WP.sign (s.data.toList.drop (p + 1)) then (0, 0, []) else (6, p, (s.data.toList.drop p).take 1)) :
    Calls Tryd.prog 22 #[.string s, .int .i64 p] w (RWPost w R) := by
  have HT : Hid (s.extract p (p + 1) = ⟨((s.data.toList.drop p).take 1).toArray⟩) := by show _ = _; rw [Lib.extract_eq, Nat.add_sub_cancel_left]
  have k1 := hid'' (fun W => rlow_any c W)
  rw [show WP.small c = false by unfold WP.small; rw [hn]; rfl] at k1
  have k2 := hid'' (fun W => rdigit_any c W)
  rw [show WP.digit c = false by unfold WP.digit; rw [hn]; rfl] at k2
  have d45 : ((c.toNat : Int) == 45) = false := by rw [hn]; rfl
  have d35 : ((c.toNat : Int) == 35) = false := by rw [hn]; rfl
  have e123 : ((c.toNat : Int) == 123) = false := by rw [hn]; rfl
  have e125 : ((c.toNat : Int) == 125) = false := by rw [hn]; rfl
  have e59 : ((c.toNat : Int) == 59) = false := by rw [hn]; rfl
  have e61 : ((c.toNat : Int) == 61) = false := by rw [hn]; rfl
  have e77 : ((c.toNat : Int) == 77) = false := by rw [hn]; rfl
  have e76 : ((c.toNat : Int) == 76) = true := by rw [hn]; rfl
  have e81 : ((c.toNat : Int) == 81) = false := by rw [hn]; rfl
  have e67 : ((c.toNat : Int) == 67) = false := by rw [hn]; rfl
  have e65 : ((c.toNat : Int) == 65) = false := by rw [hn]; rfl
  have e66 : ((c.toNat : Int) == 66) = false := by rw [hn]; rfl
  have e90 : ((c.toNat : Int) == 90) = false := by rw [hn]; rfl
  clear hn
  cases hl : s.data.toList.drop (p + 1) with
  | nil =>
    have h0 := drop_nil s (p + 1) hl
    have HX : Hid (R = (6, p, (s.data.toList.drop p).take 1)) := by show _ = _; rw [hR, hl]; rfl
    have hlt : ¬ ((p : Int) + 1 < (s.size : Int)) := by omega
    clear hR hl h0
    go_enter Tryd.func22, Tryd.ntmps22
    go_wp2_with (first | (go_at_call 26; refine (k1.out _).mono ?_; rintro e w1 ⟨rfl, rfl⟩) | (go_at_call 45; refine (k2.out _).mono ?_; rintro e w1 ⟨rfl, rfl⟩))
    refine bodyPost_ret (v := .agg #[.int .i64 6, .int .i64 p, .string (s.extract p (p + 1))]) (by simp [results, Tryd.results22, go_sem]) rfl ?_
    rw [HX.out]
    exact ⟨by rw [HT.out]; rfl, by first | exact ((Below.refl _ _).alloc (Nat.le_refl _) _) | exact ((((Below.refl _ _).alloc (Nat.le_refl _) _).setCell (Nat.le_refl _) _).setCell (Nat.le_refl _) _).setCell (Nat.le_refl _) _⟩
  | cons c2 t2 =>
    obtain ⟨hlt, hcc, -⟩ := at_drop s (p + 1) c2 t2 hl
    rw [hl] at hR
    have HR : Hid (R = if (WP.nsign c2 || WP.great c2) = true then (0, 0, []) else (6, p, (s.data.toList.drop p).take 1)) := hR
    have kt := hid'' (fun W => rinner_any c2 W)
    have kg := hid'' (fun W => rgreat_any c2 W)
    obtain ⟨S, hS⟩ : ∃ S, WP.nsign c2 = S := ⟨_, rfl⟩
    obtain ⟨G, hG⟩ : ∃ G, WP.great c2 = G := ⟨_, rfl⟩
    rw [hS] at HR kt
    rw [hG] at HR kg
    have hlti : (p : Int) + 1 < (s.size : Int) := by omega
    clear hR hl hS hG
    cases S <;> cases G
    · have HX : Hid (R = (6, p, (s.data.toList.drop p).take 1)) := HR.out
      go_enter Tryd.func22, Tryd.ntmps22
      go_wp2_with (first | (go_at_call 26; refine (k1.out _).mono ?_; rintro e w1 ⟨rfl, rfl⟩) | (go_at_call 45; refine (k2.out _).mono ?_; rintro e w1 ⟨rfl, rfl⟩) | (go_at_call 28; refine (kt.out _).mono ?_; rintro e w1 ⟨rfl, rfl⟩) | (go_at_call 48; refine (kg.out _).mono ?_; rintro e w1 ⟨rfl, rfl⟩))
      refine bodyPost_ret (v := .agg #[.int .i64 6, .int .i64 p, .string (s.extract p (p + 1))]) (by simp [results, Tryd.results22, go_sem]) rfl ?_
      rw [HX.out]
      exact ⟨by rw [HT.out]; rfl, by first | exact ((Below.refl _ _).alloc (Nat.le_refl _) _) | exact ((((Below.refl _ _).alloc (Nat.le_refl _) _).setCell (Nat.le_refl _) _).setCell (Nat.le_refl _) _).setCell (Nat.le_refl _) _⟩
    all_goals
      have HX : Hid (R = (0, 0, [])) := HR.out
      go_enter Tryd.func22, Tryd.ntmps22
      go_wp2_with (first | (go_at_call 26; refine (k1.out _).mono ?_; rintro e w1 ⟨rfl, rfl⟩) | (go_at_call 45; refine (k2.out _).mono ?_; rintro e w1 ⟨rfl, rfl⟩) | (go_at_call 28; refine (kt.out _).mono ?_; rintro e w1 ⟨rfl, rfl⟩) | (go_at_call 48; refine (kg.out _).mono ?_; rintro e w1 ⟨rfl, rfl⟩))
      refine bodyPost_ret (v := .agg #[.int .i64 0, .int .i64 0, .string ⟨#[]⟩]) (by simp [results, Tryd.results22, go_sem]) rfl ?_
      rw [HX.out]
      exact ⟨rfl, by first | exact ((Below.refl _ _).alloc (Nat.le_refl _) _) | exact ((((Below.refl _ _).alloc (Nat.le_refl _) _).setCell (Nat.le_refl _) _).setCell (Nat.le_refl _) _).setCell (Nat.le_refl _) _⟩

set_option maxRecDepth 20000 in
set_option maxHeartbeats 2000000 in
theorem rword_step81 (s : ByteArray) (p : Nat) (R : WP.W) (c : UInt8) (w : World) (hp : p < s.size) (hc : ∀ h, s[p]'h = c) (hs : s.size ≤ 1000000) (hn : c.toNat = 81) (hR : R = if WP.begins WP.sign (s.data.toList.drop (p + 1)) then (0, 0, []) else (6, p, (s.data.toList.drop p).take 1)) :
    Calls Tryd.prog 22 #[.string s, .int .i64 p] w (RWPost w R) := by
  have HT : Hid (s.extract p (p + 1) = ⟨((s.data.toList.drop p).take 1).toArray⟩) := by show _ = _; rw [Lib.extract_eq, Nat.add_sub_cancel_left]
  have k1 := hid'' (fun W => rlow_any c W)
  rw [show WP.small c = false by unfold WP.small; rw [hn]; rfl] at k1
  have k2 := hid'' (fun W => rdigit_any c W)
  rw [show WP.digit c = false by unfold WP.digit; rw [hn]; rfl] at k2
  have d45 : ((c.toNat : Int) == 45) = false := by rw [hn]; rfl
  have d35 : ((c.toNat : Int) == 35) = false := by rw [hn]; rfl
  have e123 : ((c.toNat : Int) == 123) = false := by rw [hn]; rfl
  have e125 : ((c.toNat : Int) == 125) = false := by rw [hn]; rfl
  have e59 : ((c.toNat : Int) == 59) = false := by rw [hn]; rfl
  have e61 : ((c.toNat : Int) == 61) = false := by rw [hn]; rfl
  have e77 : ((c.toNat : Int) == 77) = false := by rw [hn]; rfl
  have e76 : ((c.toNat : Int) == 76) = false := by rw [hn]; rfl
  have e81 : ((c.toNat : Int) == 81) = true := by rw [hn]; rfl
  have e67 : ((c.toNat : Int) == 67) = false := by rw [hn]; rfl
  have e65 : ((c.toNat : Int) == 65) = false := by rw [hn]; rfl
  have e66 : ((c.toNat : Int) == 66) = false := by rw [hn]; rfl
  have e90 : ((c.toNat : Int) == 90) = false := by rw [hn]; rfl
  clear hn
  cases hl : s.data.toList.drop (p + 1) with
  | nil =>
    have h0 := drop_nil s (p + 1) hl
    have HX : Hid (R = (6, p, (s.data.toList.drop p).take 1)) := by show _ = _; rw [hR, hl]; rfl
    have hlt : ¬ ((p : Int) + 1 < (s.size : Int)) := by omega
    clear hR hl h0
    go_enter Tryd.func22, Tryd.ntmps22
    go_wp2_with (first | (go_at_call 26; refine (k1.out _).mono ?_; rintro e w1 ⟨rfl, rfl⟩) | (go_at_call 45; refine (k2.out _).mono ?_; rintro e w1 ⟨rfl, rfl⟩))
    refine bodyPost_ret (v := .agg #[.int .i64 6, .int .i64 p, .string (s.extract p (p + 1))]) (by simp [results, Tryd.results22, go_sem]) rfl ?_
    rw [HX.out]
    exact ⟨by rw [HT.out]; rfl, by first | exact ((Below.refl _ _).alloc (Nat.le_refl _) _) | exact ((((Below.refl _ _).alloc (Nat.le_refl _) _).setCell (Nat.le_refl _) _).setCell (Nat.le_refl _) _).setCell (Nat.le_refl _) _⟩
  | cons c2 t2 =>
    obtain ⟨hlt, hcc, -⟩ := at_drop s (p + 1) c2 t2 hl
    rw [hl] at hR
    have HR : Hid (R = if (WP.nsign c2 || WP.great c2) = true then (0, 0, []) else (6, p, (s.data.toList.drop p).take 1)) := hR
    have kt := hid'' (fun W => rinner_any c2 W)
    have kg := hid'' (fun W => rgreat_any c2 W)
    obtain ⟨S, hS⟩ : ∃ S, WP.nsign c2 = S := ⟨_, rfl⟩
    obtain ⟨G, hG⟩ : ∃ G, WP.great c2 = G := ⟨_, rfl⟩
    rw [hS] at HR kt
    rw [hG] at HR kg
    have hlti : (p : Int) + 1 < (s.size : Int) := by omega
    clear hR hl hS hG
    cases S <;> cases G
    · have HX : Hid (R = (6, p, (s.data.toList.drop p).take 1)) := HR.out
      go_enter Tryd.func22, Tryd.ntmps22
      go_wp2_with (first | (go_at_call 26; refine (k1.out _).mono ?_; rintro e w1 ⟨rfl, rfl⟩) | (go_at_call 45; refine (k2.out _).mono ?_; rintro e w1 ⟨rfl, rfl⟩) | (go_at_call 28; refine (kt.out _).mono ?_; rintro e w1 ⟨rfl, rfl⟩) | (go_at_call 48; refine (kg.out _).mono ?_; rintro e w1 ⟨rfl, rfl⟩))
      refine bodyPost_ret (v := .agg #[.int .i64 6, .int .i64 p, .string (s.extract p (p + 1))]) (by simp [results, Tryd.results22, go_sem]) rfl ?_
      rw [HX.out]
      exact ⟨by rw [HT.out]; rfl, by first | exact ((Below.refl _ _).alloc (Nat.le_refl _) _) | exact ((((Below.refl _ _).alloc (Nat.le_refl _) _).setCell (Nat.le_refl _) _).setCell (Nat.le_refl _) _).setCell (Nat.le_refl _) _⟩
    all_goals
      have HX : Hid (R = (0, 0, [])) := HR.out
      go_enter Tryd.func22, Tryd.ntmps22
      go_wp2_with (first | (go_at_call 26; refine (k1.out _).mono ?_; rintro e w1 ⟨rfl, rfl⟩) | (go_at_call 45; refine (k2.out _).mono ?_; rintro e w1 ⟨rfl, rfl⟩) | (go_at_call 28; refine (kt.out _).mono ?_; rintro e w1 ⟨rfl, rfl⟩) | (go_at_call 48; refine (kg.out _).mono ?_; rintro e w1 ⟨rfl, rfl⟩))
      refine bodyPost_ret (v := .agg #[.int .i64 0, .int .i64 0, .string ⟨#[]⟩]) (by simp [results, Tryd.results22, go_sem]) rfl ?_
      rw [HX.out]
      exact ⟨rfl, by first | exact ((Below.refl _ _).alloc (Nat.le_refl _) _) | exact ((((Below.refl _ _).alloc (Nat.le_refl _) _).setCell (Nat.le_refl _) _).setCell (Nat.le_refl _) _).setCell (Nat.le_refl _) _⟩

set_option maxRecDepth 20000 in
set_option maxHeartbeats 2000000 in
theorem rword_step67 (s : ByteArray) (p : Nat) (R : WP.W) (c : UInt8) (w : World) (hp : p < s.size) (hc : ∀ h, s[p]'h = c) (hs : s.size ≤ 1000000) (hn : c.toNat = 67) (hR : R = if WP.begins WP.sign (s.data.toList.drop (p + 1)) then (0, 0, []) else (6, p, (s.data.toList.drop p).take 1)) :
    Calls Tryd.prog 22 #[.string s, .int .i64 p] w (RWPost w R) := by
  have HT : Hid (s.extract p (p + 1) = ⟨((s.data.toList.drop p).take 1).toArray⟩) := by show _ = _; rw [Lib.extract_eq, Nat.add_sub_cancel_left]
  have k1 := hid'' (fun W => rlow_any c W)
  rw [show WP.small c = false by unfold WP.small; rw [hn]; rfl] at k1
  have k2 := hid'' (fun W => rdigit_any c W)
  rw [show WP.digit c = false by unfold WP.digit; rw [hn]; rfl] at k2
  have d45 : ((c.toNat : Int) == 45) = false := by rw [hn]; rfl
  have d35 : ((c.toNat : Int) == 35) = false := by rw [hn]; rfl
  have e123 : ((c.toNat : Int) == 123) = false := by rw [hn]; rfl
  have e125 : ((c.toNat : Int) == 125) = false := by rw [hn]; rfl
  have e59 : ((c.toNat : Int) == 59) = false := by rw [hn]; rfl
  have e61 : ((c.toNat : Int) == 61) = false := by rw [hn]; rfl
  have e77 : ((c.toNat : Int) == 77) = false := by rw [hn]; rfl
  have e76 : ((c.toNat : Int) == 76) = false := by rw [hn]; rfl
  have e81 : ((c.toNat : Int) == 81) = false := by rw [hn]; rfl
  have e67 : ((c.toNat : Int) == 67) = true := by rw [hn]; rfl
  have e65 : ((c.toNat : Int) == 65) = false := by rw [hn]; rfl
  have e66 : ((c.toNat : Int) == 66) = false := by rw [hn]; rfl
  have e90 : ((c.toNat : Int) == 90) = false := by rw [hn]; rfl
  clear hn
  cases hl : s.data.toList.drop (p + 1) with
  | nil =>
    have h0 := drop_nil s (p + 1) hl
    have HX : Hid (R = (6, p, (s.data.toList.drop p).take 1)) := by show _ = _; rw [hR, hl]; rfl
    have hlt : ¬ ((p : Int) + 1 < (s.size : Int)) := by omega
    clear hR hl h0
    go_enter Tryd.func22, Tryd.ntmps22
    go_wp2_with (first | (go_at_call 26; refine (k1.out _).mono ?_; rintro e w1 ⟨rfl, rfl⟩) | (go_at_call 45; refine (k2.out _).mono ?_; rintro e w1 ⟨rfl, rfl⟩))
    refine bodyPost_ret (v := .agg #[.int .i64 6, .int .i64 p, .string (s.extract p (p + 1))]) (by simp [results, Tryd.results22, go_sem]) rfl ?_
    rw [HX.out]
    exact ⟨by rw [HT.out]; rfl, by first | exact ((Below.refl _ _).alloc (Nat.le_refl _) _) | exact ((((Below.refl _ _).alloc (Nat.le_refl _) _).setCell (Nat.le_refl _) _).setCell (Nat.le_refl _) _).setCell (Nat.le_refl _) _⟩
  | cons c2 t2 =>
    obtain ⟨hlt, hcc, -⟩ := at_drop s (p + 1) c2 t2 hl
    rw [hl] at hR
    have HR : Hid (R = if (WP.nsign c2 || WP.great c2) = true then (0, 0, []) else (6, p, (s.data.toList.drop p).take 1)) := hR
    have kt := hid'' (fun W => rinner_any c2 W)
    have kg := hid'' (fun W => rgreat_any c2 W)
    obtain ⟨S, hS⟩ : ∃ S, WP.nsign c2 = S := ⟨_, rfl⟩
    obtain ⟨G, hG⟩ : ∃ G, WP.great c2 = G := ⟨_, rfl⟩
    rw [hS] at HR kt
    rw [hG] at HR kg
    have hlti : (p : Int) + 1 < (s.size : Int) := by omega
    clear hR hl hS hG
    cases S <;> cases G
    · have HX : Hid (R = (6, p, (s.data.toList.drop p).take 1)) := HR.out
      go_enter Tryd.func22, Tryd.ntmps22
      go_wp2_with (first | (go_at_call 26; refine (k1.out _).mono ?_; rintro e w1 ⟨rfl, rfl⟩) | (go_at_call 45; refine (k2.out _).mono ?_; rintro e w1 ⟨rfl, rfl⟩) | (go_at_call 28; refine (kt.out _).mono ?_; rintro e w1 ⟨rfl, rfl⟩) | (go_at_call 48; refine (kg.out _).mono ?_; rintro e w1 ⟨rfl, rfl⟩))
      refine bodyPost_ret (v := .agg #[.int .i64 6, .int .i64 p, .string (s.extract p (p + 1))]) (by simp [results, Tryd.results22, go_sem]) rfl ?_
      rw [HX.out]
      exact ⟨by rw [HT.out]; rfl, by first | exact ((Below.refl _ _).alloc (Nat.le_refl _) _) | exact ((((Below.refl _ _).alloc (Nat.le_refl _) _).setCell (Nat.le_refl _) _).setCell (Nat.le_refl _) _).setCell (Nat.le_refl _) _⟩
    all_goals
      have HX : Hid (R = (0, 0, [])) := HR.out
      go_enter Tryd.func22, Tryd.ntmps22
      go_wp2_with (first | (go_at_call 26; refine (k1.out _).mono ?_; rintro e w1 ⟨rfl, rfl⟩) | (go_at_call 45; refine (k2.out _).mono ?_; rintro e w1 ⟨rfl, rfl⟩) | (go_at_call 28; refine (kt.out _).mono ?_; rintro e w1 ⟨rfl, rfl⟩) | (go_at_call 48; refine (kg.out _).mono ?_; rintro e w1 ⟨rfl, rfl⟩))
      refine bodyPost_ret (v := .agg #[.int .i64 0, .int .i64 0, .string ⟨#[]⟩]) (by simp [results, Tryd.results22, go_sem]) rfl ?_
      rw [HX.out]
      exact ⟨rfl, by first | exact ((Below.refl _ _).alloc (Nat.le_refl _) _) | exact ((((Below.refl _ _).alloc (Nat.le_refl _) _).setCell (Nat.le_refl _) _).setCell (Nat.le_refl _) _).setCell (Nat.le_refl _) _⟩

set_option maxRecDepth 20000 in
set_option maxHeartbeats 2000000 in
theorem rword_step65 (s : ByteArray) (p : Nat) (R : WP.W) (c : UInt8) (w : World) (hp : p < s.size) (hc : ∀ h, s[p]'h = c) (hs : s.size ≤ 1000000) (hn : c.toNat = 65) (hR : R = if WP.begins WP.sign (s.data.toList.drop (p + 1)) then (0, 0, []) else (6, p, (s.data.toList.drop p).take 1)) :
    Calls Tryd.prog 22 #[.string s, .int .i64 p] w (RWPost w R) := by
  have HT : Hid (s.extract p (p + 1) = ⟨((s.data.toList.drop p).take 1).toArray⟩) := by show _ = _; rw [Lib.extract_eq, Nat.add_sub_cancel_left]
  have k1 := hid'' (fun W => rlow_any c W)
  rw [show WP.small c = false by unfold WP.small; rw [hn]; rfl] at k1
  have k2 := hid'' (fun W => rdigit_any c W)
  rw [show WP.digit c = false by unfold WP.digit; rw [hn]; rfl] at k2
  have d45 : ((c.toNat : Int) == 45) = false := by rw [hn]; rfl
  have d35 : ((c.toNat : Int) == 35) = false := by rw [hn]; rfl
  have e123 : ((c.toNat : Int) == 123) = false := by rw [hn]; rfl
  have e125 : ((c.toNat : Int) == 125) = false := by rw [hn]; rfl
  have e59 : ((c.toNat : Int) == 59) = false := by rw [hn]; rfl
  have e61 : ((c.toNat : Int) == 61) = false := by rw [hn]; rfl
  have e77 : ((c.toNat : Int) == 77) = false := by rw [hn]; rfl
  have e76 : ((c.toNat : Int) == 76) = false := by rw [hn]; rfl
  have e81 : ((c.toNat : Int) == 81) = false := by rw [hn]; rfl
  have e67 : ((c.toNat : Int) == 67) = false := by rw [hn]; rfl
  have e65 : ((c.toNat : Int) == 65) = true := by rw [hn]; rfl
  have e66 : ((c.toNat : Int) == 66) = false := by rw [hn]; rfl
  have e90 : ((c.toNat : Int) == 90) = false := by rw [hn]; rfl
  clear hn
  cases hl : s.data.toList.drop (p + 1) with
  | nil =>
    have h0 := drop_nil s (p + 1) hl
    have HX : Hid (R = (6, p, (s.data.toList.drop p).take 1)) := by show _ = _; rw [hR, hl]; rfl
    have hlt : ¬ ((p : Int) + 1 < (s.size : Int)) := by omega
    clear hR hl h0
    go_enter Tryd.func22, Tryd.ntmps22
    go_wp2_with (first | (go_at_call 26; refine (k1.out _).mono ?_; rintro e w1 ⟨rfl, rfl⟩) | (go_at_call 45; refine (k2.out _).mono ?_; rintro e w1 ⟨rfl, rfl⟩))
    refine bodyPost_ret (v := .agg #[.int .i64 6, .int .i64 p, .string (s.extract p (p + 1))]) (by simp [results, Tryd.results22, go_sem]) rfl ?_
    rw [HX.out]
    exact ⟨by rw [HT.out]; rfl, by first | exact ((Below.refl _ _).alloc (Nat.le_refl _) _) | exact ((((Below.refl _ _).alloc (Nat.le_refl _) _).setCell (Nat.le_refl _) _).setCell (Nat.le_refl _) _).setCell (Nat.le_refl _) _⟩
  | cons c2 t2 =>
    obtain ⟨hlt, hcc, -⟩ := at_drop s (p + 1) c2 t2 hl
    rw [hl] at hR
    have HR : Hid (R = if (WP.nsign c2 || WP.great c2) = true then (0, 0, []) else (6, p, (s.data.toList.drop p).take 1)) := hR
    have kt := hid'' (fun W => rinner_any c2 W)
    have kg := hid'' (fun W => rgreat_any c2 W)
    obtain ⟨S, hS⟩ : ∃ S, WP.nsign c2 = S := ⟨_, rfl⟩
    obtain ⟨G, hG⟩ : ∃ G, WP.great c2 = G := ⟨_, rfl⟩
    rw [hS] at HR kt
    rw [hG] at HR kg
    have hlti : (p : Int) + 1 < (s.size : Int) := by omega
    clear hR hl hS hG
    cases S <;> cases G
    · have HX : Hid (R = (6, p, (s.data.toList.drop p).take 1)) := HR.out
      go_enter Tryd.func22, Tryd.ntmps22
      go_wp2_with (first | (go_at_call 26; refine (k1.out _).mono ?_; rintro e w1 ⟨rfl, rfl⟩) | (go_at_call 45; refine (k2.out _).mono ?_; rintro e w1 ⟨rfl, rfl⟩) | (go_at_call 28; refine (kt.out _).mono ?_; rintro e w1 ⟨rfl, rfl⟩) | (go_at_call 48; refine (kg.out _).mono ?_; rintro e w1 ⟨rfl, rfl⟩))
      refine bodyPost_ret (v := .agg #[.int .i64 6, .int .i64 p, .string (s.extract p (p + 1))]) (by simp [results, Tryd.results22, go_sem]) rfl ?_
      rw [HX.out]
      exact ⟨by rw [HT.out]; rfl, by first | exact ((Below.refl _ _).alloc (Nat.le_refl _) _) | exact ((((Below.refl _ _).alloc (Nat.le_refl _) _).setCell (Nat.le_refl _) _).setCell (Nat.le_refl _) _).setCell (Nat.le_refl _) _⟩
    all_goals
      have HX : Hid (R = (0, 0, [])) := HR.out
      go_enter Tryd.func22, Tryd.ntmps22
      go_wp2_with (first | (go_at_call 26; refine (k1.out _).mono ?_; rintro e w1 ⟨rfl, rfl⟩) | (go_at_call 45; refine (k2.out _).mono ?_; rintro e w1 ⟨rfl, rfl⟩) | (go_at_call 28; refine (kt.out _).mono ?_; rintro e w1 ⟨rfl, rfl⟩) | (go_at_call 48; refine (kg.out _).mono ?_; rintro e w1 ⟨rfl, rfl⟩))
      refine bodyPost_ret (v := .agg #[.int .i64 0, .int .i64 0, .string ⟨#[]⟩]) (by simp [results, Tryd.results22, go_sem]) rfl ?_
      rw [HX.out]
      exact ⟨rfl, by first | exact ((Below.refl _ _).alloc (Nat.le_refl _) _) | exact ((((Below.refl _ _).alloc (Nat.le_refl _) _).setCell (Nat.le_refl _) _).setCell (Nat.le_refl _) _).setCell (Nat.le_refl _) _⟩

set_option maxRecDepth 20000 in
set_option maxHeartbeats 2000000 in
theorem rword_step66 (s : ByteArray) (p : Nat) (R : WP.W) (c : UInt8) (w : World) (hp : p < s.size) (hc : ∀ h, s[p]'h = c) (hs : s.size ≤ 1000000) (hn : c.toNat = 66) (hR : R = if WP.begins WP.sign (s.data.toList.drop (p + 1)) then (0, 0, []) else (6, p, (s.data.toList.drop p).take 1)) :
    Calls Tryd.prog 22 #[.string s, .int .i64 p] w (RWPost w R) := by
  have HT : Hid (s.extract p (p + 1) = ⟨((s.data.toList.drop p).take 1).toArray⟩) := by show _ = _; rw [Lib.extract_eq, Nat.add_sub_cancel_left]
  have k1 := hid'' (fun W => rlow_any c W)
  rw [show WP.small c = false by unfold WP.small; rw [hn]; rfl] at k1
  have k2 := hid'' (fun W => rdigit_any c W)
  rw [show WP.digit c = false by unfold WP.digit; rw [hn]; rfl] at k2
  have d45 : ((c.toNat : Int) == 45) = false := by rw [hn]; rfl
  have d35 : ((c.toNat : Int) == 35) = false := by rw [hn]; rfl
  have e123 : ((c.toNat : Int) == 123) = false := by rw [hn]; rfl
  have e125 : ((c.toNat : Int) == 125) = false := by rw [hn]; rfl
  have e59 : ((c.toNat : Int) == 59) = false := by rw [hn]; rfl
  have e61 : ((c.toNat : Int) == 61) = false := by rw [hn]; rfl
  have e77 : ((c.toNat : Int) == 77) = false := by rw [hn]; rfl
  have e76 : ((c.toNat : Int) == 76) = false := by rw [hn]; rfl
  have e81 : ((c.toNat : Int) == 81) = false := by rw [hn]; rfl
  have e67 : ((c.toNat : Int) == 67) = false := by rw [hn]; rfl
  have e65 : ((c.toNat : Int) == 65) = false := by rw [hn]; rfl
  have e66 : ((c.toNat : Int) == 66) = true := by rw [hn]; rfl
  have e90 : ((c.toNat : Int) == 90) = false := by rw [hn]; rfl
  clear hn
  cases hl : s.data.toList.drop (p + 1) with
  | nil =>
    have h0 := drop_nil s (p + 1) hl
    have HX : Hid (R = (6, p, (s.data.toList.drop p).take 1)) := by show _ = _; rw [hR, hl]; rfl
    have hlt : ¬ ((p : Int) + 1 < (s.size : Int)) := by omega
    clear hR hl h0
    go_enter Tryd.func22, Tryd.ntmps22
    go_wp2_with (first | (go_at_call 26; refine (k1.out _).mono ?_; rintro e w1 ⟨rfl, rfl⟩) | (go_at_call 45; refine (k2.out _).mono ?_; rintro e w1 ⟨rfl, rfl⟩))
    refine bodyPost_ret (v := .agg #[.int .i64 6, .int .i64 p, .string (s.extract p (p + 1))]) (by simp [results, Tryd.results22, go_sem]) rfl ?_
    rw [HX.out]
    exact ⟨by rw [HT.out]; rfl, by first | exact ((Below.refl _ _).alloc (Nat.le_refl _) _) | exact ((((Below.refl _ _).alloc (Nat.le_refl _) _).setCell (Nat.le_refl _) _).setCell (Nat.le_refl _) _).setCell (Nat.le_refl _) _⟩
  | cons c2 t2 =>
    obtain ⟨hlt, hcc, -⟩ := at_drop s (p + 1) c2 t2 hl
    rw [hl] at hR
    have HR : Hid (R = if (WP.nsign c2 || WP.great c2) = true then (0, 0, []) else (6, p, (s.data.toList.drop p).take 1)) := hR
    have kt := hid'' (fun W => rinner_any c2 W)
    have kg := hid'' (fun W => rgreat_any c2 W)
    obtain ⟨S, hS⟩ : ∃ S, WP.nsign c2 = S := ⟨_, rfl⟩
    obtain ⟨G, hG⟩ : ∃ G, WP.great c2 = G := ⟨_, rfl⟩
    rw [hS] at HR kt
    rw [hG] at HR kg
    have hlti : (p : Int) + 1 < (s.size : Int) := by omega
    clear hR hl hS hG
    cases S <;> cases G
    · have HX : Hid (R = (6, p, (s.data.toList.drop p).take 1)) := HR.out
      go_enter Tryd.func22, Tryd.ntmps22
      go_wp2_with (first | (go_at_call 26; refine (k1.out _).mono ?_; rintro e w1 ⟨rfl, rfl⟩) | (go_at_call 45; refine (k2.out _).mono ?_; rintro e w1 ⟨rfl, rfl⟩) | (go_at_call 28; refine (kt.out _).mono ?_; rintro e w1 ⟨rfl, rfl⟩) | (go_at_call 48; refine (kg.out _).mono ?_; rintro e w1 ⟨rfl, rfl⟩))
      refine bodyPost_ret (v := .agg #[.int .i64 6, .int .i64 p, .string (s.extract p (p + 1))]) (by simp [results, Tryd.results22, go_sem]) rfl ?_
      rw [HX.out]
      exact ⟨by rw [HT.out]; rfl, by first | exact ((Below.refl _ _).alloc (Nat.le_refl _) _) | exact ((((Below.refl _ _).alloc (Nat.le_refl _) _).setCell (Nat.le_refl _) _).setCell (Nat.le_refl _) _).setCell (Nat.le_refl _) _⟩
    all_goals
      have HX : Hid (R = (0, 0, [])) := HR.out
      go_enter Tryd.func22, Tryd.ntmps22
      go_wp2_with (first | (go_at_call 26; refine (k1.out _).mono ?_; rintro e w1 ⟨rfl, rfl⟩) | (go_at_call 45; refine (k2.out _).mono ?_; rintro e w1 ⟨rfl, rfl⟩) | (go_at_call 28; refine (kt.out _).mono ?_; rintro e w1 ⟨rfl, rfl⟩) | (go_at_call 48; refine (kg.out _).mono ?_; rintro e w1 ⟨rfl, rfl⟩))
      refine bodyPost_ret (v := .agg #[.int .i64 0, .int .i64 0, .string ⟨#[]⟩]) (by simp [results, Tryd.results22, go_sem]) rfl ?_
      rw [HX.out]
      exact ⟨rfl, by first | exact ((Below.refl _ _).alloc (Nat.le_refl _) _) | exact ((((Below.refl _ _).alloc (Nat.le_refl _) _).setCell (Nat.le_refl _) _).setCell (Nat.le_refl _) _).setCell (Nat.le_refl _) _⟩

set_option maxRecDepth 20000 in
set_option maxHeartbeats 2000000 in
theorem rword_step90 (s : ByteArray) (p : Nat) (R : WP.W) (c : UInt8) (w : World) (hp : p < s.size) (hc : ∀ h, s[p]'h = c) (hs : s.size ≤ 1000000) (hn : c.toNat = 90) (hR : R = if WP.begins WP.sign (s.data.toList.drop (p + 1)) then (0, 0, []) else (6, p, (s.data.toList.drop p).take 1)) :
    Calls Tryd.prog 22 #[.string s, .int .i64 p] w (RWPost w R) := by
  have HT : Hid (s.extract p (p + 1) = ⟨((s.data.toList.drop p).take 1).toArray⟩) := by show _ = _; rw [Lib.extract_eq, Nat.add_sub_cancel_left]
  have k1 := hid'' (fun W => rlow_any c W)
  rw [show WP.small c = false by unfold WP.small; rw [hn]; rfl] at k1
  have k2 := hid'' (fun W => rdigit_any c W)
  rw [show WP.digit c = false by unfold WP.digit; rw [hn]; rfl] at k2
  have d45 : ((c.toNat : Int) == 45) = false := by rw [hn]; rfl
  have d35 : ((c.toNat : Int) == 35) = false := by rw [hn]; rfl
  have e123 : ((c.toNat : Int) == 123) = false := by rw [hn]; rfl
  have e125 : ((c.toNat : Int) == 125) = false := by rw [hn]; rfl
  have e59 : ((c.toNat : Int) == 59) = false := by rw [hn]; rfl
  have e61 : ((c.toNat : Int) == 61) = false := by rw [hn]; rfl
  have e77 : ((c.toNat : Int) == 77) = false := by rw [hn]; rfl
  have e76 : ((c.toNat : Int) == 76) = false := by rw [hn]; rfl
  have e81 : ((c.toNat : Int) == 81) = false := by rw [hn]; rfl
  have e67 : ((c.toNat : Int) == 67) = false := by rw [hn]; rfl
  have e65 : ((c.toNat : Int) == 65) = false := by rw [hn]; rfl
  have e66 : ((c.toNat : Int) == 66) = false := by rw [hn]; rfl
  have e90 : ((c.toNat : Int) == 90) = true := by rw [hn]; rfl
  clear hn
  cases hl : s.data.toList.drop (p + 1) with
  | nil =>
    have h0 := drop_nil s (p + 1) hl
    have HX : Hid (R = (6, p, (s.data.toList.drop p).take 1)) := by show _ = _; rw [hR, hl]; rfl
    have hlt : ¬ ((p : Int) + 1 < (s.size : Int)) := by omega
    clear hR hl h0
    go_enter Tryd.func22, Tryd.ntmps22
    go_wp2_with (first | (go_at_call 26; refine (k1.out _).mono ?_; rintro e w1 ⟨rfl, rfl⟩) | (go_at_call 45; refine (k2.out _).mono ?_; rintro e w1 ⟨rfl, rfl⟩))
    refine bodyPost_ret (v := .agg #[.int .i64 6, .int .i64 p, .string (s.extract p (p + 1))]) (by simp [results, Tryd.results22, go_sem]) rfl ?_
    rw [HX.out]
    exact ⟨by rw [HT.out]; rfl, by first | exact ((Below.refl _ _).alloc (Nat.le_refl _) _) | exact ((((Below.refl _ _).alloc (Nat.le_refl _) _).setCell (Nat.le_refl _) _).setCell (Nat.le_refl _) _).setCell (Nat.le_refl _) _⟩
  | cons c2 t2 =>
    obtain ⟨hlt, hcc, -⟩ := at_drop s (p + 1) c2 t2 hl
    rw [hl] at hR
    have HR : Hid (R = if (WP.nsign c2 || WP.great c2) = true then (0, 0, []) else (6, p, (s.data.toList.drop p).take 1)) := hR
    have kt := hid'' (fun W => rinner_any c2 W)
    have kg := hid'' (fun W => rgreat_any c2 W)
    obtain ⟨S, hS⟩ : ∃ S, WP.nsign c2 = S := ⟨_, rfl⟩
    obtain ⟨G, hG⟩ : ∃ G, WP.great c2 = G := ⟨_, rfl⟩
    rw [hS] at HR kt
    rw [hG] at HR kg
    have hlti : (p : Int) + 1 < (s.size : Int) := by omega
    clear hR hl hS hG
    cases S <;> cases G
    · have HX : Hid (R = (6, p, (s.data.toList.drop p).take 1)) := HR.out
      go_enter Tryd.func22, Tryd.ntmps22
      go_wp2_with (first | (go_at_call 26; refine (k1.out _).mono ?_; rintro e w1 ⟨rfl, rfl⟩) | (go_at_call 45; refine (k2.out _).mono ?_; rintro e w1 ⟨rfl, rfl⟩) | (go_at_call 28; refine (kt.out _).mono ?_; rintro e w1 ⟨rfl, rfl⟩) | (go_at_call 48; refine (kg.out _).mono ?_; rintro e w1 ⟨rfl, rfl⟩))
      refine bodyPost_ret (v := .agg #[.int .i64 6, .int .i64 p, .string (s.extract p (p + 1))]) (by simp [results, Tryd.results22, go_sem]) rfl ?_
      rw [HX.out]
      exact ⟨by rw [HT.out]; rfl, by first | exact ((Below.refl _ _).alloc (Nat.le_refl _) _) | exact ((((Below.refl _ _).alloc (Nat.le_refl _) _).setCell (Nat.le_refl _) _).setCell (Nat.le_refl _) _).setCell (Nat.le_refl _) _⟩
    all_goals
      have HX : Hid (R = (0, 0, [])) := HR.out
      go_enter Tryd.func22, Tryd.ntmps22
      go_wp2_with (first | (go_at_call 26; refine (k1.out _).mono ?_; rintro e w1 ⟨rfl, rfl⟩) | (go_at_call 45; refine (k2.out _).mono ?_; rintro e w1 ⟨rfl, rfl⟩) | (go_at_call 28; refine (kt.out _).mono ?_; rintro e w1 ⟨rfl, rfl⟩) | (go_at_call 48; refine (kg.out _).mono ?_; rintro e w1 ⟨rfl, rfl⟩))
      refine bodyPost_ret (v := .agg #[.int .i64 0, .int .i64 0, .string ⟨#[]⟩]) (by simp [results, Tryd.results22, go_sem]) rfl ?_
      rw [HX.out]
      exact ⟨rfl, by first | exact ((Below.refl _ _).alloc (Nat.le_refl _) _) | exact ((((Below.refl _ _).alloc (Nat.le_refl _) _).setCell (Nat.le_refl _) _).setCell (Nat.le_refl _) _).setCell (Nat.le_refl _) _⟩

end Go.Proofs.YtbniikaebkmbhaaDoor

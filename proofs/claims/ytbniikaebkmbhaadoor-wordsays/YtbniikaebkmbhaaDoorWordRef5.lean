/-
  The document's word at a place: colors, and all kinds together: walked over the document's text.
-/
import Derived.Test.YtbniikaebkmbhaaDoorWordRef4
namespace Go.Proofs.YtbniikaebkmbhaaDoor
open Go.RowKit

set_option maxRecDepth 20000 in
set_option maxHeartbeats 4000000 in
theorem rword_col (s : ByteArray) (p N : Nat) (R : WP.W) (c : UInt8) (w : World) (hp : p < s.size) (hc : ∀ h, s[p]'h = c) (hs : s.size ≤ 1000000) (hn : c.toNat = 35) (hN : WP.count WP.cdig (s.data.toList.drop (p + 1)) = N)
    (hR : R = if (N ≠ 6 ∧ N ≠ 8) ∨ WP.glued (s.data.toList.drop (p + 1 + N)) = true then (0, 0, []) else (4, p, (s.data.toList.drop p).take (1 + N))) :
    Calls Tryd.prog 22 #[.string s, .int .i64 p] w (RWPost w R) := by
  have k1 := hid'' (fun W => rlow_any c W)
  rw [show WP.small c = false by unfold WP.small; rw [hn]; rfl] at k1
  have k2 := hid'' (fun W => rdigit_any c W)
  rw [show WP.digit c = false by unfold WP.digit; rw [hn]; rfl] at k2
  have d45 : ((c.toNat : Int) == 45) = false := by rw [hn]; rfl
  have d35 : ((c.toNat : Int) == 35) = true := by rw [hn]; rfl
  have ki := hid'' (fun c W => rdigit_any c W)
  have HN := hid'' hN
  have HR := hid'' hR
  clear hN hR hn
  go_enter Tryd.func22, Tryd.ntmps22
  go_wp2_with (first | (go_at_call 26; refine (k1.out _).mono ?_; rintro e w1 ⟨rfl, rfl⟩) | (go_at_call 45; refine (k2.out _).mono ?_; rintro e w1 ⟨rfl, rfl⟩))
  go_loop [6] (fun i => ∃ m : Nat, i = .int .i64 ((p + 1 + m : Nat) : Int) ∧ p + 1 + m ≤ s.size ∧ Hid (N = m + WP.count WP.cdig (s.data.toList.drop (p + 1 + m)))) (fun i => s.size - (intOf i).toNat)
  case atStart => exact ⟨0, by go_num, by omega, by rw [Nat.add_zero, Nat.zero_add]; exact HN.out.symm⟩
  case round =>
    obtain ⟨m, rfl, hm, HM0⟩ := hrel
    obtain ⟨kk, hkk⟩ : ∃ kk, p + 1 + m = kk := ⟨_, rfl⟩
    rw [hkk] at hm HM0 ⊢
    have HK := hid'' hkk
    have hkm : (kk : Int) - (p : Int) = (m : Int) + 1 := by omega
    cases hl : s.data.toList.drop kk with
    | nil =>
      have h0 := drop_nil s kk hl
      have hks : ¬ ((kk : Int) < (s.size : Int)) := by omega
      have HM : Hid (N = m) := by show _ = _; rw [HM0.out, hl]; rfl
      clear hl h0 HM0
      have kf := hid'' (fun W => follows_any s kk W hm)
      obtain ⟨G, hG⟩ : ∃ G, WP.glued (s.data.toList.drop kk) = G := ⟨_, rfl⟩
      rw [hG] at kf
      have HR2 : Hid (R = if (m ≠ 6 ∧ m ≠ 8) ∨ G = true then (0, 0, []) else (4, p, (s.data.toList.drop p).take (1 + m))) := by show _ = _; rw [HR.out, HM.out, show p + 1 + m = kk from HK.out, hG]
      have HT : Hid (s.extract p kk = ⟨((s.data.toList.drop p).take (1 + m)).toArray⟩) := by show _ = _; rw [Lib.extract_eq, show kk - p = 1 + m by omega]
      have hpk : p ≤ kk := by omega
      clear hG HR HM hkk
      by_cases h6 : m = 6
      · subst h6
        cases G
        · have HX : Hid (R = (4, p, (s.data.toList.drop p).take (1 + 6))) := by show _ = _; rw [HR2.out]; rfl
          go_wp2_with (go_at_call 47; refine (kf.out _).mono ?_; rintro e w1 ⟨rfl, rfl⟩)
          refine bodyPost_ret (v := .agg #[.int .i64 4, .int .i64 p, .string (s.extract p kk)]) (by simp [results, Tryd.results22, go_sem]) rfl ?_
          rw [HX.out]
          exact ⟨by rw [HT.out]; rfl, by first | exact ((Below.refl _ _).alloc (Nat.le_refl _) _) | exact ((((Below.refl _ _).alloc (Nat.le_refl _) _).setCell (Nat.le_refl _) _).setCell (Nat.le_refl _) _).setCell (Nat.le_refl _) _⟩
        · have HX : Hid (R = (0, 0, [])) := by show _ = _; rw [HR2.out]; rfl
          go_wp2_with (go_at_call 47; refine (kf.out _).mono ?_; rintro e w1 ⟨rfl, rfl⟩)
          refine bodyPost_ret (v := .agg #[.int .i64 0, .int .i64 0, .string ⟨#[]⟩]) (by simp [results, Tryd.results22, go_sem]) rfl ?_
          rw [HX.out]
          exact ⟨rfl, by first | exact ((Below.refl _ _).alloc (Nat.le_refl _) _) | exact ((((Below.refl _ _).alloc (Nat.le_refl _) _).setCell (Nat.le_refl _) _).setCell (Nat.le_refl _) _).setCell (Nat.le_refl _) _⟩
      · by_cases h8 : m = 8
        · subst h8
          cases G
          · have HX : Hid (R = (4, p, (s.data.toList.drop p).take (1 + 8))) := by show _ = _; rw [HR2.out]; rfl
            go_wp2_with (go_at_call 47; refine (kf.out _).mono ?_; rintro e w1 ⟨rfl, rfl⟩)
            refine bodyPost_ret (v := .agg #[.int .i64 4, .int .i64 p, .string (s.extract p kk)]) (by simp [results, Tryd.results22, go_sem]) rfl ?_
            rw [HX.out]
            exact ⟨by rw [HT.out]; rfl, by first | exact ((Below.refl _ _).alloc (Nat.le_refl _) _) | exact ((((Below.refl _ _).alloc (Nat.le_refl _) _).setCell (Nat.le_refl _) _).setCell (Nat.le_refl _) _).setCell (Nat.le_refl _) _⟩
          · have HX : Hid (R = (0, 0, [])) := by show _ = _; rw [HR2.out]; rfl
            go_wp2_with (go_at_call 47; refine (kf.out _).mono ?_; rintro e w1 ⟨rfl, rfl⟩)
            refine bodyPost_ret (v := .agg #[.int .i64 0, .int .i64 0, .string ⟨#[]⟩]) (by simp [results, Tryd.results22, go_sem]) rfl ?_
            rw [HX.out]
            exact ⟨rfl, by first | exact ((Below.refl _ _).alloc (Nat.le_refl _) _) | exact ((((Below.refl _ _).alloc (Nat.le_refl _) _).setCell (Nat.le_refl _) _).setCell (Nat.le_refl _) _).setCell (Nat.le_refl _) _⟩
        · have HX : Hid (R = (0, 0, [])) := by show _ = _; rw [HR2.out, if_pos (.inl ⟨h6, h8⟩)]
          have f6 : ¬ ((m : Int) + 1 = 7) := by omega
          have f8 : ¬ ((m : Int) + 1 = 9) := by omega
          have e6 : ((m : Int) + 1 == 7) = false := by simp; omega
          have e8 : ((m : Int) + 1 == 9) = false := by simp; omega
          clear h6 h8
          go_wp2_with (go_at_call 47; refine (kf.out _).mono ?_; rintro e w1 ⟨rfl, rfl⟩)
          refine bodyPost_ret (v := .agg #[.int .i64 0, .int .i64 0, .string ⟨#[]⟩]) (by simp [results, Tryd.results22, go_sem]) rfl ?_
          rw [HX.out]
          exact ⟨rfl, by first | exact ((Below.refl _ _).alloc (Nat.le_refl _) _) | exact ((((Below.refl _ _).alloc (Nat.le_refl _) _).setCell (Nat.le_refl _) _).setCell (Nat.le_refl _) _).setCell (Nat.le_refl _) _⟩
    | cons c2 t2 =>
      obtain ⟨hlt, hcc, -⟩ := at_drop s kk c2 t2 hl
      have hks : (kk : Int) < (s.size : Int) := by omega
      have kt := hid'' (fun W => ki.out c2 W)
      have hcd : WP.cdig c2 = (WP.digit c2 || (decide (97 ≤ c2.toNat) && decide (c2.toNat ≤ 102))) := rfl
      obtain ⟨B, hB⟩ : ∃ B, WP.digit c2 = B := ⟨_, rfl⟩
      rw [hB] at kt hcd
      cases B with
      | true =>
        have HM : Hid (N = m + 1 + WP.count WP.cdig (s.data.toList.drop (kk + 1))) := by show _ = _; rw [HM0.out, WP.count_more WP.cdig _ kk c2 t2 hl (by rw [hcd]; rfl)]; omega
        clear hl hB HM0 hcd
        go_wp2_with (go_at_call 45; refine (kt.out _).mono ?_; rintro e w1 ⟨rfl, rfl⟩)
        go_round
        case rel => exact ⟨m + 1, by rw [← HK.out]; go_num, by omega, by rw [← Nat.add_assoc, HK.out]; exact HM⟩
        case measure => simp [intOf]; omega
      | false =>
        by_cases ha : 97 ≤ c2.toNat
        · by_cases hb : c2.toNat ≤ 102
          · have HM : Hid (N = m + 1 + WP.count WP.cdig (s.data.toList.drop (kk + 1))) := by show _ = _; rw [HM0.out, WP.count_more WP.cdig _ kk c2 t2 hl (by rw [hcd]; simp [ha, hb])]; omega
            clear hl hB HM0 hcd
            have hai : (97 : Int) ≤ (c2.toNat : Int) := by omega
            have hbi : (c2.toNat : Int) ≤ 102 := by omega
            clear ha hb
            go_wp2_with (go_at_call 45; refine (kt.out _).mono ?_; rintro e w1 ⟨rfl, rfl⟩)
            go_round
            case rel => exact ⟨m + 1, by rw [← HK.out]; go_num, by omega, by rw [← Nat.add_assoc, HK.out]; exact HM⟩
            case measure => simp [intOf]; omega
          · have HM : Hid (N = m) := by show _ = _; rw [HM0.out, hl]; simp [WP.count, hcd, hb]
            clear hl hB HM0 hcd
            have hai : (97 : Int) ≤ (c2.toNat : Int) := by omega
            have hbi : ¬ ((c2.toNat : Int) ≤ 102) := by omega
            clear ha hb
            have kf := hid'' (fun W => follows_any s kk W hm)
            obtain ⟨G, hG⟩ : ∃ G, WP.glued (s.data.toList.drop kk) = G := ⟨_, rfl⟩
            rw [hG] at kf
            have HR2 : Hid (R = if (m ≠ 6 ∧ m ≠ 8) ∨ G = true then (0, 0, []) else (4, p, (s.data.toList.drop p).take (1 + m))) := by show _ = _; rw [HR.out, HM.out, show p + 1 + m = kk from HK.out, hG]
            have HT : Hid (s.extract p kk = ⟨((s.data.toList.drop p).take (1 + m)).toArray⟩) := by show _ = _; rw [Lib.extract_eq, show kk - p = 1 + m by omega]
            have hpk : p ≤ kk := by omega
            clear hG HR HM hkk
            by_cases h6 : m = 6
            · subst h6
              cases G
              · have HX : Hid (R = (4, p, (s.data.toList.drop p).take (1 + 6))) := by show _ = _; rw [HR2.out]; rfl
                go_wp2_with (first | (go_at_call 45; refine (kt.out _).mono ?_; rintro e w1 ⟨rfl, rfl⟩) | (go_at_call 47; refine (kf.out _).mono ?_; rintro e w1 ⟨rfl, rfl⟩))
                refine bodyPost_ret (v := .agg #[.int .i64 4, .int .i64 p, .string (s.extract p kk)]) (by simp [results, Tryd.results22, go_sem]) rfl ?_
                rw [HX.out]
                exact ⟨by rw [HT.out]; rfl, by first | exact ((Below.refl _ _).alloc (Nat.le_refl _) _) | exact ((((Below.refl _ _).alloc (Nat.le_refl _) _).setCell (Nat.le_refl _) _).setCell (Nat.le_refl _) _).setCell (Nat.le_refl _) _⟩
              · have HX : Hid (R = (0, 0, [])) := by show _ = _; rw [HR2.out]; rfl
                go_wp2_with (first | (go_at_call 45; refine (kt.out _).mono ?_; rintro e w1 ⟨rfl, rfl⟩) | (go_at_call 47; refine (kf.out _).mono ?_; rintro e w1 ⟨rfl, rfl⟩))
                refine bodyPost_ret (v := .agg #[.int .i64 0, .int .i64 0, .string ⟨#[]⟩]) (by simp [results, Tryd.results22, go_sem]) rfl ?_
                rw [HX.out]
                exact ⟨rfl, by first | exact ((Below.refl _ _).alloc (Nat.le_refl _) _) | exact ((((Below.refl _ _).alloc (Nat.le_refl _) _).setCell (Nat.le_refl _) _).setCell (Nat.le_refl _) _).setCell (Nat.le_refl _) _⟩
            · by_cases h8 : m = 8
              · subst h8
                cases G
                · have HX : Hid (R = (4, p, (s.data.toList.drop p).take (1 + 8))) := by show _ = _; rw [HR2.out]; rfl
                  go_wp2_with (first | (go_at_call 45; refine (kt.out _).mono ?_; rintro e w1 ⟨rfl, rfl⟩) | (go_at_call 47; refine (kf.out _).mono ?_; rintro e w1 ⟨rfl, rfl⟩))
                  refine bodyPost_ret (v := .agg #[.int .i64 4, .int .i64 p, .string (s.extract p kk)]) (by simp [results, Tryd.results22, go_sem]) rfl ?_
                  rw [HX.out]
                  exact ⟨by rw [HT.out]; rfl, by first | exact ((Below.refl _ _).alloc (Nat.le_refl _) _) | exact ((((Below.refl _ _).alloc (Nat.le_refl _) _).setCell (Nat.le_refl _) _).setCell (Nat.le_refl _) _).setCell (Nat.le_refl _) _⟩
                · have HX : Hid (R = (0, 0, [])) := by show _ = _; rw [HR2.out]; rfl
                  go_wp2_with (first | (go_at_call 45; refine (kt.out _).mono ?_; rintro e w1 ⟨rfl, rfl⟩) | (go_at_call 47; refine (kf.out _).mono ?_; rintro e w1 ⟨rfl, rfl⟩))
                  refine bodyPost_ret (v := .agg #[.int .i64 0, .int .i64 0, .string ⟨#[]⟩]) (by simp [results, Tryd.results22, go_sem]) rfl ?_
                  rw [HX.out]
                  exact ⟨rfl, by first | exact ((Below.refl _ _).alloc (Nat.le_refl _) _) | exact ((((Below.refl _ _).alloc (Nat.le_refl _) _).setCell (Nat.le_refl _) _).setCell (Nat.le_refl _) _).setCell (Nat.le_refl _) _⟩
              · have HX : Hid (R = (0, 0, [])) := by show _ = _; rw [HR2.out, if_pos (.inl ⟨h6, h8⟩)]
                have f6 : ¬ ((m : Int) + 1 = 7) := by omega
                have f8 : ¬ ((m : Int) + 1 = 9) := by omega
                have e6 : ((m : Int) + 1 == 7) = false := by simp; omega
                have e8 : ((m : Int) + 1 == 9) = false := by simp; omega
                clear h6 h8
                go_wp2_with (first | (go_at_call 45; refine (kt.out _).mono ?_; rintro e w1 ⟨rfl, rfl⟩) | (go_at_call 47; refine (kf.out _).mono ?_; rintro e w1 ⟨rfl, rfl⟩))
                refine bodyPost_ret (v := .agg #[.int .i64 0, .int .i64 0, .string ⟨#[]⟩]) (by simp [results, Tryd.results22, go_sem]) rfl ?_
                rw [HX.out]
                exact ⟨rfl, by first | exact ((Below.refl _ _).alloc (Nat.le_refl _) _) | exact ((((Below.refl _ _).alloc (Nat.le_refl _) _).setCell (Nat.le_refl _) _).setCell (Nat.le_refl _) _).setCell (Nat.le_refl _) _⟩
        · have HM : Hid (N = m) := by show _ = _; rw [HM0.out, hl]; simp [WP.count, hcd, ha]
          clear hl hB HM0 hcd
          have hai : ¬ ((97 : Int) ≤ (c2.toNat : Int)) := by omega
          clear ha
          have kf := hid'' (fun W => follows_any s kk W hm)
          obtain ⟨G, hG⟩ : ∃ G, WP.glued (s.data.toList.drop kk) = G := ⟨_, rfl⟩
          rw [hG] at kf
          have HR2 : Hid (R = if (m ≠ 6 ∧ m ≠ 8) ∨ G = true then (0, 0, []) else (4, p, (s.data.toList.drop p).take (1 + m))) := by show _ = _; rw [HR.out, HM.out, show p + 1 + m = kk from HK.out, hG]
          have HT : Hid (s.extract p kk = ⟨((s.data.toList.drop p).take (1 + m)).toArray⟩) := by show _ = _; rw [Lib.extract_eq, show kk - p = 1 + m by omega]
          have hpk : p ≤ kk := by omega
          clear hG HR HM hkk
          by_cases h6 : m = 6
          · subst h6
            cases G
            · have HX : Hid (R = (4, p, (s.data.toList.drop p).take (1 + 6))) := by show _ = _; rw [HR2.out]; rfl
              go_wp2_with (first | (go_at_call 45; refine (kt.out _).mono ?_; rintro e w1 ⟨rfl, rfl⟩) | (go_at_call 47; refine (kf.out _).mono ?_; rintro e w1 ⟨rfl, rfl⟩))
              refine bodyPost_ret (v := .agg #[.int .i64 4, .int .i64 p, .string (s.extract p kk)]) (by simp [results, Tryd.results22, go_sem]) rfl ?_
              rw [HX.out]
              exact ⟨by rw [HT.out]; rfl, by first | exact ((Below.refl _ _).alloc (Nat.le_refl _) _) | exact ((((Below.refl _ _).alloc (Nat.le_refl _) _).setCell (Nat.le_refl _) _).setCell (Nat.le_refl _) _).setCell (Nat.le_refl _) _⟩
            · have HX : Hid (R = (0, 0, [])) := by show _ = _; rw [HR2.out]; rfl
              go_wp2_with (first | (go_at_call 45; refine (kt.out _).mono ?_; rintro e w1 ⟨rfl, rfl⟩) | (go_at_call 47; refine (kf.out _).mono ?_; rintro e w1 ⟨rfl, rfl⟩))
              refine bodyPost_ret (v := .agg #[.int .i64 0, .int .i64 0, .string ⟨#[]⟩]) (by simp [results, Tryd.results22, go_sem]) rfl ?_
              rw [HX.out]
              exact ⟨rfl, by first | exact ((Below.refl _ _).alloc (Nat.le_refl _) _) | exact ((((Below.refl _ _).alloc (Nat.le_refl _) _).setCell (Nat.le_refl _) _).setCell (Nat.le_refl _) _).setCell (Nat.le_refl _) _⟩
          · by_cases h8 : m = 8
            · subst h8
              cases G
              · have HX : Hid (R = (4, p, (s.data.toList.drop p).take (1 + 8))) := by show _ = _; rw [HR2.out]; rfl
                go_wp2_with (first | (go_at_call 45; refine (kt.out _).mono ?_; rintro e w1 ⟨rfl, rfl⟩) | (go_at_call 47; refine (kf.out _).mono ?_; rintro e w1 ⟨rfl, rfl⟩))
                refine bodyPost_ret (v := .agg #[.int .i64 4, .int .i64 p, .string (s.extract p kk)]) (by simp [results, Tryd.results22, go_sem]) rfl ?_
                rw [HX.out]
                exact ⟨by rw [HT.out]; rfl, by first | exact ((Below.refl _ _).alloc (Nat.le_refl _) _) | exact ((((Below.refl _ _).alloc (Nat.le_refl _) _).setCell (Nat.le_refl _) _).setCell (Nat.le_refl _) _).setCell (Nat.le_refl _) _⟩
              · have HX : Hid (R = (0, 0, [])) := by show _ = _; rw [HR2.out]; rfl
                go_wp2_with (first | (go_at_call 45; refine (kt.out _).mono ?_; rintro e w1 ⟨rfl, rfl⟩) | (go_at_call 47; refine (kf.out _).mono ?_; rintro e w1 ⟨rfl, rfl⟩))
                refine bodyPost_ret (v := .agg #[.int .i64 0, .int .i64 0, .string ⟨#[]⟩]) (by simp [results, Tryd.results22, go_sem]) rfl ?_
                rw [HX.out]
                exact ⟨rfl, by first | exact ((Below.refl _ _).alloc (Nat.le_refl _) _) | exact ((((Below.refl _ _).alloc (Nat.le_refl _) _).setCell (Nat.le_refl _) _).setCell (Nat.le_refl _) _).setCell (Nat.le_refl _) _⟩
            · have HX : Hid (R = (0, 0, [])) := by show _ = _; rw [HR2.out, if_pos (.inl ⟨h6, h8⟩)]
              have f6 : ¬ ((m : Int) + 1 = 7) := by omega
              have f8 : ¬ ((m : Int) + 1 = 9) := by omega
              have e6 : ((m : Int) + 1 == 7) = false := by simp; omega
              have e8 : ((m : Int) + 1 == 9) = false := by simp; omega
              clear h6 h8
              go_wp2_with (first | (go_at_call 45; refine (kt.out _).mono ?_; rintro e w1 ⟨rfl, rfl⟩) | (go_at_call 47; refine (kf.out _).mono ?_; rintro e w1 ⟨rfl, rfl⟩))
              refine bodyPost_ret (v := .agg #[.int .i64 0, .int .i64 0, .string ⟨#[]⟩]) (by simp [results, Tryd.results22, go_sem]) rfl ?_
              rw [HX.out]
              exact ⟨rfl, by first | exact ((Below.refl _ _).alloc (Nat.le_refl _) _) | exact ((((Below.refl _ _).alloc (Nat.le_refl _) _).setCell (Nat.le_refl _) _).setCell (Nat.le_refl _) _).setCell (Nat.le_refl _) _⟩

set_option maxRecDepth 20000 in
set_option maxHeartbeats 2000000 in
theorem rword_none (s : ByteArray) (p : Nat) (R : WP.W) (c : UInt8) (w : World) (hp : p < s.size) (hc : ∀ h, s[p]'h = c) (h1 : WP.small c = false) (h2 : WP.digit c = false) (hne : ∀ k : Int, k = 45 ∨ k = 35 ∨ k = 123 ∨ k = 125 ∨ k = 59 ∨ k = 61 ∨ k = 77 ∨ k = 76 ∨ k = 81 ∨ k = 67 ∨ k = 65 ∨ k = 66 ∨ k = 90 → ((c.toNat : Int) == k) = false) (hR : R = (0, 0, [])) :
    Calls Tryd.prog 22 #[.string s, .int .i64 p] w (RWPost w R) := by
  have HX := hid'' hR
  have k1 := hid'' (fun W => rlow_any c W)
  rw [h1] at k1
  have k2 := hid'' (fun W => rdigit_any c W)
  rw [h2] at k2
  have e45 := hne 45 (by simp)
  have e35 := hne 35 (by simp)
  have e123 := hne 123 (by simp)
  have e125 := hne 125 (by simp)
  have e59 := hne 59 (by simp)
  have e61 := hne 61 (by simp)
  have e77 := hne 77 (by simp)
  have e76 := hne 76 (by simp)
  have e81 := hne 81 (by simp)
  have e67 := hne 67 (by simp)
  have e65 := hne 65 (by simp)
  have e66 := hne 66 (by simp)
  have e90 := hne 90 (by simp)
  clear hne hR h1 h2
  go_enter Tryd.func22, Tryd.ntmps22
  go_wp2_with (first | (go_at_call 26; refine (k1.out _).mono ?_; rintro e w1 ⟨rfl, rfl⟩) | (go_at_call 45; refine (k2.out _).mono ?_; rintro e w1 ⟨rfl, rfl⟩))
  refine bodyPost_ret (v := .agg #[.int .i64 0, .int .i64 0, .string ⟨#[]⟩]) (by simp [results, Tryd.results22, go_sem]) rfl ?_
  rw [HX.out]
  exact ⟨rfl, by first | exact ((Below.refl _ _).alloc (Nat.le_refl _) _) | exact ((((Below.refl _ _).alloc (Nat.le_refl _) _).setCell (Nat.le_refl _) _).setCell (Nat.le_refl _) _).setCell (Nat.le_refl _) _⟩

end Go.Proofs.YtbniikaebkmbhaaDoor

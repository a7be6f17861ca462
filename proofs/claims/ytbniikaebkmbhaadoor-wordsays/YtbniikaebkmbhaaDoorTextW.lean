/-
  A text made of few numbers, no longer than so: walked over the statements' helper.
-/
import Derived.Test.YtbniikaebkmbhaaDoorItemsW
import Derived.Deep.Cut
import Derived.Deep.CutRange
namespace Go.Proofs.YtbniikaebkmbhaaDoor
open Go.RowKit

theorem max_nat (a b : Nat) (ha : (a : Int) < 24) (hb : (b : Int) < 24) : ∃ r : Nat, max (1 + (a : Int)) (1 + (b : Int)) = (r : Int) ∧ 1 ≤ r ∧ r ≤ 24 := ⟨max (1 + a) (1 + b), by omega, by omega, by omega⟩
theorem more_st (w0 : World) (q m : Nat) (W : World) (h : Hid (St w0 q m W)) :
    Calls Tryd.prog 15 #[.pointer (some ⟨q, 0, none⟩)] W fun e w' => ∃ b : Bool, e = .returned (.bool b) ∧ Hid (St w0 q m w') := by
  refine (more_any q m W h.out.1).mono ?_
  rintro e w' ⟨⟨b, rfl⟩, hs, hb⟩
  exact ⟨b, rfl, hs, Mk.trans h.out.2 (Mk.below hb)⟩

set_option maxRecDepth 100000 in
set_option maxHeartbeats 4000000 in
theorem text_st (w0 : World) (q m : Nat) (W : World) (h : Hid (St w0 q m W)) (hm : m ≤ 1000) :
    Calls Tryd.prog 5 #[.pointer (some ⟨q, 0, none⟩)] W fun e w' => ∃ S : ByteArray, e = .returned (.string S) ∧ S.size ≤ 60000 ∧ Hid (St w0 q (m + 4000) w') := by
  go_enter Tryd.func5, Tryd.ntmps5
  go_upto_if 28 with (first
    | (have v1 := u1; go_at_call 12; with_reducible refine (next_st w0 q _ 24 _ (by assumption) (by omega) (by omega) (by omega)).mono ?_; rintro e w2 ⟨rb, rfl, hrb, hk2, h2⟩; obtain ⟨far, hfar, hf1, hf⟩ := max_nat ra rb (by omega) (by omega))
    | (go_at_call 12; with_reducible refine (next_st w0 q _ 24 _ (by assumption) (by omega) (by omega) (by omega)).mono ?_; rintro e w2 ⟨ra, rfl, hra, hk2, h2⟩; have u1 : True := trivial)
    | (go_at_call 12; with_reducible refine (next_st w0 q _ _ _ (by assumption) (by omega) (by omega) (by omega)).mono ?_; rintro e w2 ⟨r, rfl, hr, hk2, h2⟩)
    | (go_at_call 13; with_reducible refine (itoa_any _ (by omega) (by omega) _).mono ?_; rintro e w3 ⟨T, rfl, hT, rfl⟩))
  go_cut [6] from 28 (fun t x => ∃ (S : ByteArray) (m' : Nat), t = .string S ∧ S.size ≤ 30 ∧ m' ≤ m + 10 ∧ Hid (St w0 q m' x))
  case first =>
    go_wp2_with (first
      | (go_at_call 12; with_reducible refine (next_st w0 q _ _ _ (by assumption) (by omega) (by omega) (by omega)).mono ?_; rintro e w2 ⟨r, rfl, hr, hk2, h2⟩)
      | (go_at_call 13; with_reducible refine (itoa_any _ (by omega) (by omega) _).mono ?_; rintro e w3 ⟨T, rfl, hT, rfl⟩))
    all_goals
      go_meet
      case rel =>
        refine ⟨_, _, rfl, ?_, ?_, (by assumption)⟩
        · first | omega | (simp only [ByteArray.size_append, size_mk, List.length_cons, List.length_nil]; push_cast; omega)
        · omega
  case rest =>
    obtain ⟨S0, m0, rfl, hS0, hm0, h0⟩ := hcut
    rename World => wa
    go_upto_if 39 with (first
      | (go_at_call 12; with_reducible refine (next_st w0 q _ _ _ (by assumption) (by omega) (by omega) (by omega)).mono ?_; rintro e w2 ⟨r, rfl, hr, hk2, h2⟩))
    go_cut [6] from 39 (fun t x => ∃ (S : ByteArray) (m' : Nat), t = .string S ∧ S.size ≤ 200 ∧ m' ≤ m + 20 ∧ Hid (St w0 q m' x))
    case first =>
      go_wp2
      all_goals
        go_meet
        case rel =>
          refine ⟨_, _, rfl, ?_, ?_, (by assumption)⟩
          · first | omega | (simp only [ByteArray.size_append, size_mk, List.length_cons, List.length_nil]; push_cast; omega)
          · omega
    case rest =>
      obtain ⟨S1, m1, rfl, hS1, hm1, h1⟩ := hcut
      rename World => wb
      go_wp2_with (first
        | (go_at_call 12; with_reducible refine (next_st w0 q _ _ _ (by assumption) (by omega) (by omega) (by omega)).mono ?_; rintro e w2 ⟨r, rfl, hr, hk2, h2⟩))
      rename World => wd
      go_loopw [6, 8] (fun t i wr => ∃ (S : ByteArray) (k m2 : Nat), t = .string S ∧ i = .int .i64 (k : Int) ∧ (k : Int) ≤ r ∧ (S.size : Int) ≤ 300 + 1700 * k ∧ (m2 : Int) ≤ m + 30 + 410 * k ∧ Hid (St w0 q m2 wr)) (fun _ i _ => (3 - intOf i).toNat)
      case atStart =>
        refine ⟨_, 0, _, rfl, rfl, ?_, ?_, ?_, (by assumption)⟩
        · omega
        · first | omega | (simp only [ByteArray.size_append, size_mk, List.length_cons, List.length_nil]; push_cast; omega)
        · push_cast; omega
      case round =>
        obtain ⟨S2, k, m2, rfl, rfl, hk, hS2, hm2, h2⟩ := hrel
        by_cases hkr : (k : Int) < (r : Int)
        · go_wp2_with (first
          | (go_at_call 14; with_reducible refine (items_st w0 q _ far _ _ (by assumption) (by omega) hf (by omega)).mono ?_; rintro e w2 ⟨Si, rfl, hSi, h2⟩)
          | (go_at_call 13; with_reducible refine (itoa_any _ (by omega) (by omega) _).mono ?_; rintro e w3 ⟨T, rfl, hT, rfl⟩))
          refine ⟨⟨_, k + 1, _, rfl, by go_num, ?_, ?_, ?_, (by assumption)⟩, ?_⟩
          · push_cast; omega
          · first | omega | (simp only [ByteArray.size_append, size_mk, List.length_cons, List.length_nil]; push_cast; omega)
          · push_cast; omega
          · simp only [intOf]; omega
        · go_wp2_with (first
          | (go_at_call 12; with_reducible refine (next_st w0 q _ _ _ (by assumption) (by omega) (by omega) (by omega)).mono ?_; rintro e w2 ⟨r, rfl, hr, hk2, h2⟩))
          rename World => we
          go_loopw [6, 9] (fun t i wr => ∃ (S : ByteArray) (I : Int) (m3 : Nat), t = .string S ∧ i = .int .i64 I ∧ -1 ≤ I ∧ I ≤ 3 ∧ (S.size : Int) + 1800 * (I + 1) ≤ 12000 ∧ (m3 : Int) + 450 * (I + 1) ≤ m + 3500 ∧ Hid (St w0 q m3 wr)) (fun _ i _ => (intOf i + 1).toNat)
          case atStart =>
            refine ⟨_, _, _, rfl, rfl, ?_, ?_, ?_, ?_, (by assumption)⟩
            · omega
            · omega
            · first | omega | (simp only [ByteArray.size_append, size_mk, List.length_cons, List.length_nil]; push_cast; omega)
            · push_cast; omega
          case round =>
            obtain ⟨S, I, m3, rfl, rfl, hI1, hI2, hSz, hm3, h3⟩ := hrel
            by_cases hI : 0 ≤ I
            · go_wp2_with (first
              | (go_at_call 15; with_reducible refine (more_st w0 q _ _ (by assumption)).mono ?_; rintro e w2 ⟨bm, rfl, h2⟩)
              | (go_at_call 12; with_reducible refine (next_st w0 q _ 5 _ (St.alloc (by assumption) _) (by omega) (by omega) (by omega)).mono ?_; rintro e w2 ⟨r2, rfl, hr2, hk2, h2⟩; obtain ⟨S3, hS3, hc3⟩ := (cells_of 5 8 hk2 (St.lt (by assumption)) rfl rfl).out r2 (by omega))
              | (go_at_call 12; with_reducible refine (next_st w0 q _ 2 _ (St.alloc (by assumption) _) (by omega) (by omega) (by omega)).mono ?_; rintro e w2 ⟨r2, rfl, hr2, hk2, h2⟩; obtain ⟨S3, hS3, hc3⟩ := (cells_of 2 8 hk2 (St.lt (by assumption)) rfl rfl).out r2 (by omega))
              | (go_at_call 14; with_reducible refine (items_st w0 q _ far _ _ (by assumption) (by omega) hf (by omega)).mono ?_; rintro e w2 ⟨Si, rfl, hSi, h2⟩)
              | (go_at_call 16; with_reducible refine (ref_st w0 q _ _ (by assumption) (by omega)).mono ?_; rintro e w2 ⟨Sr, rfl, hSr, h2⟩)
              | (go_at_call 17; with_reducible refine (val_st w0 q _ far _ (by assumption) (by omega) hf).mono ?_; rintro e w2 ⟨Sv, rfl, hSv, h2⟩)
              | (go_at_call 12; with_reducible refine (next_st w0 q _ _ _ (by assumption) (by omega) (by omega) (by omega)).mono ?_; rintro e w2 ⟨r, rfl, hr, hk2, h2⟩)
              | (go_at_call 13; with_reducible refine (itoa_any _ (by omega) (by omega) _).mono ?_; rintro e w3 ⟨T, rfl, hT, rfl⟩))
              · refine ⟨⟨_, I - 1, _, rfl, rfl, ?_, ?_, ?_, ?_, (by assumption)⟩, ?_⟩
                · omega
                · omega
                · first | omega | (simp only [ByteArray.size_append, size_mk, List.length_cons, List.length_nil]; push_cast; omega)
                · push_cast; omega
                · simp only [intOf]; omega
              · refine ⟨⟨_, I - 1, _, rfl, rfl, ?_, ?_, ?_, ?_, (by assumption)⟩, ?_⟩
                · omega
                · omega
                · first | omega | (simp only [ByteArray.size_append, size_mk, List.length_cons, List.length_nil]; push_cast; omega)
                · push_cast; omega
                · simp only [intOf]; omega
              · refine ⟨⟨_, I - 1, _, rfl, rfl, ?_, ?_, ?_, ?_, (by assumption)⟩, ?_⟩
                · omega
                · omega
                · first | omega | (simp only [ByteArray.size_append, size_mk, List.length_cons, List.length_nil]; push_cast; omega)
                · push_cast; omega
                · simp only [intOf]; omega
              · refine ⟨⟨_, I - 1, _, rfl, rfl, ?_, ?_, ?_, ?_, (by assumption)⟩, ?_⟩
                · omega
                · omega
                · first | omega | (simp only [ByteArray.size_append, size_mk, List.length_cons, List.length_nil]; push_cast; omega)
                · push_cast; omega
                · simp only [intOf]; omega
              · refine ⟨⟨_, I - 1, _, rfl, rfl, ?_, ?_, ?_, ?_, (by assumption)⟩, ?_⟩
                · omega
                · omega
                · first | omega | (simp only [ByteArray.size_append, size_mk, List.length_cons, List.length_nil]; push_cast; omega)
                · push_cast; omega
                · simp only [intOf]; omega
              · refine ⟨⟨_, I - 1, _, rfl, rfl, ?_, ?_, ?_, ?_, (by assumption)⟩, ?_⟩
                · omega
                · omega
                · first | omega | (simp only [ByteArray.size_append, size_mk, List.length_cons, List.length_nil]; push_cast; omega)
                · push_cast; omega
                · simp only [intOf]; omega
              · go_ret
                exact ⟨_, rfl, by omega, St.more (by assumption) (by omega)⟩
            · go_wp2
              go_ret
              exact ⟨_, rfl, by omega, St.more h3 (by omega)⟩

end Go.Proofs.YtbniikaebkmbhaaDoor

import Derived.Test.YtenmkopiddmieabGreatDoorTxA
import Derived.Deep.Cut
import Derived.Deep.CutRange
/-
  Items made of few numbers, no longer than so: walked over the statements' helper.
-/
namespace Go.Proofs.YtenmkopiddmieabGreatDoor.TX
open Go.RowKit

theorem st_ne {q : Nat} {W w1 : World} {o : Obj} (_hm : Hid (Mk q (W.alloc o) w1)) (h : q < W.heap.size) : Hid (q ≠ W.heap.size) := Nat.ne_of_lt h
theorem ints_new (W : World) (o : Obj) (t : TypeId) (k : Nat) (hk : k < 6) : ∃ d : Int, 0 ≤ d ∧ d ≤ 6 ∧ ((W.alloc o).alloc (.cells #[.int .i64 2, .int .i64 4, .int .i64 6, .int .i64 2, .int .i64 2, .int .i64 2] t)).cell? ⟨W.heap.size + 1, k, none⟩ = some (.int .i64 d) := by
  have e : ∀ a : Array Value, ((W.alloc o).alloc (.cells a t)).cell? ⟨W.heap.size + 1, k, none⟩ = a[k]? := fun a => by
    have := cell_new (W.alloc o) a t (0, 0) k
    rw [size_alloc] at this
    exact this
  rw [e]
  have : k = 0 ∨ k = 1 ∨ k = 2 ∨ k = 3 ∨ k = 4 ∨ k = 5 := by omega
  rcases this with rfl | rfl | rfl | rfl | rfl | rfl <;> exact ⟨_, by decide, by decide, rfl⟩

set_option maxRecDepth 100000 in
set_option maxHeartbeats 4000000 in
theorem items_st (w0 : World) (q m far shapes : Nat) (W : World) (h : Hid (St w0 q m W)) (hm : m ≤ 800000) (hf : far ≤ 24) (hs : shapes ≤ 2) :
    Calls Tryz.prog 10 #[.pointer (some ⟨q, 0, none⟩), .int .i64 far, .int .i64 shapes] W fun e w' => ∃ S : ByteArray, e = .returned (.string S) ∧ S.size ≤ 1515 ∧ Hid (St w0 q (m + 400) w') := by
  go_enter Tryz.func10, Tryz.ntmps10
  go_wp2_with (go_at_call 8; with_reducible refine (next_st w0 q _ 3 _ h (by omega) (by omega) (by omega)).mono ?_; rintro e w1 ⟨r0, rfl, hr0, hk1, h1⟩)
  go_loopw [7, 8] (fun t i wr => ∃ (S : ByteArray) (I : Int) (m' : Nat), t = .string S ∧ i = .int .i64 I ∧ -1 ≤ I ∧ I ≤ 2 ∧ (S.size : Int) + 500 * (I + 1) ≤ 1510 ∧ (m' : Int) + 120 * (I + 1) ≤ m + 361 ∧ Hid (St w0 q m' wr)) (fun _ i _ => (intOf i + 1).toNat)
  case atStart => exact ⟨_, _, _, rfl, rfl, by omega, by omega, by rw [show (⟨#[32, 123, 10]⟩ : ByteArray).size = 3 from rfl]; omega, by push_cast; omega, h1⟩
  case round =>
    clear h1 hk1 h
    obtain ⟨S, I, m', rfl, rfl, hI1, hI2, hSz, hm', hst⟩ := hrel
    by_cases hI : 0 ≤ I
    · by_cases hsh : 0 < shapes
      · have hshi : (0 : Int) < (shapes : Int) := by omega
        go_wp2_with (first
          | (have v2 := HG; go_at_call 8; with_reducible refine (next_st w0 q _ 12 _ (by assumption) (by omega) (by omega) (by omega)).mono ?_; rintro e w3 ⟨r9, rfl, hr9, hk3, h3⟩; obtain ⟨r, hr, hra, hrb⟩ := min_nat r6 r9; obtain ⟨S2, hS2, hc⟩ := (cells_on HG hk3 HQ.out HZ.out).out r (by omega))
          | (go_at_call 8; with_reducible refine (next_st w0 q _ 6 _ (St.alloc (by assumption) _) (by omega) (by omega) (by omega)).mono ?_; rintro e w2 ⟨r6, rfl, hr6, hk2, h2⟩; have HG := cells_of 6 8 hk2 (St.lt (by assumption)) rfl rfl; have HZ := Lib.hid (cells_lt hk2); have HQ := st_ne hk2 (St.lt (by assumption)))
          | (go_at_call 8; with_reducible refine (next_st w0 q _ 2 _ (St.alloc (by assumption) _) (by omega) (by omega) (by omega)).mono ?_; rintro e w2 ⟨r2, rfl, hr2, hk2, h2⟩; obtain ⟨S3, hS3, hc3⟩ := (cells_of 2 8 hk2 (St.lt (by assumption)) rfl rfl).out r2 (by omega))
          | (go_at_call 8; with_reducible refine (next_st w0 q _ _ _ (by assumption) (by omega) (by omega) (by omega)).mono ?_; rintro e w2 ⟨r, rfl, hr, hk2, h2⟩)
          | (go_at_call 13; with_reducible refine (val_st w0 q _ far _ (by assumption) (by omega) hf).mono ?_; rintro e w2 ⟨Sv, rfl, hSv, h2⟩)
          | (go_at_call 9; with_reducible refine (itoa_any _ (by omega) (by omega) _).mono ?_; rintro e w3 ⟨T, rfl, hT, rfl⟩))
        · refine ⟨⟨_, I - 1, _, rfl, rfl, ?_, ?_, ?_, ?_, (by assumption)⟩, ?_⟩
          · omega
          · omega
          · first | omega | (simp only [ByteArray.size_append, size_mk, List.length_cons, List.length_nil]; push_cast; omega)
          · push_cast; omega
          · simp only [intOf]; omega
        · refine ⟨⟨_, I - 1, _, rfl, rfl, ?_, ?_, ?_, ?_, (by assumption)⟩, ?_⟩
          · omega
          · omega
          · first | omega | (simp only [ByteArray.size_append, size_mk, List.length_cons, List.length_nil]; push_cast; omega)
          · push_cast; omega
          · simp only [intOf]; omega
        · refine ⟨⟨_, I - 1, _, rfl, rfl, ?_, ?_, ?_, ?_, (by assumption)⟩, ?_⟩
          · omega
          · omega
          · first | omega | (simp only [ByteArray.size_append, size_mk, List.length_cons, List.length_nil]; push_cast; omega)
          · push_cast; omega
          · simp only [intOf]; omega
        · refine ⟨⟨_, I - 1, _, rfl, rfl, ?_, ?_, ?_, ?_, (by assumption)⟩, ?_⟩
          · omega
          · omega
          · first | omega | (simp only [ByteArray.size_append, size_mk, List.length_cons, List.length_nil]; push_cast; omega)
          · push_cast; omega
          · simp only [intOf]; omega
        · rename World => wa
          go_loopw [7, 9] (fun t i wr => ∃ (S1 : ByteArray) (K : Int) (m1 : Nat), t = .string S1 ∧ i = .int .i64 K ∧ -1 ≤ K ∧ K ≤ 3 ∧ (S1.size : Int) + 90 * (K + 1) ≤ S.size + 392 ∧ (m1 : Int) + 20 * (K + 1) ≤ m' + 88 ∧ Hid (St w0 q m1 wr)) (fun _ i _ => (intOf i + 1).toNat)
          case atStart =>
            refine ⟨_, _, _, rfl, rfl, ?_, ?_, ?_, ?_, (by assumption)⟩
            · omega
            · omega
            · first | omega | (simp only [ByteArray.size_append, size_mk, List.length_cons, List.length_nil]; push_cast; omega)
            · push_cast; omega
          case round =>
            obtain ⟨S1, K, m1, rfl, rfl, hK1, hK2, hSz1, hm1, hst1⟩ := hrel
            by_cases hK : 0 ≤ K
            · go_wp2_with (first
                | (go_at_call 8; with_reducible refine (next_st w0 q _ 6 _ (by assumption) (by omega) (by omega) (by omega)).mono ?_; rintro e w2 ⟨r, rfl, hr, hk2, h2⟩; obtain ⟨Sx, hSx, hcx⟩ := cells_new w2 #[.string ⟨#[76]⟩, .string ⟨#[81]⟩, .string ⟨#[67]⟩, .string ⟨#[65]⟩, .string ⟨#[66]⟩, .string ⟨#[76]⟩] 9 6 1 rfl rfl r (by omega); obtain ⟨d, hd1, hd2, hcd⟩ := ints_new w2 (.cells #[.string ⟨#[76]⟩, .string ⟨#[81]⟩, .string ⟨#[67]⟩, .string ⟨#[65]⟩, .string ⟨#[66]⟩, .string ⟨#[76]⟩] 9) 3 r (by omega); have h4 := St.alloc (St.alloc h2 (.cells #[.string ⟨#[76]⟩, .string ⟨#[81]⟩, .string ⟨#[67]⟩, .string ⟨#[65]⟩, .string ⟨#[66]⟩, .string ⟨#[76]⟩] 9)) (.cells #[.int .i64 2, .int .i64 4, .int .i64 6, .int .i64 2, .int .i64 2, .int .i64 2] 3)))
              rename World => wb
              go_loopw [7, 11] (fun t i wr => ∃ (S2 : ByteArray) (J : Int) (m2 : Nat), t = .string S2 ∧ i = .int .i64 J ∧ 0 ≤ J ∧ J ≤ 6 ∧ (S2.size : Int) + 13 * J ≤ S1.size + 80 ∧ (m2 : Int) + 3 * J ≤ m1 + 19 ∧ Hid (St w0 q m2 wr)) (fun _ i _ => (intOf i).toNat)
              case atStart =>
                refine ⟨_, _, _, rfl, rfl, ?_, ?_, ?_, ?_, h4⟩
                · omega
                · omega
                · first | omega | (simp only [ByteArray.size_append, size_mk, List.length_cons, List.length_nil]; push_cast; omega)
                · push_cast; omega
              case round =>
                obtain ⟨S2, J, m2, rfl, rfl, hJ1, hJ2, hSz2, hm2, hst2⟩ := hrel
                by_cases hJ : 0 < J
                · go_wp2_with (first
                    | (go_at_call 13; with_reducible refine (val_st w0 q _ far _ (by assumption) (by omega) hf).mono ?_; rintro e w2 ⟨Sv, rfl, hSv, h2⟩))
                  refine ⟨⟨_, J - 1, _, rfl, rfl, ?_, ?_, ?_, ?_, (by assumption)⟩, ?_⟩
                  · omega
                  · omega
                  · first | omega | (simp only [ByteArray.size_append, size_mk, List.length_cons, List.length_nil]; push_cast; omega)
                  · push_cast; omega
                  · simp only [intOf]; omega
                · go_wp2
                  refine ⟨⟨_, K - 1, _, rfl, rfl, ?_, ?_, ?_, ?_, (by assumption)⟩, ?_⟩
                  · omega
                  · omega
                  · first | omega | (simp only [ByteArray.size_append, size_mk, List.length_cons, List.length_nil]; push_cast; omega)
                  · push_cast; omega
                  · simp only [intOf]; omega
            · go_wp2_with (first
                | (go_at_call 8; with_reducible refine (next_st w0 q _ 2 _ (St.alloc (by assumption) _) (by omega) (by omega) (by omega)).mono ?_; rintro e w2 ⟨r2, rfl, hr2, hk2, h2⟩; obtain ⟨S3, hS3, hc3⟩ := (cells_of 2 8 hk2 (St.lt (by assumption)) rfl rfl).out r2 (by omega))
                | (go_at_call 8; with_reducible refine (next_st w0 q _ _ _ (by assumption) (by omega) (by omega) (by omega)).mono ?_; rintro e w2 ⟨r, rfl, hr, hk2, h2⟩))
              all_goals
                refine ⟨⟨_, I - 1, _, rfl, rfl, ?_, ?_, ?_, ?_, (by assumption)⟩, ?_⟩
                · omega
                · omega
                · first | omega | (simp only [ByteArray.size_append, size_mk, List.length_cons, List.length_nil]; push_cast; omega)
                · push_cast; omega
                · simp only [intOf]; omega
      · have hshi : decide (0 < shapes) = false := by simp; omega
        go_wp2_with (first
          | (go_at_call 8; with_reducible refine (next_st w0 q _ _ _ (by assumption) (by omega) (by omega) (by omega)).mono ?_; rintro e w2 ⟨r, rfl, hr, hk2, h2⟩)
          | (go_at_call 13; with_reducible refine (val_st w0 q _ far _ (by assumption) (by omega) hf).mono ?_; rintro e w2 ⟨Sv, rfl, hSv, h2⟩))
        rename World => wa
        go_loopw [7, 9] (fun t i wr => ∃ (S1 : ByteArray) (K : Int) (m1 : Nat), t = .string S1 ∧ i = .int .i64 K ∧ -1 ≤ K ∧ K ≤ 3 ∧ (S1.size : Int) + 90 * (K + 1) ≤ S.size + 392 ∧ (m1 : Int) + 20 * (K + 1) ≤ m' + 88 ∧ Hid (St w0 q m1 wr)) (fun _ i _ => (intOf i + 1).toNat)
        case atStart =>
          refine ⟨_, _, _, rfl, rfl, ?_, ?_, ?_, ?_, (by assumption)⟩
          · omega
          · omega
          · first | omega | (simp only [ByteArray.size_append, size_mk, List.length_cons, List.length_nil]; push_cast; omega)
          · push_cast; omega
        case round =>
          obtain ⟨S1, K, m1, rfl, rfl, hK1, hK2, hSz1, hm1, hst1⟩ := hrel
          by_cases hK : 0 ≤ K
          · go_wp2_with (first
              | (go_at_call 8; with_reducible refine (next_st w0 q _ 6 _ (by assumption) (by omega) (by omega) (by omega)).mono ?_; rintro e w2 ⟨r, rfl, hr, hk2, h2⟩; obtain ⟨Sx, hSx, hcx⟩ := cells_new w2 #[.string ⟨#[76]⟩, .string ⟨#[81]⟩, .string ⟨#[67]⟩, .string ⟨#[65]⟩, .string ⟨#[66]⟩, .string ⟨#[76]⟩] 9 6 1 rfl rfl r (by omega); obtain ⟨d, hd1, hd2, hcd⟩ := ints_new w2 (.cells #[.string ⟨#[76]⟩, .string ⟨#[81]⟩, .string ⟨#[67]⟩, .string ⟨#[65]⟩, .string ⟨#[66]⟩, .string ⟨#[76]⟩] 9) 3 r (by omega); have h4 := St.alloc (St.alloc h2 (.cells #[.string ⟨#[76]⟩, .string ⟨#[81]⟩, .string ⟨#[67]⟩, .string ⟨#[65]⟩, .string ⟨#[66]⟩, .string ⟨#[76]⟩] 9)) (.cells #[.int .i64 2, .int .i64 4, .int .i64 6, .int .i64 2, .int .i64 2, .int .i64 2] 3)))
            rename World => wb
            go_loopw [7, 11] (fun t i wr => ∃ (S2 : ByteArray) (J : Int) (m2 : Nat), t = .string S2 ∧ i = .int .i64 J ∧ 0 ≤ J ∧ J ≤ 6 ∧ (S2.size : Int) + 13 * J ≤ S1.size + 80 ∧ (m2 : Int) + 3 * J ≤ m1 + 19 ∧ Hid (St w0 q m2 wr)) (fun _ i _ => (intOf i).toNat)
            case atStart =>
              refine ⟨_, _, _, rfl, rfl, ?_, ?_, ?_, ?_, h4⟩
              · omega
              · omega
              · first | omega | (simp only [ByteArray.size_append, size_mk, List.length_cons, List.length_nil]; push_cast; omega)
              · push_cast; omega
            case round =>
              obtain ⟨S2, J, m2, rfl, rfl, hJ1, hJ2, hSz2, hm2, hst2⟩ := hrel
              by_cases hJ : 0 < J
              · go_wp2_with (first
                  | (go_at_call 13; with_reducible refine (val_st w0 q _ far _ (by assumption) (by omega) hf).mono ?_; rintro e w2 ⟨Sv, rfl, hSv, h2⟩))
                refine ⟨⟨_, J - 1, _, rfl, rfl, ?_, ?_, ?_, ?_, (by assumption)⟩, ?_⟩
                · omega
                · omega
                · first | omega | (simp only [ByteArray.size_append, size_mk, List.length_cons, List.length_nil]; push_cast; omega)
                · push_cast; omega
                · simp only [intOf]; omega
              · go_wp2
                refine ⟨⟨_, K - 1, _, rfl, rfl, ?_, ?_, ?_, ?_, (by assumption)⟩, ?_⟩
                · omega
                · omega
                · first | omega | (simp only [ByteArray.size_append, size_mk, List.length_cons, List.length_nil]; push_cast; omega)
                · push_cast; omega
                · simp only [intOf]; omega
          · go_wp2_with (first
              | (go_at_call 8; with_reducible refine (next_st w0 q _ 2 _ (St.alloc (by assumption) _) (by omega) (by omega) (by omega)).mono ?_; rintro e w2 ⟨r2, rfl, hr2, hk2, h2⟩; obtain ⟨S3, hS3, hc3⟩ := (cells_of 2 8 hk2 (St.lt (by assumption)) rfl rfl).out r2 (by omega))
              | (go_at_call 8; with_reducible refine (next_st w0 q _ _ _ (by assumption) (by omega) (by omega) (by omega)).mono ?_; rintro e w2 ⟨r, rfl, hr, hk2, h2⟩))
            all_goals
              refine ⟨⟨_, I - 1, _, rfl, rfl, ?_, ?_, ?_, ?_, (by assumption)⟩, ?_⟩
              · omega
              · omega
              · first | omega | (simp only [ByteArray.size_append, size_mk, List.length_cons, List.length_nil]; push_cast; omega)
              · push_cast; omega
              · simp only [intOf]; omega
    · go_wp2
      go_ret
      exact ⟨_, rfl, by first | omega | (simp only [ByteArray.size_append, size_mk, List.length_cons, List.length_nil]; push_cast; omega), St.more hst (by omega)⟩

end Go.Proofs.YtenmkopiddmieabGreatDoor.TX

/-
  A text made of few numbers, no longer than so: walked over the statements' helper.
-/
namespace Go.Proofs.YtenmkopiddmieabGreatDoor.TX
open Go.RowKit

theorem max_nat (a b : Nat) (ha : (a : Int) < 24) (hb : (b : Int) < 24) : ∃ r : Nat, max (1 + (a : Int)) (1 + (b : Int)) = (r : Int) ∧ 1 ≤ r ∧ r ≤ 24 := ⟨max (1 + a) (1 + b), by omega, by omega, by omega⟩
theorem more_st (w0 : World) (q m : Nat) (W : World) (h : Hid (St w0 q m W)) :
    Calls Tryz.prog 11 #[.pointer (some ⟨q, 0, none⟩)] W fun e w' => ∃ b : Bool, e = .returned (.bool b) ∧ Hid (St w0 q m w') := by
  refine (more_any q m W h.out.1).mono ?_
  rintro e w' ⟨⟨b, rfl⟩, hs, hb⟩
  exact ⟨b, rfl, hs, Mk.trans h.out.2 (Mk.below hb)⟩

set_option maxRecDepth 100000 in
set_option maxHeartbeats 4000000 in
theorem text_st (w0 : World) (q m : Nat) (W : World) (h : Hid (St w0 q m W)) (hm : m ≤ 1000) :
    Calls Tryz.prog 5 #[.pointer (some ⟨q, 0, none⟩)] W fun e w' => ∃ S : ByteArray, e = .returned (.string S) ∧ S.size ≤ 10000 ∧ Hid (St w0 q (m + 4000) w') := by
  go_enter Tryz.func5, Tryz.ntmps5
  go_upto_if 28 with (first
    | (have v1 := u1; go_at_call 8; with_reducible refine (next_st w0 q _ 24 _ (by assumption) (by omega) (by omega) (by omega)).mono ?_; rintro e w2 ⟨rb, rfl, hrb, hk2, h2⟩; obtain ⟨far, hfar, hf1, hf⟩ := max_nat ra rb (by omega) (by omega))
    | (go_at_call 8; with_reducible refine (next_st w0 q _ 24 _ (by assumption) (by omega) (by omega) (by omega)).mono ?_; rintro e w2 ⟨ra, rfl, hra, hk2, h2⟩; have u1 : True := trivial)
    | (go_at_call 8; with_reducible refine (next_st w0 q _ _ _ (by assumption) (by omega) (by omega) (by omega)).mono ?_; rintro e w2 ⟨r, rfl, hr, hk2, h2⟩)
    | (go_at_call 9; with_reducible refine (itoa_any _ (by omega) (by omega) _).mono ?_; rintro e w3 ⟨T, rfl, hT, rfl⟩))
  go_cut [6] from 28 (fun t x => ∃ (S : ByteArray) (m' : Nat), t = .string S ∧ S.size ≤ 30 ∧ m' ≤ m + 10 ∧ Hid (St w0 q m' x))
  case first =>
    go_wp2_with (first
      | (go_at_call 8; with_reducible refine (next_st w0 q _ _ _ (by assumption) (by omega) (by omega) (by omega)).mono ?_; rintro e w2 ⟨r, rfl, hr, hk2, h2⟩)
      | (go_at_call 9; with_reducible refine (itoa_any _ (by omega) (by omega) _).mono ?_; rintro e w3 ⟨T, rfl, hT, rfl⟩))
    all_goals
      go_meet
      case rel =>
        refine ⟨_, _, rfl, ?_, ?_, (by assumption)⟩
        · first | omega | (simp only [ByteArray.size_append, size_mk, List.length_cons, List.length_nil]; push_cast; omega)
        · omega
  case rest =>
    obtain ⟨S0, m0, rfl, hS0, hm0, h0⟩ := hcut
    rename World => wa
    go_upto_if 39 with (first
      | (go_at_call 8; with_reducible refine (next_st w0 q _ _ _ (by assumption) (by omega) (by omega) (by omega)).mono ?_; rintro e w2 ⟨r, rfl, hr, hk2, h2⟩))
    go_cut [6] from 39 (fun t x => ∃ (S : ByteArray) (m' : Nat), t = .string S ∧ S.size ≤ 90 ∧ m' ≤ m + 20 ∧ Hid (St w0 q m' x))
    case first =>
      go_wp2
      all_goals
        go_meet
        case rel =>
          refine ⟨_, _, rfl, ?_, ?_, (by assumption)⟩
          · first | omega | (simp only [ByteArray.size_append, size_mk, List.length_cons, List.length_nil]; push_cast; omega)
          · omega
    case rest =>
      obtain ⟨S1, m1, rfl, hS1, hm1, h1⟩ := hcut
      rename World => wb
      go_wp2_with (first
        | (go_at_call 8; with_reducible refine (next_st w0 q _ _ _ (by assumption) (by omega) (by omega) (by omega)).mono ?_; rintro e w2 ⟨r, rfl, hr, hk2, h2⟩))
      rename World => wd
      go_loopw [6, 8] (fun t i wr => ∃ (S : ByteArray) (k m2 : Nat), t = .string S ∧ i = .int .i64 (k : Int) ∧ (k : Int) ≤ r ∧ (S.size : Int) ≤ 134 + 1530 * k ∧ (m2 : Int) ≤ m + 30 + 410 * k ∧ Hid (St w0 q m2 wr)) (fun _ i _ => (3 - intOf i).toNat)
      case atStart =>
        refine ⟨_, 0, _, rfl, rfl, ?_, ?_, ?_, (by assumption)⟩
        · omega
        · first | omega | (simp only [ByteArray.size_append, size_mk, List.length_cons, List.length_nil]; push_cast; omega)
        · push_cast; omega
      case round =>
        obtain ⟨S2, k, m2, rfl, rfl, hk, hS2, hm2, h2⟩ := hrel
        by_cases hkr : (k : Int) < (r : Int)
        · go_wp2_with (first
          | (go_at_call 10; with_reducible refine (items_st w0 q _ far _ _ (by assumption) (by omega) hf (by omega)).mono ?_; rintro e w2 ⟨Si, rfl, hSi, h2⟩)
          | (go_at_call 9; with_reducible refine (itoa_any _ (by omega) (by omega) _).mono ?_; rintro e w3 ⟨T, rfl, hT, rfl⟩))
          refine ⟨⟨_, k + 1, _, rfl, by go_num, ?_, ?_, ?_, (by assumption)⟩, ?_⟩
          · push_cast; omega
          · first | omega | (simp only [ByteArray.size_append, size_mk, List.length_cons, List.length_nil]; push_cast; omega)
          · push_cast; omega
          · simp only [intOf]; omega
        · go_wp2_with (first
          | (go_at_call 8; with_reducible refine (next_st w0 q _ _ _ (by assumption) (by omega) (by omega) (by omega)).mono ?_; rintro e w2 ⟨r, rfl, hr, hk2, h2⟩))
          rename World => we
          go_loopw [6, 9] (fun t i wr => ∃ (S : ByteArray) (I : Int) (m3 : Nat), t = .string S ∧ i = .int .i64 I ∧ -1 ≤ I ∧ I ≤ 3 ∧ (S.size : Int) + 1640 * (I + 1) ≤ 9800 ∧ (m3 : Int) + 450 * (I + 1) ≤ m + 3500 ∧ Hid (St w0 q m3 wr)) (fun _ i _ => (intOf i + 1).toNat)
          case atStart =>
            refine ⟨_, _, _, rfl, rfl, ?_, ?_, ?_, ?_, (by assumption)⟩
            · omega
            · omega
            · first | omega | (simp only [ByteArray.size_append, size_mk, List.length_cons, List.length_nil]; push_cast; omega)
            · push_cast; omega
          case round =>
            obtain ⟨S, I, m3, rfl, rfl, hI1, hI2, hSz, hm3, h3⟩ := hrel
            by_cases hI : 0 ≤ I
            · go_wp2_with (first
              | (go_at_call 11; with_reducible refine (more_st w0 q _ _ (by assumption)).mono ?_; rintro e w2 ⟨bm, rfl, h2⟩)
              | (go_at_call 8; with_reducible refine (next_st w0 q _ 5 _ (St.alloc (by assumption) _) (by omega) (by omega) (by omega)).mono ?_; rintro e w2 ⟨r2, rfl, hr2, hk2, h2⟩; obtain ⟨S3, hS3, hc3⟩ := (cells_of 5 8 hk2 (St.lt (by assumption)) rfl rfl).out r2 (by omega))
              | (go_at_call 8; with_reducible refine (next_st w0 q _ 2 _ (St.alloc (by assumption) _) (by omega) (by omega) (by omega)).mono ?_; rintro e w2 ⟨r2, rfl, hr2, hk2, h2⟩; obtain ⟨S3, hS3, hc3⟩ := (cells_of 2 8 hk2 (St.lt (by assumption)) rfl rfl).out r2 (by omega))
              | (go_at_call 10; with_reducible refine (items_st w0 q _ far _ _ (by assumption) (by omega) hf (by omega)).mono ?_; rintro e w2 ⟨Si, rfl, hSi, h2⟩)
              | (go_at_call 12; with_reducible refine (ref_st w0 q _ _ (by assumption) (by omega)).mono ?_; rintro e w2 ⟨Sr, rfl, hSr, h2⟩)
              | (go_at_call 13; with_reducible refine (val_st w0 q _ far _ (by assumption) (by omega) hf).mono ?_; rintro e w2 ⟨Sv, rfl, hSv, h2⟩)
              | (go_at_call 8; with_reducible refine (next_st w0 q _ _ _ (by assumption) (by omega) (by omega) (by omega)).mono ?_; rintro e w2 ⟨r, rfl, hr, hk2, h2⟩)
              | (go_at_call 9; with_reducible refine (itoa_any _ (by omega) (by omega) _).mono ?_; rintro e w3 ⟨T, rfl, hT, rfl⟩))
              · refine ⟨⟨_, I - 1, _, rfl, rfl, ?_, ?_, ?_, ?_, (by assumption)⟩, ?_⟩
                · omega
                · omega
                · first | omega | (simp only [ByteArray.size_append, size_mk, List.length_cons, List.length_nil]; push_cast; omega)
                · push_cast; omega
                · simp only [intOf]; omega
              · refine ⟨⟨_, I - 1, _, rfl, rfl, ?_, ?_, ?_, ?_, (by assumption)⟩, ?_⟩
                · omega
                · omega
                · first | omega | (simp only [ByteArray.size_append, size_mk, List.length_cons, List.length_nil]; push_cast; omega)
                · push_cast; omega
                · simp only [intOf]; omega
              · refine ⟨⟨_, I - 1, _, rfl, rfl, ?_, ?_, ?_, ?_, (by assumption)⟩, ?_⟩
                · omega
                · omega
                · first | omega | (simp only [ByteArray.size_append, size_mk, List.length_cons, List.length_nil]; push_cast; omega)
                · push_cast; omega
                · simp only [intOf]; omega
              · refine ⟨⟨_, I - 1, _, rfl, rfl, ?_, ?_, ?_, ?_, (by assumption)⟩, ?_⟩
                · omega
                · omega
                · first | omega | (simp only [ByteArray.size_append, size_mk, List.length_cons, List.length_nil]; push_cast; omega)
                · push_cast; omega
                · simp only [intOf]; omega
              · refine ⟨⟨_, I - 1, _, rfl, rfl, ?_, ?_, ?_, ?_, (by assumption)⟩, ?_⟩
                · omega
                · omega
                · first | omega | (simp only [ByteArray.size_append, size_mk, List.length_cons, List.length_nil]; push_cast; omega)
                · push_cast; omega
                · simp only [intOf]; omega
              · refine ⟨⟨_, I - 1, _, rfl, rfl, ?_, ?_, ?_, ?_, (by assumption)⟩, ?_⟩
                · omega
                · omega
                · first | omega | (simp only [ByteArray.size_append, size_mk, List.length_cons, List.length_nil]; push_cast; omega)
                · push_cast; omega
                · simp only [intOf]; omega
              · go_ret
                exact ⟨_, rfl, by omega, St.more (by assumption) (by omega)⟩
            · go_wp2
              go_ret
              exact ⟨_, rfl, by omega, St.more h3 (by omega)⟩

end Go.Proofs.YtenmkopiddmieabGreatDoor.TX

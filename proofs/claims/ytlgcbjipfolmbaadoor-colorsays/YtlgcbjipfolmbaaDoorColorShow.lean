/-
  What Show, Wide and appendPart of package color answer, walked over the program; the chapter's example; when two colors are the same.
-/
import Derived.Test.YtlgcbjipfolmbaaDoorColorBase
namespace Go.Proofs.YtlgcbjipfolmbaaDoor
open Go.RowKit

theorem digits_at (n : Nat) (h : n < 16) (h' : n < (ByteArray.mk #[48, 49, 50, 51, 52, 53, 54, 55, 56, 57, 97, 98, 99, 100, 101, 102]).size) :
    ((ByteArray.mk #[48, 49, 50, 51, 52, 53, 54, 55, 56, 57, 97, 98, 99, 100, 101, 102])[n]'h').toNat = CP.hx n := by
  have : ∀ i : Fin 16, ((ByteArray.mk #[48, 49, 50, 51, 52, 53, 54, 55, 56, 57, 97, 98, 99, 100, 101, 102])[i.val]'(i.2)).toNat = CP.hx i.val := by decide +kernel
  exact this ⟨n, h⟩

theorem and_15 (p : Nat) (h : p < 256) : bits .and .u8 (p : Int) 15 = ((p % 16 : Nat) : Int) := by
  have : ∀ x : Fin 256, bits .and .u8 ((x.val : Nat) : Int) 15 = ((x.val % 16 : Nat) : Int) := by decide +kernel
  exact this ⟨p, h⟩

set_option linter.unusedSimpArgs false in
set_option maxRecDepth 20000 in
set_option maxHeartbeats 1000000 in
theorem part_any (g n p : Nat) (bs : List Nat) (w : World) (hp : p < 256) (h9 : n + 2 ≤ 9) (hown : w.ownsRow g 5 1 (.slice (some ⟨g, 0, none⟩) n 9) n (vals bs)) :
    Calls Tryd.prog 17 #[.slice (some ⟨g, 0, none⟩) n 9, .int .u8 p] w fun e w' => e = .returned (.slice (some ⟨g, 0, none⟩) (n + 2 : Nat) 9) ∧
      w'.ownsRow g 5 1 (.slice (some ⟨g, 0, none⟩) (n + 2) 9) (n + 2) (vals (bs ++ CP.two p)) ∧ Below g w w' ∧ g < w'.heap.size := by
  obtain ⟨i0, hi, hz0, hz1, hz2⟩ := info_parts infoByte
  have hg := (hown.lt g rfl).2
  have ha := and_15 p hp
  have d1 := digits_at (p / 16) (by omega)
  have d2 := digits_at (p % 16) (by omega)
  obtain ⟨x, hx⟩ : ∃ x, CP.hx (p / 16) = x := ⟨_, rfl⟩
  obtain ⟨y, hy⟩ : ∃ y, CP.hx (p % 16) = y := ⟨_, rfl⟩
  have HT : Hid (CP.two p = [x, y]) := by show _ = _; rw [CP.two, hx, hy]
  rw [hx] at d1
  rw [hy] at d2
  clear hx hy
  obtain ⟨q, hq⟩ : ∃ q, p % 16 = q := ⟨_, rfl⟩
  have hq16 : q < 16 := by omega
  rw [hq] at ha d2
  obtain ⟨r, hr⟩ : ∃ r, p / 16 = r := ⟨_, rfl⟩
  have hr16 : r < 16 := by omega
  rw [hr] at d1
  have hr' : (p : Int) / 16 = (r : Int) := by omega
  clear hq hr
  have hri : (r : Int) < 16 := by omega
  have hqi : (q : Int) < 16 := by omega
  have HO : Hid (w.ownsRow g 5 1 (.slice (some ⟨g, 0, none⟩) n 9) n (vals bs)) := hown
  clear hown hz0 hz2
  have hi' : Hid _ := hi
  clear hi
  go_enter Tryd.func17, Tryd.ntmps17
  go_wp2
  go_region_law (refine step_append_fits rfl (.tmp 5) (.tmp 12) 37 rfl g 5 i0 1 Tryd.underlying37 hi'.out hz1 g n 9 (vals bs) (by simp [Act.eval, Act.put]) (by first | exact HO.out.drew.alloc _ | exact (HO.out.alloc _).drew) ⟨w.heap.size, 0, none⟩ 2 2 (vals [x, y]) (by simp [Act.eval, Act.put]) rfl (new_cells _ _ _) (vals_one _) (by omega) ?_; intro w' hown' hgrow)
  all_goals go_wp2
  all_goals
    go_ret
    have P := put_below (wr := w.drew) (Below.refl g w).drew hg hgrow
    rw [HT.out, vals_append]
    exact ⟨rfl, hown', P.1, P.2⟩

theorem index_three (x y z : Int) (W : World) :
    (Instr.index 44 (.agg #[.int .u8 x, .int .u8 y, .int .u8 z]) (.int .i64 0)).run Tryd.prog W = .ok (.int .u8 x) W ∧
    (Instr.index 44 (.agg #[.int .u8 x, .int .u8 y, .int .u8 z]) (.int .i64 1)).run Tryd.prog W = .ok (.int .u8 y) W ∧
    (Instr.index 44 (.agg #[.int .u8 x, .int .u8 y, .int .u8 z]) (.int .i64 2)).run Tryd.prog W = .ok (.int .u8 z) W := by
  refine ⟨?_, ?_, ?_⟩ <;> simp [Instr.index, asIntOf, run_underlying Tryd.underlying44, go_sem]

set_option maxRecDepth 20000 in
set_option maxHeartbeats 1000000 in
theorem show_any (r g b a : Nat) (w : World) (hr : r < 256) (hg : g < 256) (hb : b < 256) (ha : a < 256) :
    Calls Tryd.prog 9 #[.agg #[.int .u8 r, .int .u8 g, .int .u8 b, .int .u8 a]] w fun e w' => e = .returned (.string (CP.str (CP.text r g b a))) ∧ Below w.heap.size w w' := by
  obtain ⟨i0, hi, hz0, hz1, hz2⟩ := info_parts infoByte
  go_enter Tryd.func9, Tryd.ntmps9
  go_wp2_with (first
    | (at_make; refine wpList_make_both _ rfl (.const (.int .i64 0)) (.const (.int .i64 9)) 37 rfl 5 i0 (.int .u8 0) Tryd.underlying37 hi hz0 hz1 hz2 .i64 .i64 _ _ 0 9 rfl rfl rfl rfl (by omega) (by omega) ?_; intro w1 hrow hbel hsize; clear hsize)
    | (at_builtin; refine wpList_append_fits _ rfl (.tmp 6) (.tmp 7) 37 rfl (w.heap.size + 1) 5 i0 1 Tryd.underlying37 hi hz1 (w.heap.size + 1) 0 9 [] rfl ((own_empty (by omega) (by simpa using hrow.out)).alloc _) ⟨w1.heap.size, 0, none⟩ 1 1 (vals [35]) rfl rfl (new_cells _ _ _) (vals_one _) (by omega) ?_; intro w2 hown2 hgrow2; have hz1 : w.heap.size + 1 < w1.heap.size := (Array.getElem?_eq_some_iff.1 (by simpa using hrow.out)).1; have hb2 : Below (w.heap.size + 1) (w.alloc (.cells #[.int .u8 r, .int .u8 g, .int .u8 b, .int .u8 a] 23)) w2 := (put_below (by simpa using hbel) hz1 hgrow2).1; obtain ⟨c0, c1, c2, c3⟩ := box_cells hb2))
  clear c0 c1 c2 c3
  have hown2' : w2.ownsRow (w.heap.size + 1) 5 1 (.slice (some ⟨w.heap.size + 1, 0, none⟩) 1 9) 1 (vals [35]) := hown2
  clear hown2
  go_simp
  go_loopw [3, 16] (fun out i wr => ∃ (k n : Nat) (bs : List Nat), (k = 0 ∧ n = 1 ∧ bs = [35] ∨ k = 1 ∧ n = 3 ∧ bs = [35] ++ CP.two r ∨ k = 2 ∧ n = 5 ∧ bs = [35] ++ CP.two r ++ CP.two g ∨ k = 3 ∧ n = 7 ∧ bs = [35] ++ CP.two r ++ CP.two g ++ CP.two b) ∧
      i = .int .i64 k ∧ out = .slice (some ⟨w.heap.size + 1, 0, none⟩) n 9 ∧ wr.ownsRow (w.heap.size + 1) 5 1 (.slice (some ⟨w.heap.size + 1, 0, none⟩) n 9) n (vals bs) ∧
      Below (w.heap.size + 1) (w.alloc (.cells #[.int .u8 r, .int .u8 g, .int .u8 b, .int .u8 a] 23)) wr) (fun _ i _ => 3 - (intOf i).toNat)
  case atStart => exact ⟨0, 1, [35], .inl ⟨rfl, rfl, rfl⟩, rfl, rfl, hown2', hb2⟩
  case round =>
    obtain ⟨k, n, bs, hcase, rfl, rfl, hown, hbr⟩ := hrel
    have HO : Hid (wr.ownsRow (w.heap.size + 1) 5 1 (.slice (some ⟨w.heap.size + 1, 0, none⟩) n 9) n (vals bs)) := hown
    clear hown hown2' hb2 hrow hbel hgrow2
    rcases hcase with ⟨rfl, rfl, rfl⟩ | ⟨rfl, rfl, rfl⟩ | ⟨rfl, rfl, rfl⟩ | ⟨rfl, rfl, rfl⟩
    · have hx := fun W => (index_three r g b W).1
      go_wp2_with (go_at_call 17; refine (part_any _ 1 r _ wr hr (by omega) HO.out).mono ?_; rintro e w' ⟨rfl, ho, hb', _⟩)
      go_roundw
      case rel => exact ⟨1, 3, _, .inr (.inl ⟨rfl, rfl, rfl⟩), by go_num, rfl, ho, hbr.trans hb'⟩
      case measure => simp [intOf]
    · have hx := fun W => (index_three r g b W).2.1
      go_wp2_with (go_at_call 17; refine (part_any _ 3 g _ wr hg (by omega) HO.out).mono ?_; rintro e w' ⟨rfl, ho, hb', _⟩)
      go_roundw
      case rel => exact ⟨2, 5, _, .inr (.inr (.inl ⟨rfl, rfl, rfl⟩)), by go_num, rfl, ho, hbr.trans hb'⟩
      case measure => simp [intOf]
    · have hx := fun W => (index_three r g b W).2.2
      go_wp2_with (go_at_call 17; refine (part_any _ 5 b _ wr hb (by omega) HO.out).mono ?_; rintro e w' ⟨rfl, ho, hb', _⟩)
      go_roundw
      case rel => exact ⟨3, 7, _, .inr (.inr (.inr ⟨rfl, rfl, rfl⟩)), by go_num, rfl, ho, hbr.trans hb'⟩
      case measure => simp [intOf]
    · obtain ⟨c0, c1, c2, c3⟩ := box_cells hbr
      clear c0 c1 c2
      have B0 : Below w.heap.size w wr := ((Below.refl _ _).alloc (Nat.le_refl _) _).trans (hbr.mono (Nat.le_succ _))
      have ht : ∀ c ∈ CP.text r g b a, c < 256 := CP.text_lt r g b a hr hg hb ha
      have hl := CP.text_len r g b a
      by_cases h255 : a = 255
      · subst h255
        have e : [35] ++ CP.two r ++ CP.two g ++ CP.two b = CP.text r g b 255 := by simp [CP.text]
        rw [e] at HO
        rw [if_pos rfl] at hl
        have hcv := conv_str (w := wr) (ad := ⟨w.heap.size + 1, 0, none⟩) (cap := 9) (l := CP.text r g b 255) ht (fun j hj => by rw [Addr.add_lit, Nat.zero_add]; exact own_cells HO.out j hj)
        rw [hl] at hcv
        clear e ht hl
        go_wp2
        go_ret
        exact ⟨rfl, B0⟩
      · have hne : ((a : Int) == 255) = false := by simp; omega
        have e : ([35] ++ CP.two r ++ CP.two g ++ CP.two b) ++ CP.two a = CP.text r g b a := by simp [CP.text, h255]
        rw [if_neg h255] at hl
        have he : Hid _ := e
        have hL : Hid _ := hl
        have hT : Hid _ := ht
        clear e ht hl
        go_wp2_with (go_at_call 17; refine (part_any _ 7 a _ wr ha (by omega) HO.out).mono ?_; rintro e w' ⟨rfl, ho, hb', _⟩; rw [he.out] at ho; have hcv := conv_str (w := w') (ad := ⟨w.heap.size + 1, 0, none⟩) (cap := 9) (l := CP.text r g b a) hT.out (fun j hj => by rw [Addr.add_lit, Nat.zero_add]; exact own_cells ho j hj); rw [hL.out] at hcv; clear ho)
        go_ret
        exact ⟨rfl, B0.trans (hb'.mono (Nat.le_succ _))⟩

theorem text_ff0000 : CP.text 255 0 0 255 = [35, 102, 102, 48, 48, 48, 48] := by decide

/-- The chapter's example. -/
theorem first_any (w : World) : Calls Tryd.prog 6 #[] w fun e w' => e = .returned (.bool true) ∧ Below w.heap.size w w' := by
  have ks : Hid (∀ w, Calls Tryd.prog 9 #[.agg #[.int .u8 255, .int .u8 0, .int .u8 0, .int .u8 255]] w fun e w' => e = .returned (.string ⟨#[35, 102, 102, 48, 48, 48, 48]⟩) ∧ Below w.heap.size w w') := fun w => by
    have := show_any 255 0 0 255 w (by omega) (by omega) (by omega) (by omega)
    rw [text_ff0000] at this
    exact this
  go_enter Tryd.func6, Tryd.ntmps6
  go_wp2_with (go_at_call 9; refine (ks.out _).mono ?_; rintro e w1 ⟨rfl, hb⟩)
  go_ret
  exact ⟨rfl, hb⟩

theorem same_any (r g b a r' g' b' a' : Nat) (w : World) :
    Calls Tryd.prog 11 #[.agg #[.int .u8 r, .int .u8 g, .int .u8 b, .int .u8 a], .agg #[.int .u8 r', .int .u8 g', .int .u8 b', .int .u8 a']] w fun e w' => e = .returned (.bool (decide (r = r' ∧ g = g' ∧ b = b' ∧ a = a'))) ∧ Below w.heap.size w w' := by
  have B : ∀ {x y : Obj}, Below w.heap.size w ((w.alloc x).alloc y) := fun {x y} => ((Below.refl _ _).alloc (Nat.le_refl _) _).alloc (by simp) _
  have HB : Hid _ := @B
  clear B
  by_cases h1 : r = r'
  · subst h1
    by_cases h2 : g = g'
    · subst h2
      by_cases h3 : b = b'
      · subst h3
        by_cases h4 : a = a'
        · subst h4
          go_enter Tryd.func11, Tryd.ntmps11
          go_wp2
          go_ret
          exact ⟨by simp, HB.out⟩
        · have h : ((a : Int) == a') = false := by simp; omega
          go_enter Tryd.func11, Tryd.ntmps11
          go_wp2
          go_ret
          exact ⟨by simp [h4], HB.out⟩
      · have h : ((b : Int) == b') = false := by simp; omega
        go_enter Tryd.func11, Tryd.ntmps11
        go_wp2
        go_ret
        exact ⟨by simp [h3], HB.out⟩
    · have h : ((g : Int) == g') = false := by simp; omega
      go_enter Tryd.func11, Tryd.ntmps11
      go_wp2
      go_ret
      exact ⟨by simp [h2], HB.out⟩
  · have h : ((r : Int) == r') = false := by simp; omega
    go_enter Tryd.func11, Tryd.ntmps11
    go_wp2
    go_ret
    exact ⟨by simp [h1], HB.out⟩

theorem wide_any (r g b a : Nat) (w : World) (hr : r < 256) (hg : g < 256) (hb : b < 256) (ha : a < 256) :
    Calls Tryd.prog 13 #[.agg #[.int .u8 r, .int .u8 g, .int .u8 b, .int .u8 a]] w fun e w' => e = .returned (.agg #[.int .i64 (257 * (r : Int)), .int .i64 (257 * (g : Int)), .int .i64 (257 * (b : Int)), .int .i64 (257 * (a : Int))]) ∧ Below w.heap.size w w' := by
  go_enter Tryd.func13, Tryd.ntmps13
  go_wp2
  exact bodyPost_ret (v := .agg #[.int .i64 (257 * (r : Int)), .int .i64 (257 * (g : Int)), .int .i64 (257 * (b : Int)), .int .i64 (257 * (a : Int))]) (by simp [results, Tryd.results13, go_sem, Int.mul_comm]) rfl ⟨rfl, ((Below.refl _ _).alloc (Nat.le_refl _) _).alloc (by simp) _⟩

end Go.Proofs.YtlgcbjipfolmbaaDoor

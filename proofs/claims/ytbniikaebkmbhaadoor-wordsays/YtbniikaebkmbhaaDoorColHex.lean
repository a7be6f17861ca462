/-
  The document's text of a color; a color made of a number; a reference made of few: walked over the statements' helpers.
-/
import Derived.Test.YtbniikaebkmbhaaDoorWordText2
import Derived.Test.YtbniikaebkmbhaaDoorColorPlain
import Derived.Sort.AtCall
import Derived.Deep.RegionHeld3
namespace Go.Proofs.YtbniikaebkmbhaaDoor
open Go.RowKit

theorem digits_at (n : Nat) (h : n < 16) (h' : n < (ByteArray.mk #[48, 49, 50, 51, 52, 53, 54, 55, 56, 57, 97, 98, 99, 100, 101, 102]).size) :
    ((ByteArray.mk #[48, 49, 50, 51, 52, 53, 54, 55, 56, 57, 97, 98, 99, 100, 101, 102])[n]'h').toNat = CP.hx n := by
  have : ∀ i : Fin 16, ((ByteArray.mk #[48, 49, 50, 51, 52, 53, 54, 55, 56, 57, 97, 98, 99, 100, 101, 102])[i.val]'(i.2)).toNat = CP.hx i.val := by decide +kernel
  exact this ⟨n, h⟩

theorem conv_str {w : World} {ad : Addr} {cap : Nat} {l : List Nat} (h256 : ∀ c ∈ l, c < 256) (hc : ∀ j (hj : j < l.length), w.cell? (ad.add j) = some (.int .u8 (l[j] : Int))) :
    (convert 84 9 (.slice (some ad) l.length cap)).run Tryd.prog w = .ok (.string (CP.str l)) w := by
  have := run_convert_bytes_back (P := Tryd.prog) w 84 9 5 ad cap (l.map UInt8.ofNat) Tryd.underlying84 Tryd.underlying5 Tryd.underlying9 (fun j hj => by
    have hj' : j < l.length := by simpa using hj
    rw [hc j hj']
    simp [Nat.mod_eq_of_lt (h256 l[j] (List.getElem_mem _))])
  rw [List.length_map] at this
  exact this

def Four (w : World) (b : Nat) (v0 v1 v2 v3 : Value) : Prop := b < w.heap.size ∧ w.cell? ⟨b, 0, none⟩ = some v0 ∧ w.cell? ⟨b, 1, none⟩ = some v1 ∧ w.cell? ⟨b, 2, none⟩ = some v2 ∧ w.cell? ⟨b, 3, none⟩ = some v3

theorem Four.below {w w' : World} {b : Nat} {v0 v1 v2 v3 : Value} (h : Four w b v0 v1 v2 v3) (hb : Below w.heap.size w w') : Four w' b v0 v1 v2 v3 := by
  obtain ⟨hl, h0, h1, h2, h3⟩ := h
  exact ⟨Nat.lt_of_lt_of_le hl hb.size, (hb.cell (p := ⟨b, 0, none⟩) hl).trans h0, (hb.cell (p := ⟨b, 1, none⟩) hl).trans h1, (hb.cell (p := ⟨b, 2, none⟩) hl).trans h2, (hb.cell (p := ⟨b, 3, none⟩) hl).trans h3⟩

theorem four_new (w : World) (v0 v1 v2 v3 : Value) (t : TypeId) (fr : Nat × Nat) : Four (w.alloc (.cells #[v0, v1, v2, v3] t fr)) w.heap.size v0 v1 v2 v3 := by
  refine ⟨by simp, ?_, ?_, ?_, ?_⟩ <;> (rw [World.cell?_alloc_mark]; rfl)



theorem conv_two (w : World) (x y : Nat) (hx : x < 256) (hy : y < 256) (cap : Nat) : (convert 84 9 (.slice (some ⟨w.heap.size, 0, none⟩) 2 cap)).run Tryd.prog (w.alloc (.cells #[.int .u8 x, .int .u8 y] 5)).drew = .ok (.string (CP.str [x, y])) (w.alloc (.cells #[.int .u8 x, .int .u8 y] 5)).drew := by
  refine conv_str (l := [x, y]) (by intro c hc; simp only [List.mem_cons, List.not_mem_nil, or_false] at hc; omega) (fun j hj => ?_)
  have : ∀ j, (w.alloc (.cells #[.int .u8 x, .int .u8 y] 5)).drew.cell? ⟨w.heap.size, j, none⟩ = (#[Value.int .u8 x, .int .u8 y])[j]? := fun j => World.cell?_alloc_mark w _ _ _ j
  rw [Addr.add_lit, Nat.zero_add, this]
  match j, hj with
  | 0, _ => rfl
  | 1, _ => rfl

set_option maxRecDepth 20000 in
set_option maxHeartbeats 1000000 in
theorem hex_any (p : Nat) (w : World) (hp : p < 256) : Calls Tryd.prog 53 #[.int .u8 p] w fun e w' => e = .returned (.string (CP.str (CP.two p))) ∧ Below w.heap.size w w' := by
  have d1 := digits_at (p / 16) (by omega)
  have d2 := digits_at (p % 16) (by omega)
  have x256 := CP.hx_lt (p / 16) (by omega)
  have y256 := CP.hx_lt (p % 16) (by omega)
  obtain ⟨x, hx⟩ : ∃ x, CP.hx (p / 16) = x := ⟨_, rfl⟩
  obtain ⟨y, hy⟩ : ∃ y, CP.hx (p % 16) = y := ⟨_, rfl⟩
  have HT : Hid (CP.two p = [x, y]) := by show _ = _; rw [CP.two, hx, hy]
  rw [hx] at d1 x256
  rw [hy] at d2 y256
  clear hx hy
  obtain ⟨q, hq⟩ : ∃ q, p % 16 = q := ⟨_, rfl⟩
  have hq16 : q < 16 := by omega
  rw [hq] at d2
  obtain ⟨r, hr⟩ : ∃ r, p / 16 = r := ⟨_, rfl⟩
  have hr16 : r < 16 := by omega
  rw [hr] at d1
  have hr' : (p : Int) / 16 = (r : Int) := by omega
  have hq' : (p : Int) % 16 = (q : Int) := by omega
  have hr2 : (p : Int).tdiv 16 = (r : Int) := by rw [Int.tdiv_eq_ediv_of_nonneg (by omega)]; exact hr'
  have hq2 : (p : Int).tmod 16 = (q : Int) := by rw [Int.tmod_eq_emod_of_nonneg (by omega)]; exact hq'
  clear hq hr
  have hri : (r : Int) < 16 := by omega
  have hqi : (q : Int) < 16 := by omega
  have hcv := conv_two w x y x256 y256 2
  go_enter Tryd.func53, Tryd.ntmps53
  go_wp2
  go_region
  all_goals go_wp2
  all_goals
    go_ret
    rw [HT.out]
    exact ⟨rfl, ((Below.refl _ _).alloc (Nat.le_refl _) _).drew⟩

theorem four_three {W : World} {A : Nat} {v0 v1 v2 v3 : Value} (h : Four W A v0 v1 v2 v3) : W.cell? ⟨A, 0, none⟩ = some v0 ∧ W.cell? ⟨A, 1, none⟩ = some v1 ∧ W.cell? ⟨A, 2, none⟩ = some v2 := ⟨h.2.1, h.2.2.1, h.2.2.2.1⟩

theorem str_join (r g b : Nat) : (⟨#[35]⟩ : ByteArray) ++ CP.str (CP.two r) ++ CP.str (CP.two g) ++ CP.str (CP.two b) = CP.str (CP.text r g b 255) := by
  apply ByteArray.ext
  simp [ByteArray.data_append, CP.str, CP.text]

theorem str_join4 (r g b a : Nat) (h : a ≠ 255) : CP.str (CP.text r g b 255) ++ CP.str (CP.two a) = CP.str (CP.text r g b a) := by
  apply ByteArray.ext
  simp [ByteArray.data_append, CP.str, CP.text, h]

set_option maxRecDepth 20000 in
set_option maxHeartbeats 1000000 in
theorem rcolor_any (r g b a : Nat) (w : World) (hr : r < 256) (hg : g < 256) (hb : b < 256) (ha : a < 256) :
    Calls Tryd.prog 31 #[.agg #[.int .u8 r, .int .u8 g, .int .u8 b, .int .u8 a]] w fun e w' => e = .returned (.string (CP.str (CP.text r g b a))) ∧ Below w.heap.size w w' := by
  have kr : Hid (∀ w, Calls Tryd.prog 53 #[.int .u8 r] w fun e w' => e = .returned (.string (CP.str (CP.two r))) ∧ Below w.heap.size w w') := fun w => hex_any r w hr
  have kg : Hid (∀ w, Calls Tryd.prog 53 #[.int .u8 g] w fun e w' => e = .returned (.string (CP.str (CP.two g))) ∧ Below w.heap.size w w') := fun w => hex_any g w hg
  have kb : Hid (∀ w, Calls Tryd.prog 53 #[.int .u8 b] w fun e w' => e = .returned (.string (CP.str (CP.two b))) ∧ Below w.heap.size w w') := fun w => hex_any b w hb
  have ka : Hid (∀ w, Calls Tryd.prog 53 #[.int .u8 a] w fun e w' => e = .returned (.string (CP.str (CP.two a))) ∧ Below w.heap.size w w') := fun w => hex_any a w ha
  have J3 : (⟨#[35]⟩ : ByteArray) ++ CP.str (CP.two r) ++ CP.str (CP.two g) ++ CP.str (CP.two b) = CP.str (CP.text r g b 255) := str_join r g b
  have J4 : Hid (a ≠ 255 → CP.str (CP.text r g b 255) ++ CP.str (CP.two a) = CP.str (CP.text r g b a)) := str_join4 r g b a
  have sr : (CP.str (CP.two r)).size = 2 := CP.str_size _
  have sg : (CP.str (CP.two g)).size = 2 := CP.str_size _
  have sb : (CP.str (CP.two b)).size = 2 := CP.str_size _
  have sa : (CP.str (CP.two a)).size = 2 := CP.str_size _
  have s3 : (CP.str (CP.text r g b 255)).size = 7 := by rw [CP.str_size, CP.text_len]; rfl
  obtain ⟨X, hX⟩ : ∃ X, CP.str (CP.two r) = X := ⟨_, rfl⟩
  obtain ⟨Y, hY⟩ : ∃ X, CP.str (CP.two g) = X := ⟨_, rfl⟩
  obtain ⟨Z, hZ⟩ : ∃ X, CP.str (CP.two b) = X := ⟨_, rfl⟩
  obtain ⟨U, hU⟩ : ∃ X, CP.str (CP.two a) = X := ⟨_, rfl⟩
  obtain ⟨T, hT⟩ : ∃ X, CP.str (CP.text r g b 255) = X := ⟨_, rfl⟩
  have HT : Hid (CP.str (CP.text r g b 255) = T) := hT
  rw [hX] at kr J3 sr
  rw [hY] at kg J3 sg
  rw [hZ] at kb J3 sb
  rw [hU] at ka J4 sa
  rw [hT] at J3 J4 s3
  clear hX hY hZ hU hT
  go_enter Tryd.func31, Tryd.ntmps31
  go_wp2
  have F0 : Hid (Four (w.alloc (.cells #[.int .u8 r, .int .u8 g, .int .u8 b, .int .u8 a] 66)) w.heap.size (.int .u8 r) (.int .u8 g) (.int .u8 b) (.int .u8 a)) := four_new w _ _ _ _ _ _
  go_region_held3 (fun W => W.cell? ⟨w.heap.size, 0, none⟩ = some (.int .u8 r) ∧ W.cell? ⟨w.heap.size, 1, none⟩ = some (.int .u8 g) ∧ W.cell? ⟨w.heap.size, 2, none⟩ = some (.int .u8 b))
    (first | exact four_three (F0.out.below B3.out) | exact four_three (F0.out.below B2.out) | exact four_three (F0.out.below B1.out) | exact four_three F0.out)
    (first
    | (go_at_call_has 53 (Value.int IntKind.u8 (b : Int)); refine (kb.out w2).mono ?_; rintro e w3 ⟨rfl, hb3⟩; have B3 : Hid (Below (w.alloc (.cells #[.int .u8 r, .int .u8 g, .int .u8 b, .int .u8 a] 66)).heap.size (w.alloc (.cells #[.int .u8 r, .int .u8 g, .int .u8 b, .int .u8 a] 66)) w3) := B2.out.trans (hb3.mono B2.out.size); clear hb3)
    | (go_at_call_has 53 (Value.int IntKind.u8 (g : Int)); refine (kg.out w1).mono ?_; rintro e w2 ⟨rfl, hb2⟩; have B2 : Hid (Below (w.alloc (.cells #[.int .u8 r, .int .u8 g, .int .u8 b, .int .u8 a] 66)).heap.size (w.alloc (.cells #[.int .u8 r, .int .u8 g, .int .u8 b, .int .u8 a] 66)) w2) := B1.out.trans (hb2.mono B1.out.size); clear hb2)
    | (go_at_call_has 53 (Value.int IntKind.u8 (r : Int)); refine (kr.out _).mono ?_; rintro e w1 ⟨rfl, hb1⟩; have B1 : Hid (Below (w.alloc (.cells #[.int .u8 r, .int .u8 g, .int .u8 b, .int .u8 a] 66)).heap.size (w.alloc (.cells #[.int .u8 r, .int .u8 g, .int .u8 b, .int .u8 a] 66)) w1) := below_of_drew hb1; clear hb1))
  obtain ⟨_, _, _, _, a3⟩ := F0.out.below B3.out
  have B : Hid (Below w.heap.size w w3) := ((Below.refl _ _).alloc (Nat.le_refl _) _).trans (B3.out.mono (by simp))
  clear J3
  by_cases h255 : a = 255
  · have e255 : ((a : Int) == 255) = true := by simp; omega
    have H255 : Hid (a = 255) := h255
    clear h255
    go_wp2
    go_ret
    exact ⟨by rw [H255.out, HT.out]; rfl, B.out⟩
  · have e255 : ((a : Int) == 255) = false := by simp; omega
    have J := J4.out h255
    go_wp2_with (go_at_call 53; refine (ka.out w3).mono ?_; rintro e w4 ⟨rfl, hb4⟩)
    go_ret
    exact ⟨rfl, B.out.trans (hb4.mono B.out.size)⟩

def table : Array Value := #[.int .u8 255, .int .u8 0, .int .u8 0, .int .u8 255, .int .u8 0, .int .u8 128, .int .u8 0, .int .u8 255, .int .u8 0, .int .u8 0, .int .u8 200, .int .u8 100, .int .u8 10, .int .u8 20, .int .u8 30, .int .u8 1, .int .u8 255, .int .u8 255, .int .u8 255, .int .u8 255, .int .u8 0, .int .u8 0, .int .u8 0, .int .u8 0, .int .u8 7, .int .u8 0, .int .u8 0, .int .u8 254]


theorem table_at (k : Nat) (hk : k < 7) : ∃ r g b a : Nat, (r < 256 ∧ g < 256 ∧ b < 256 ∧ a < 256) ∧ table[k * 4]? = some (.int .u8 r) ∧ table[k * 4 + 1]? = some (.int .u8 g) ∧ table[k * 4 + 2]? = some (.int .u8 b) ∧ table[k * 4 + 3]? = some (.int .u8 a) := by
  have : k = 0 ∨ k = 1 ∨ k = 2 ∨ k = 3 ∨ k = 4 ∨ k = 5 ∨ k = 6 := by omega
  rcases this with rfl | rfl | rfl | rfl | rfl | rfl | rfl
  · exact ⟨255, 0, 0, 255, by decide, rfl, rfl, rfl, rfl⟩
  · exact ⟨0, 128, 0, 255, by decide, rfl, rfl, rfl, rfl⟩
  · exact ⟨0, 0, 200, 100, by decide, rfl, rfl, rfl, rfl⟩
  · exact ⟨10, 20, 30, 1, by decide, rfl, rfl, rfl, rfl⟩
  · exact ⟨255, 255, 255, 255, by decide, rfl, rfl, rfl, rfl⟩
  · exact ⟨0, 0, 0, 0, by decide, rfl, rfl, rfl, rfl⟩
  · exact ⟨7, 0, 0, 254, by decide, rfl, rfl, rfl, rfl⟩

theorem cells_four {w : World} {b : Nat} {a0 a1 a2 a3 : Value} {t : TypeId} (h : Blk w b t #[a0, a1, a2, a3]) : (w.cell? ⟨b, 0, none⟩ = some a0 ∧ w.cell? ⟨b, 1, none⟩ = some a1 ∧ w.cell? ⟨b, 2, none⟩ = some a2 ∧ w.cell? ⟨b, 3, none⟩ = some a3) ∧ w.frozen? ⟨b, 0, none⟩ = false ∧ w.frozen? ⟨b, 1, none⟩ = false ∧ w.frozen? ⟨b, 2, none⟩ = false ∧ w.frozen? ⟨b, 3, none⟩ = false :=
  ⟨⟨h.cell 0, h.cell 1, h.cell 2, h.cell 3⟩, h.frozen 0, h.frozen 1, h.frozen 2, h.frozen 3⟩
theorem cells_two {w : World} {b : Nat} {a0 a1 : Value} {t : TypeId} (h : Blk w b t #[a0, a1]) : (w.cell? ⟨b, 0, none⟩ = some a0 ∧ w.cell? ⟨b, 1, none⟩ = some a1) ∧ w.frozen? ⟨b, 0, none⟩ = false ∧ w.frozen? ⟨b, 1, none⟩ = false :=
  ⟨⟨h.cell 0, h.cell 1⟩, h.frozen 0, h.frozen 1⟩

set_option maxRecDepth 20000 in
set_option maxHeartbeats 1000000 in
theorem color_any (q m : Nat) (w : World) (hs : SeqOk w q m) (hm : m ≤ 1000000) :
    Calls Tryd.prog 32 #[.pointer (some ⟨q, 0, none⟩)] w fun e w' => (∃ r g b a : Nat, e = .returned (.agg #[.int .u8 r, .int .u8 g, .int .u8 b, .int .u8 a]) ∧ Hid (r < 256 ∧ g < 256 ∧ b < 256 ∧ a < 256)) ∧ SeqOk w' q (m + 1) ∧ Mk q w w' := by
  have HS : Hid (SeqOk w q m) := hs
  have hq := hs.lt
  have kn : Hid (∀ W, SeqOk W q m → Calls Tryd.prog 12 #[.pointer (some ⟨q, 0, none⟩), .int .i64 7] W fun e w' => (∃ r : Int, e = .returned (.int .i64 r) ∧ 0 ≤ r ∧ r < 7) ∧ SeqOk w' q (m + 1) ∧ Mk q W w') := fun W h => next_any q m 7 W h (by omega) (by omega)
  clear hs
  go_enter Tryd.func32, Tryd.ntmps32
  go_wp2_with (go_at_call 12; refine (kn.out _ ((HS.out.alloc _).alloc _)).mono ?_; rintro e w1 ⟨⟨r, rfl, r0, r1⟩, hs1, hm1⟩
               obtain ⟨k, rfl⟩ : ∃ k : Nat, r = (k : Int) := ⟨r.toNat, by omega⟩
               have hk : k < 7 := by omega
               obtain ⟨cr, cg, cb, ca, hin, t0, t1, t2, t3⟩ := table_at k hk
               have H1 : Hid (SeqOk w1 q (m + 1)) := hs1
               have H2 : Hid (Mk q w w1) := (((Mk.refl q w).alloc _).alloc _).trans hm1
               have H3 : Hid (cr < 256 ∧ cg < 256 ∧ cb < 256 ∧ ca < 256) := hin
               have hT : Blk w1 (w.heap.size + 1) 66 table := by
                 have h := blk_new (w.alloc (.cells #[.int .u8 0, .int .u8 0, .int .u8 0, .int .u8 0] 66)) 66 table
                 rw [size_alloc] at h
                 exact h.mk hm1 (by omega)
               have hR : Blk w1 w.heap.size 66 #[.int .u8 0, .int .u8 0, .int .u8 0, .int .u8 0] := ((blk_new w 66 #[.int .u8 0, .int .u8 0, .int .u8 0, .int .u8 0]).alloc _).mk hm1 (by omega)
               obtain ⟨⟨p0, p1, p2, p3⟩, f0, f1, f2, f3⟩ := cells_four hR
               have d0 := (hT.cell (k * 4)).trans t0
               have d1 := (hT.cell (k * 4 + 1)).trans t1
               have d2 := (hT.cell (k * 4 + 2)).trans t2
               have d3 := (hT.cell (k * 4 + 3)).trans t3
               have hz : w.heap.size + 1 < w1.heap.size := hT.lt
               clear t0 t1 t2 t3 hs1 hm1 hin hT hR)
  refine bodyPost_ret (v := .agg #[.int .u8 cr, .int .u8 cg, .int .u8 cb, .int .u8 ca]) (by simp [results, Tryd.results32, go_sem, p0, p1, p2, p3]) rfl ⟨⟨cr, cg, cb, ca, rfl, H3⟩, ?_, ?_⟩
  · exact (((H1.out.set hq _).set hq _).set hq _).set hq _
  · exact (((H2.out.set (Nat.le_refl _) _).set (Nat.le_refl _) _).set (Nat.le_refl _) _).set (Nat.le_refl _) _


set_option maxRecDepth 20000 in
set_option maxHeartbeats 1000000 in
theorem ref_st (w0 : World) (q m : Nat) (W : World) (h : Hid (St w0 q m W)) (hm : m ≤ 900000) :
    Calls Tryd.prog 16 #[.pointer (some ⟨q, 0, none⟩)] W fun e w' => ∃ S : ByteArray, e = .returned (.string S) ∧ S.size ≤ 12 ∧ Hid (St w0 q (m + 3) w') := by
  have k3 := Lib.hid (next_st w0 q m 3 W h (by omega) (by omega) (by omega))
  have kc : Hid (∀ W1, Hid (St w0 q (m + 1) W1) → Calls Tryd.prog 32 #[.pointer (some ⟨q, 0, none⟩)] W1 fun e w' => (∃ r g b a : Nat, e = .returned (.agg #[.int .u8 r, .int .u8 g, .int .u8 b, .int .u8 a]) ∧ Hid (r < 256 ∧ g < 256 ∧ b < 256 ∧ a < 256)) ∧ Hid (St w0 q (m + 2) w')) := fun W1 h1 => by
    refine (color_any q (m + 1) W1 h1.out.1 (by omega)).mono ?_
    rintro e w' ⟨h2, h3, h4⟩
    exact ⟨h2, h3, Mk.trans h1.out.2 h4⟩
  have kx : Hid (∀ (r g b a : Nat) W1, Hid (r < 256 ∧ g < 256 ∧ b < 256 ∧ a < 256) → Hid (St w0 q (m + 2) W1) → Calls Tryd.prog 31 #[.agg #[.int .u8 r, .int .u8 g, .int .u8 b, .int .u8 a]] W1 fun e w' => ∃ S : ByteArray, e = .returned (.string S) ∧ S.size ≤ 12 ∧ Hid (St w0 q (m + 2) w')) := fun r g b a W1 hr h1 => by
    refine (rcolor_any r g b a W1 hr.out.1 hr.out.2.1 hr.out.2.2.1 hr.out.2.2.2).mono ?_
    rintro e w' ⟨rfl, hb⟩
    refine ⟨_, rfl, ?_, St.below h1 hb⟩
    rw [CP.str_size, CP.text_len]
    split <;> omega
  go_enter Tryd.func16, Tryd.ntmps16
  go_wp2_with (first
    | (have v2 := HG; go_at_call 12; with_reducible refine (next_st w0 q (m + 2) 9 _ h2 (by omega) (by omega) (by omega)).mono ?_; rintro e w3 ⟨r9, rfl, hr9, hk3, h3⟩; obtain ⟨r, hr, hra, hrb⟩ := min_nat r3 r9; obtain ⟨S, hS, hc⟩ := (cells_on HG hk3 (Nat.ne_of_lt (St.lt h1)) (cells_lt hk2)).out r (by omega))
    | (have v1 := u1; go_at_call 12; with_reducible refine (next_st w0 q (m + 1) 3 _ (St.alloc h1 _) (by omega) (by omega) (by omega)).mono ?_; rintro e w2 ⟨r3, rfl, hr3, hk2, h2⟩; have HG := cells_of 3 6 hk2 (St.lt h1) rfl rfl)
    | (go_at_call 12; refine k3.out.mono ?_; rintro e w1 ⟨n, rfl, hn, hk1, h1⟩; have u1 : True := trivial)
    | (go_at_call 32; refine (kc.out _ h1).mono ?_; rintro e w4 ⟨⟨cr, cg, cb, ca, rfl, hcol⟩, h4⟩)
    | (go_at_call 31; refine (kx.out _ _ _ _ _ hcol h4).mono ?_; rintro e w5 ⟨S, rfl, hS, h5⟩))
  · go_ret
    exact ⟨S, rfl, by omega, St.more h3 (by omega)⟩
  · go_ret
    exact ⟨S, rfl, hS, St.more h5 (by omega)⟩

end Go.Proofs.YtbniikaebkmbhaaDoor

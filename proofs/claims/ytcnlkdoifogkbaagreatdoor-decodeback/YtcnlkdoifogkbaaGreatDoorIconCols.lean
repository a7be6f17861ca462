/-
  Whether a color is among others, whether two are the same, whether colors are used in order: walked over the program.
-/
import Derived.Test.YtcnlkdoifogkbaaGreatDoorIconPaint2
import Derived.Test.YtcnlkdoifogkbaaGreatDoorGrow
namespace Go.Proofs.YtcnlkdoifogkbaaGreatDoor
open Go.RowKit

theorem eqcol (ar ag ab aa br bg bb ba : Int) (W : World) : (Op.equalIn 10000 66 (.agg #[.int .u8 ar, .int .u8 ag, .int .u8 ab, .int .u8 aa]) (.agg #[.int .u8 br, .int .u8 bg, .int .u8 bb, .int .u8 ba])).run Tryz.prog W = .ok ((ar == br) && ((ag == bg) && ((ab == bb) && (aa == ba)))) W := by
  cases h1 : (ar == br) <;> cases h2 : (ag == bg) <;> cases h3 : (ab == bb) <;> cases h4 : (aa == ba) <;> go_simp

theorem flat_take {α : Type} (f : α → List Value) (size : Nat) (hs : ∀ x, (f x).length = size) : ∀ (l : List α) (k : Nat), (l.take k).flatMap f = (l.flatMap f).take (k * size) := by
  intro l
  induction l with
  | nil => intro k; simp
  | cons x r ih =>
    intro k
    cases k with
    | zero => simp
    | succ k =>
      have e : (k + 1) * size - size = k * size := by rw [Nat.succ_mul]; omega
      have e2 : (f x).take ((k + 1) * size) = f x := List.take_of_length_le (by rw [hs, Nat.succ_mul]; omega)
      rw [List.take_succ_cons, List.flatMap_cons, List.flatMap_cons, ih k, List.take_append, hs, e, e2]

theorem Many.take {α : Type} {w : World} {t : TypeId} {size : Nat} {f : α → List Value} {ad : Option Addr} {cap n : Nat} {l : List α} (hs : ∀ x, (f x).length = size) (h : Many w t size f (.slice ad n cap) l) (k : Nat) (hk : k ≤ l.length) : Many w t size f (.slice ad k cap) (l.take k) := by
  have hl : (l.take k).length = k := by rw [List.length_take]; omega
  refine ⟨flat_len f size hs _, ?_⟩
  rw [hl]
  rcases h.2 with ⟨h0, h1⟩ | ⟨g, o, c, h1, h2, h3, h4, h5, h6⟩
  · obtain ⟨rfl, rfl, rfl⟩ : ad = none ∧ n = 0 ∧ cap = 0 := by simpa using h0
    obtain rfl : k = 0 := by omega
    exact .inl ⟨rfl, rfl⟩
  · obtain ⟨rfl, rfl, rfl⟩ : ad = some ⟨g, o, none⟩ ∧ n = l.length ∧ cap = c := by simpa using h1
    refine .inr ⟨g, o, cap, rfl, by omega, h3, h4, h5, fun j u hj => h6 j u ?_⟩
    rw [flat_take f size hs] at hj
    rw [List.getElem?_take] at hj
    split at hj
    · exact hj
    · cases hj

theorem any_take {α : Type} (f : α → Bool) (l : List α) (k : Nat) (hk : k < l.length) : (l.take (k + 1)).any f = ((l.take k).any f || f l[k]) := by
  rw [List.take_succ_eq_append_getElem hk, List.any_append]; simp

set_option maxRecDepth 20000 in
set_option maxHeartbeats 1000000 in
theorem index_any (cols : List IC.Col) (vc : Value) (c : IC.Col) (w : World) (h : Many w 66 4 IC.Col.cells vc cols) :
    Calls Tryz.prog 102 #[vc, .agg c.cells.toArray] w fun e w' => (∃ r : Int, e = .returned (.int .i64 r) ∧ -1 ≤ r ∧ decide (0 ≤ r) = cols.any (IC.sameCol c)) ∧ Below w.heap.size w w' := by
  have HM : Hid (Many w 66 4 IC.Col.cells vc cols) := h
  obtain ⟨ad, cap, hv, hl1, hl2⟩ := HM.out.len
  unfold maxLen at hl2
  obtain ⟨L, hL⟩ : ∃ L, cols.length = L := ⟨_, rfl⟩
  have HL : Hid (cols.length = L) := hL
  rw [hL] at hv hl1
  subst hv
  clear h hL
  obtain ⟨R, hR⟩ : ∃ R, cols.any (IC.sameCol c) = R := ⟨_, rfl⟩
  rw [hR]
  have HR : Hid (cols.any (IC.sameCol c) = R) := hR
  clear hR
  obtain ⟨ar, ag, ab, aa⟩ := c
  simp only [IC.Col.cells]
  have B0 : Hid (∀ o, Below w.heap.size w (w.alloc o)) := fun o => (Below.refl _ _).alloc (by omega) _
  go_enter Tryz.func102, Tryz.ntmps102
  go_wp2
  go_loopw [8] (fun i wr => ∃ k : Nat, k ≤ L ∧ i = .int .i64 k ∧ Hid ((cols.take k).any (IC.sameCol ⟨ar, ag, ab, aa⟩) = false) ∧ Hid (Below (w.alloc (.cells #[.int .u8 ar, .int .u8 ag, .int .u8 ab, .int .u8 aa] 66)).heap.size (w.alloc (.cells #[.int .u8 ar, .int .u8 ag, .int .u8 ab, .int .u8 aa] 66)) wr)) (fun i _ => L - (intOf i).toNat)
  case atStart => exact ⟨0, by omega, rfl, by simp [Hid], Below.refl _ _⟩
  case round =>
    obtain ⟨k, hk, rfl, HK, HB⟩ := hrel
    obtain ⟨p, r⟩ := boxes1 HB.out
    have z1 := sizes1 HB.out
    by_cases hkL : k < L
    · have hks : k < cols.length := by rw [HL.out]; exact hkL
      obtain ⟨g, o, cap', hv', hg, -, -, hc⟩ := HM.out.at col_len k hks
      obtain ⟨rfl, -⟩ : ad = some ⟨g, o, none⟩ ∧ _ := by simpa using hv'
      clear hv'
      obtain ⟨s, hs⟩ : ∃ s, cols[k] = s := ⟨_, rfl⟩
      have HK2 : Hid ((cols.take (k + 1)).any (IC.sameCol ⟨ar, ag, ab, aa⟩) = IC.sameCol ⟨ar, ag, ab, aa⟩ s) := by rw [any_take _ _ _ hks, HK.out, hs]; exact rfl
      rw [hs] at hc
      have hmem : s ∈ cols := hs ▸ List.getElem_mem hks
      have HM2 : Hid (IC.sameCol ⟨ar, ag, ab, aa⟩ s = true → R = true) := fun h => by rw [← HR.out]; exact List.any_eq_true.2 ⟨s, hmem, h⟩
      obtain ⟨br, bg, bb, ba⟩ := s
      have c0 : wr.cell? ⟨g, o + k * 4, none⟩ = some (.int .u8 br) := by rw [r g _ hg]; exact hc 0 _ rfl
      have c1 : wr.cell? ⟨g, o + k * 4 + 1, none⟩ = some (.int .u8 bg) := by rw [r g _ hg]; exact hc 1 _ rfl
      have c2 : wr.cell? ⟨g, o + k * 4 + 2, none⟩ = some (.int .u8 bb) := by rw [r g _ hg]; exact hc 2 _ rfl
      have c3 : wr.cell? ⟨g, o + k * 4 + 3, none⟩ = some (.int .u8 ba) := by rw [r g _ hg]; exact hc 3 _ rfl
      have hsame : IC.sameCol ⟨ar, ag, ab, aa⟩ ⟨br, bg, bb, ba⟩ = ((ar == br) && ((ag == bg) && ((ab == bb) && (aa == ba)))) := rfl
      have heq := eqcol ar ag ab aa br bg bb ba
      rw [← hsame] at heq
      clear hc r hs hsame hmem
      generalize IC.sameCol ⟨ar, ag, ab, aa⟩ ⟨br, bg, bb, ba⟩ = t at heq HK2 HM2
      cases t
      · go_wp2
        go_quiet (fail)
        go_wp2
        go_roundw
        case rel => exact ⟨k + 1, by omega, by go_num, HK2, below_drewN HB.out _⟩
        case measure => simp [intOf]; omega
      · go_wp2
        go_quiet (fail)
        go_wp2
        go_ret
        exact ⟨⟨_, rfl, by omega, by rw [HM2.out (by simp)]; simp⟩, chain (B0.out _) (below_drewN HB.out _)⟩
    · obtain rfl : k = L := by omega
      have hR : R = false := by rw [← HR.out, ← HK.out, List.take_of_length_le (by rw [HL.out]; omega)]
      have HR2 : Hid (R = false) := hR
      clear hR r
      go_wp2
      go_ret
      exact ⟨⟨-1, rfl, by omega, by rw [HR2.out]; rfl⟩, chain (B0.out _) HB.out⟩

set_option maxRecDepth 20000 in
theorem contains_any (cols : List IC.Col) (vc : Value) (c : IC.Col) (w : World) (h : Many w 66 4 IC.Col.cells vc cols) :
    Calls Tryz.prog 76 #[vc, .agg c.cells.toArray] w fun e w' => e = .returned (.bool (cols.any (IC.sameCol c))) ∧ Below w.heap.size w w' := by
  have k : Hid (∀ W, Below w.heap.size w W → Calls Tryz.prog 102 #[vc, .agg c.cells.toArray] W fun e w' => (∃ r : Int, e = .returned (.int .i64 r) ∧ -1 ≤ r ∧ decide (0 ≤ r) = cols.any (IC.sameCol c)) ∧ Below W.heap.size W w') := fun W hb => index_any cols vc c W (Row.below h hb)
  have B0 : Hid (∀ o, Below w.heap.size w (w.alloc o)) := fun o => (Below.refl _ _).alloc (by omega) _
  generalize cols.any (IC.sameCol c) = R at k ⊢
  obtain ⟨ar, ag, ab, aa⟩ := c
  simp only [IC.Col.cells] at k ⊢
  clear h
  go_enter Tryz.func76, Tryz.ntmps76
  go_wp2_with (go_at_call 102; refine (k.out _ (B0.out _)).mono ?_; rintro e w1 ⟨⟨r, rfl, h1, h2⟩, hb1⟩; have H2 : Hid (decide (0 ≤ r) = R) := h2; clear h2)
  all_goals
    go_ret
    exact ⟨ret_bool H2.out, chain (B0.out _) hb1⟩

set_option maxRecDepth 20000 in
set_option maxHeartbeats 1000000 in
theorem twins_any (cols : List IC.Col) (vc : Value) (w : World) (h : Many w 66 4 IC.Col.cells vc cols) :
    Calls Tryz.prog 47 #[vc] w fun e w' => e = .returned (.bool (IC.twinsFrom [] cols)) ∧ Below w.heap.size w w' := by
  have HM : Hid (Many w 66 4 IC.Col.cells vc cols) := h
  obtain ⟨ad, cap, hv, hl1, hl2⟩ := HM.out.len
  unfold maxLen at hl2
  obtain ⟨L, hL⟩ : ∃ L, cols.length = L := ⟨_, rfl⟩
  have HL : Hid (cols.length = L) := hL
  rw [hL] at hv hl1
  subst hv
  clear h hL
  obtain ⟨R, hR⟩ : ∃ R, IC.twinsFrom [] cols = R := ⟨_, rfl⟩
  rw [hR]
  have HR : Hid (IC.twinsFrom (cols.take 0) (cols.drop 0) = R) := by rw [← hR]; simp [Hid]
  clear hR
  go_enter Tryz.func47, Tryz.ntmps47
  go_wp2
  go_loopw [7] (fun i wr => ∃ k : Nat, k ≤ L ∧ i = .int .i64 k ∧ Hid (IC.twinsFrom (cols.take k) (cols.drop k) = R) ∧ Hid (Below w.heap.size w wr)) (fun i _ => L - (intOf i).toNat)
  case atStart => exact ⟨0, by omega, rfl, HR, Below.refl _ _⟩
  case round =>
    obtain ⟨k, hk, rfl, HK, HB⟩ := hrel
    by_cases hkL : k < L
    · have hks : k < cols.length := by rw [HL.out]; exact hkL
      have HT : Hid (Many w 66 4 IC.Col.cells (.slice ad k cap) (cols.take k)) := HM.out.take col_len k (by omega)
      obtain ⟨g, o, cap', hv', hg, -, -, hc⟩ := HM.out.at col_len k hks
      obtain ⟨rfl, -⟩ : ad = some ⟨g, o, none⟩ ∧ _ := by simpa using hv'
      clear hv'
      obtain ⟨s, hs⟩ : ∃ s, cols[k] = s := ⟨_, rfl⟩
      have HK2 : Hid (R = ((cols.take k).any (IC.sameCol s) || IC.twinsFrom (cols.take (k + 1)) (cols.drop (k + 1)))) := by rw [← HK.out, List.drop_eq_getElem_cons hks, List.take_succ_eq_append_getElem hks, hs]; exact rfl
      rw [hs] at hc
      obtain ⟨br, bg, bb, ba⟩ := s
      have c0 : wr.cell? ⟨g, o + k * 4, none⟩ = some (.int .u8 br) := by rw [HB.out.cell (p := ⟨g, _, none⟩) hg]; exact hc 0 _ rfl
      have c1 : wr.cell? ⟨g, o + k * 4 + 1, none⟩ = some (.int .u8 bg) := by rw [HB.out.cell (p := ⟨g, _, none⟩) hg]; exact hc 1 _ rfl
      have c2 : wr.cell? ⟨g, o + k * 4 + 2, none⟩ = some (.int .u8 bb) := by rw [HB.out.cell (p := ⟨g, _, none⟩) hg]; exact hc 2 _ rfl
      have c3 : wr.cell? ⟨g, o + k * 4 + 3, none⟩ = some (.int .u8 ba) := by rw [HB.out.cell (p := ⟨g, _, none⟩) hg]; exact hc 3 _ rfl
      have kS : Hid (∀ W, Below w.heap.size w W → Calls Tryz.prog 76 #[.slice (some ⟨g, o, none⟩) k cap, .agg #[.int .u8 br, .int .u8 bg, .int .u8 bb, .int .u8 ba]] W fun e w' => e = .returned (.bool ((cols.take k).any (IC.sameCol ⟨br, bg, bb, ba⟩))) ∧ Below W.heap.size W w') := fun W hb => contains_any (cols.take k) _ ⟨br, bg, bb, ba⟩ W (Row.below HT.out hb)
      have BW : Hid (∀ o, Below w.heap.size w (wr.alloc o)) := fun o => chain HB.out ((Below.refl _ _).alloc (by omega) _)
      clear hc hs HT
      generalize (cols.take k).any (IC.sameCol ⟨br, bg, bb, ba⟩) = t at kS HK2
      go_wp2
      obtain ⟨W, hW⟩ : ∃ W, wr.alloc (.cells #[.int .u8 br, .int .u8 bg, .int .u8 bb, .int .u8 ba] 66) = W := ⟨_, rfl⟩
      have d0 : W.cell? ⟨wr.heap.size, 0, none⟩ = some (.int .u8 br) := by rw [← hW, cell_new]; rfl
      have d1 : W.cell? ⟨wr.heap.size, 1, none⟩ = some (.int .u8 bg) := by rw [← hW, cell_new]; rfl
      have d2 : W.cell? ⟨wr.heap.size, 2, none⟩ = some (.int .u8 bb) := by rw [← hW, cell_new]; rfl
      have d3 : W.cell? ⟨wr.heap.size, 3, none⟩ = some (.int .u8 ba) := by rw [← hW, cell_new]; rfl
      have hz : wr.heap.size < W.heap.size := by rw [← hW]; simp
      have HW : Hid (Below w.heap.size w W) := hW ▸ BW.out _
      rw [hW]
      have f0 := Grown.cell hz d0
      have f1 := Grown.cell hz d1
      have f2 := Grown.cell hz d2
      have f3 := Grown.cell hz d3
      have hne := Grown.some W
      clear d0 d1 d2 d3 c0 c1 c2 c3 hW
      cases t
      · refine wp_region_grow (by kernel_rfl) (by kernel_rfl) ?_
        repeat (go_big_quiet_step ((go_at_call 76; exact grow_of (kS.out _ (chain HW.out (Grown.below _))))))
        refine wpQuiet_nil ?_
        rintro _ ⟨G, rfl⟩
        go_wp2
        go_roundw
        case rel => exact ⟨k + 1, by omega, by go_num, HK2.out.symm, chain HW.out G.below⟩
        case measure => simp [intOf]; omega
      · refine wp_region_grow (by kernel_rfl) (by kernel_rfl) ?_
        repeat (go_big_quiet_step ((go_at_call 76; exact grow_of (kS.out _ (chain HW.out (Grown.below _))))))
        refine wpQuiet_nil ?_
        rintro _ ⟨G, rfl⟩
        go_wp2
        go_ret
        exact ⟨ret_bool HK2.out.symm, chain HW.out G.below⟩
    · obtain rfl : k = L := by omega
      have HR2 : Hid (R = false) := by rw [← HK.out, List.drop_of_length_le (by rw [HL.out]; omega)]; exact rfl
      go_wp2
      go_ret
      exact ⟨ret_bool HR2.out.symm, HB.out⟩

end Go.Proofs.YtcnlkdoifogkbaaGreatDoor

/-
  Lists of segments, paths, commands copied into new memory: walked over the program.
-/
import Derived.Test.YtofmbedjbnbjlabDoorMake3
namespace Go.Proofs.YtofmbedjbnbjlabDoor
open Go.RowKit

theorem hidf {p : Prop} (h : p) : Hid p := h
def IsSl (v : Value) : Prop := ∃ ad n cap, v = .slice ad n cap

set_option maxRecDepth 20000 in
set_option maxHeartbeats 1000000 in
theorem copy_segs (v : Value) (l : List IC.Seg) (w : World) (hm : Many w 51 7 IC.Seg.cells v l) (hl : l.length ≤ 1000) :
    Calls Tryd.prog 9 #[v] w fun e w' => (∃ ad cap, e = .returned (.slice ad l.length cap) ∧ Own w' w.heap.size 51 7 IC.Seg.cells ad cap l) ∧ Below w.heap.size w w' := by
  have HM : Hid (Many w 51 7 IC.Seg.cells v l) := hm
  obtain ⟨ad, cap, hv, hl1, hl2⟩ := HM.out.len
  unfold maxLen at hl2
  obtain ⟨L, hL⟩ : ∃ L, l.length = L := ⟨_, rfl⟩
  have HL : Hid (l.length = L) := hL
  rw [hL] at hv hl1 hl ⊢
  subst hv
  clear hm hL
  obtain ⟨i0, hi, hz0, hz1, hz2⟩ := info_parts infoSeg
  obtain ⟨B, hB⟩ : ∃ B, w.heap.size = B := ⟨_, rfl⟩
  have hBw : B ≤ w.heap.size := by omega
  go_enter Tryd.func9, Tryd.ntmps9
  go_wp2_with (at_make; refine wpList_make_own _ rfl (.const (.int .i64 0)) (.tmp 6) 44 rfl B 51 i0 _ 7 Tryd.underlying44 hi hz0 hz1 .i64 .i64 (L : Int) L rfl rfl rfl (by rw [hz2]; omega) (by unfold maxLen; omega) hBw ?_; intro w1 hown1 hg1
               have HB1 : Hid (Below B w w1) := (by rw [← hB]; exact (Below.refl _ _).grown hg1 (Nat.le_refl _) (fun k e => by cases e))
               have HO1 : Hid (Own w1 B 51 7 IC.Seg.cells (some ⟨B, 0, none⟩) L []) := (by have h := hown1; rw [hB] at h; exact h)
               have hz1' : B ≤ w1.heap.size := (by have := hg1.size; omega)
               clear hown1 hg1)
  go_loopw [3, 4] (fun s i wr => ∃ (k : Nat) (ad' : Option Addr) (cap' : Nat), k ≤ L ∧ i = .int .i64 k ∧ s = .slice ad' k cap' ∧ Hid (Own wr B 51 7 IC.Seg.cells ad' cap' (l.take k)) ∧ Hid (Below B w wr) ∧ B ≤ wr.heap.size) (fun _ i _ => L - (intOf i).toNat)
  case atStart => exact ⟨0, _, _, by omega, rfl, rfl, HO1, HB1, hz1'⟩
  case round =>
    clear HO1 HB1 hz1'
    obtain ⟨k, ad', cap', hk, rfl, rfl, HO, HB, hBr⟩ := hrel
    have HT : Hid ((l.take k).length = k) := by show _ = _; rw [List.length_take, HL.out]; omega
    by_cases hkL : k < L
    · have hks : k < l.length := by rw [HL.out]; exact hkL
      obtain ⟨g, o, cap2, hv', hg, -, -, hc⟩ := HM.out.at seg_len k hks
      obtain ⟨rfl, -⟩ : ad = some ⟨g, o, none⟩ ∧ _ := by simpa using hv'
      clear hv'
      have r : ∀ j, wr.cell? ⟨g, j, none⟩ = w.cell? ⟨g, j, none⟩ := fun j => HB.out.cell (p := ⟨g, j, none⟩) (by show g < B; omega)
      have hgr : g < wr.heap.size := by omega
      have hA : l.take (k + 1) = l.take k ++ [l[k]] := List.take_succ_eq_append_getElem hks
      obtain ⟨x, hx⟩ : ∃ x, l[k] = x := ⟨_, rfl⟩
      rw [hx] at hc hA
      obtain ⟨xk, ⟨xa, xb⟩, ⟨xc, xd⟩, ⟨xe, xf⟩⟩ := x
      have HA := hidf hA
      have c0 : wr.cell? ⟨g, o + k * 7, none⟩ = some (.int .i64 xk) := by rw [r]; exact hc 0 _ rfl
      have c1 : wr.cell? ⟨g, o + k * 7 + 1, none⟩ = some (.int .i64 xa) := by rw [r]; exact hc 1 _ rfl
      have c2 : wr.cell? ⟨g, o + k * 7 + 2, none⟩ = some (.int .i64 xb) := by rw [r]; exact hc 2 _ rfl
      have c3 : wr.cell? ⟨g, o + k * 7 + 3, none⟩ = some (.int .i64 xc) := by rw [r]; exact hc 3 _ rfl
      have c4 : wr.cell? ⟨g, o + k * 7 + 4, none⟩ = some (.int .i64 xd) := by rw [r]; exact hc 4 _ rfl
      have c5 : wr.cell? ⟨g, o + k * 7 + 5, none⟩ = some (.int .i64 xe) := by rw [r]; exact hc 5 _ rfl
      have c6 : wr.cell? ⟨g, o + k * 7 + 6, none⟩ = some (.int .i64 xf) := by rw [r]; exact hc 6 _ rfl
      have hki : (k : Int) < (L : Int) := by omega
      clear hc hx r hA
      go_wp2_with (at_builtin; refine wpList_push _ rfl (.tmp 14) (.tmp 19) 44 rfl B 51 _ 7 56 Tryd.underlying44 infoSeg rfl (by decide) IC.Seg.cells seg_len (l.take k) ⟨xk, ⟨xa, xb⟩, ⟨xc, xd⟩, ⟨xe, xf⟩⟩ k HT.out rfl (HO.out.alloc _) _ rfl (new_cells _ _ _) (seg_one _) (by omega) (by omega) (by simp; omega) ?_
                   intro ad2 cap2 w2 hown2 hg2
                   have HB2 : Hid (Below B w w2) := below_grown (HB.out.alloc hBr _) hg2 (by simp; omega) (fun x hx => (HO.out.lt x hx).1)
                   have hB2 : B ≤ w2.heap.size := by have := hg2.size; simp at this; omega
                   have HO2 := hidf hown2
                   clear hown2 hg2)
      go_roundw
      case rel => exact ⟨k + 1, ad2, cap2, by omega, by go_num, rfl, by rw [HA.out]; exact HO2, HB2, hB2⟩
      case measure => simp [intOf]; omega
    · obtain rfl : k = L := by omega
      have e1 : l.take k = l := List.take_of_length_le (by rw [HL.out]; omega)
      rw [e1] at HO
      go_wp2
      go_ret
      exact ⟨⟨ad', cap', rfl, by rw [hB]; exact HO.out⟩, by rw [hB]; exact HB.out⟩

set_option maxRecDepth 20000 in
set_option maxHeartbeats 1000000 in
theorem copy_paths (v : Value) (l : List IC.Path) (w : World) (hm : Many w 46 4 IC.Path.cells v l) (hs : ∀ x ∈ l, IsSl x.vs) (hl : l.length ≤ 1000) :
    Calls Tryd.prog 8 #[v] w fun e w' => (∃ ad cap, e = .returned (.slice ad l.length cap) ∧ Own w' w.heap.size 46 4 IC.Path.cells ad cap l) ∧ Below w.heap.size w w' := by
  have HM : Hid (Many w 46 4 IC.Path.cells v l) := hm
  have HS := hidf hs
  clear hs
  obtain ⟨ad, cap, hv, hl1, hl2⟩ := HM.out.len
  unfold maxLen at hl2
  obtain ⟨L, hL⟩ : ∃ L, l.length = L := ⟨_, rfl⟩
  have HL : Hid (l.length = L) := hL
  rw [hL] at hv hl1 hl ⊢
  subst hv
  clear hm hL
  obtain ⟨i0, hi, hz0, hz1, hz2⟩ := info_parts infoPath
  obtain ⟨B, hB⟩ : ∃ B, w.heap.size = B := ⟨_, rfl⟩
  have hBw : B ≤ w.heap.size := by omega
  go_enter Tryd.func8, Tryd.ntmps8
  go_wp2_with (at_make; refine wpList_make_own _ rfl (.const (.int .i64 0)) (.tmp 6) 39 rfl B 46 i0 _ 4 Tryd.underlying39 hi hz0 hz1 .i64 .i64 (L : Int) L rfl rfl rfl (by rw [hz2]; omega) (by unfold maxLen; omega) hBw ?_; intro w1 hown1 hg1
               have HB1 : Hid (Below B w w1) := (by rw [← hB]; exact (Below.refl _ _).grown hg1 (Nat.le_refl _) (fun k e => by cases e))
               have HO1 : Hid (Own w1 B 46 4 IC.Path.cells (some ⟨B, 0, none⟩) L []) := (by have h := hown1; rw [hB] at h; exact h)
               have hz1' : B ≤ w1.heap.size := (by have := hg1.size; omega)
               clear hown1 hg1)
  go_loopw [3, 4] (fun s i wr => ∃ (k : Nat) (ad' : Option Addr) (cap' : Nat), k ≤ L ∧ i = .int .i64 k ∧ s = .slice ad' k cap' ∧ Hid (Own wr B 46 4 IC.Path.cells ad' cap' (l.take k)) ∧ Hid (Below B w wr) ∧ B ≤ wr.heap.size) (fun _ i _ => L - (intOf i).toNat)
  case atStart => exact ⟨0, _, _, by omega, rfl, rfl, HO1, HB1, hz1'⟩
  case round =>
    clear HO1 HB1 hz1'
    obtain ⟨k, ad', cap', hk, rfl, rfl, HO, HB, hBr⟩ := hrel
    have HT : Hid ((l.take k).length = k) := by show _ = _; rw [List.length_take, HL.out]; omega
    by_cases hkL : k < L
    · have hks : k < l.length := by rw [HL.out]; exact hkL
      obtain ⟨g, o, cap2, hv', hg, -, -, hc⟩ := HM.out.at path_len k hks
      obtain ⟨rfl, -⟩ : ad = some ⟨g, o, none⟩ ∧ _ := by simpa using hv'
      clear hv'
      have r : ∀ j, wr.cell? ⟨g, j, none⟩ = w.cell? ⟨g, j, none⟩ := fun j => HB.out.cell (p := ⟨g, j, none⟩) (by show g < B; omega)
      have hgr : g < wr.heap.size := by omega
      have hA : l.take (k + 1) = l.take k ++ [l[k]] := List.take_succ_eq_append_getElem hks
      have q1 := HS.out l[k] (List.getElem_mem hks)
      obtain ⟨x, hx⟩ : ∃ x, l[k] = x := ⟨_, rfl⟩
      rw [hx] at hc hA q1
      obtain ⟨⟨xa, xb⟩, xv, xs, xl⟩ := x
      obtain ⟨va, vn, vc, q1⟩ := q1
      replace q1 : xv = .slice va vn vc := q1
      subst q1
      have HA := hidf hA
      have c0 : wr.cell? ⟨g, o + k * 4, none⟩ = some (.int .i64 xa) := by rw [r]; exact hc 0 _ rfl
      have c1 : wr.cell? ⟨g, o + k * 4 + 1, none⟩ = some (.int .i64 xb) := by rw [r]; exact hc 1 _ rfl
      have c2 : wr.cell? ⟨g, o + k * 4 + 2, none⟩ = some (.slice va vn vc) := by rw [r]; exact hc 2 _ rfl
      have c3 : wr.cell? ⟨g, o + k * 4 + 3, none⟩ = some (.bool xl) := by rw [r]; exact hc 3 _ rfl
      have hki : (k : Int) < (L : Int) := by omega
      clear hc hx r hA
      go_wp2_with (at_builtin; refine wpList_push _ rfl (.tmp 14) (.tmp 19) 39 rfl B 46 _ 4 48 Tryd.underlying39 infoPath rfl (by decide) IC.Path.cells path_len (l.take k) ⟨⟨xa, xb⟩, .slice va vn vc, xs, xl⟩ k HT.out rfl (HO.out.alloc _) _ rfl (new_cells _ _ _) (path_one _ rfl) (by omega) (by omega) (by simp; omega) ?_
                   intro ad2 cap2 w2 hown2 hg2
                   have HB2 : Hid (Below B w w2) := below_grown (HB.out.alloc hBr _) hg2 (by simp; omega) (fun x hx => (HO.out.lt x hx).1)
                   have hB2 : B ≤ w2.heap.size := by have := hg2.size; simp at this; omega
                   have HO2 := hidf hown2
                   clear hown2 hg2)
      go_roundw
      case rel => exact ⟨k + 1, ad2, cap2, by omega, by go_num, rfl, by rw [HA.out]; exact HO2, HB2, hB2⟩
      case measure => simp [intOf]; omega
    · obtain rfl : k = L := by omega
      have e1 : l.take k = l := List.take_of_length_le (by rw [HL.out]; omega)
      rw [e1] at HO
      go_wp2
      go_ret
      exact ⟨⟨ad', cap', rfl, by rw [hB]; exact HO.out⟩, by rw [hB]; exact HB.out⟩

set_option maxRecDepth 20000 in
set_option maxHeartbeats 1000000 in
theorem copy_cmds (v : Value) (l : List IC.Cmd) (w : World) (hm : Many w 41 11 IC.Cmd.cells v l) (hs : ∀ x ∈ l, IsSl x.vp) (hl : l.length ≤ 1000) :
    Calls Tryd.prog 7 #[v] w fun e w' => (∃ ad cap, e = .returned (.slice ad l.length cap) ∧ Own w' w.heap.size 41 11 IC.Cmd.cells ad cap l) ∧ Below w.heap.size w w' := by
  have HM : Hid (Many w 41 11 IC.Cmd.cells v l) := hm
  have HS := hidf hs
  clear hs
  obtain ⟨ad, cap, hv, hl1, hl2⟩ := HM.out.len
  unfold maxLen at hl2
  obtain ⟨L, hL⟩ : ∃ L, l.length = L := ⟨_, rfl⟩
  have HL : Hid (l.length = L) := hL
  rw [hL] at hv hl1 hl ⊢
  subst hv
  clear hm hL
  obtain ⟨i0, hi, hz0, hz1, hz2⟩ := info_parts infoCmd
  obtain ⟨B, hB⟩ : ∃ B, w.heap.size = B := ⟨_, rfl⟩
  have hBw : B ≤ w.heap.size := by omega
  go_enter Tryd.func7, Tryd.ntmps7
  go_wp2_with (at_make; refine wpList_make_own _ rfl (.const (.int .i64 0)) (.tmp 6) 25 rfl B 41 i0 _ 11 Tryd.underlying25 hi hz0 hz1 .i64 .i64 (L : Int) L rfl rfl rfl (by rw [hz2]; omega) (by unfold maxLen; omega) hBw ?_; intro w1 hown1 hg1
               have HB1 : Hid (Below B w w1) := (by rw [← hB]; exact (Below.refl _ _).grown hg1 (Nat.le_refl _) (fun k e => by cases e))
               have HO1 : Hid (Own w1 B 41 11 IC.Cmd.cells (some ⟨B, 0, none⟩) L []) := (by have h := hown1; rw [hB] at h; exact h)
               have hz1' : B ≤ w1.heap.size := (by have := hg1.size; omega)
               clear hown1 hg1)
  go_loopw [3, 4] (fun s i wr => ∃ (k : Nat) (ad' : Option Addr) (cap' : Nat), k ≤ L ∧ i = .int .i64 k ∧ s = .slice ad' k cap' ∧ Hid (Own wr B 41 11 IC.Cmd.cells ad' cap' (l.take k)) ∧ Hid (Below B w wr) ∧ B ≤ wr.heap.size) (fun _ i _ => L - (intOf i).toNat)
  case atStart => exact ⟨0, _, _, by omega, rfl, rfl, HO1, HB1, hz1'⟩
  case round =>
    clear HO1 HB1 hz1'
    obtain ⟨k, ad', cap', hk, rfl, rfl, HO, HB, hBr⟩ := hrel
    have HT : Hid ((l.take k).length = k) := by show _ = _; rw [List.length_take, HL.out]; omega
    by_cases hkL : k < L
    · have hks : k < l.length := by rw [HL.out]; exact hkL
      obtain ⟨g, o, cap2, hv', hg, -, -, hc⟩ := HM.out.at cmd_len k hks
      obtain ⟨rfl, -⟩ : ad = some ⟨g, o, none⟩ ∧ _ := by simpa using hv'
      clear hv'
      have r : ∀ j, wr.cell? ⟨g, j, none⟩ = w.cell? ⟨g, j, none⟩ := fun j => HB.out.cell (p := ⟨g, j, none⟩) (by show g < B; omega)
      have hgr : g < wr.heap.size := by omega
      have hA : l.take (k + 1) = l.take k ++ [l[k]] := List.take_succ_eq_append_getElem hks
      have q1 := HS.out l[k] (List.getElem_mem hks)
      obtain ⟨x, hx⟩ : ∃ x, l[k] = x := ⟨_, rfl⟩
      rw [hx] at hc hA q1
      obtain ⟨xk, xr, xw, ⟨xp, xa, xb, ⟨xc, xd⟩, ⟨xe, xf⟩⟩, xv, xs⟩ := x
      obtain ⟨va, vn, vc, q1⟩ := q1
      replace q1 : xv = .slice va vn vc := q1
      subst q1
      have HA := hidf hA
      have c0 : wr.cell? ⟨g, o + k * 11, none⟩ = some (.int .i64 xk) := by rw [r]; exact hc 0 _ rfl
      have c1 : wr.cell? ⟨g, o + k * 11 + 1, none⟩ = some (.int .i64 xr) := by rw [r]; exact hc 1 _ rfl
      have c2 : wr.cell? ⟨g, o + k * 11 + 2, none⟩ = some (.int .i64 xw) := by rw [r]; exact hc 2 _ rfl
      have c3 : wr.cell? ⟨g, o + k * 11 + 3, none⟩ = some (.int .i64 xp) := by rw [r]; exact hc 3 _ rfl
      have c4 : wr.cell? ⟨g, o + k * 11 + 4, none⟩ = some (.int .i64 xa) := by rw [r]; exact hc 4 _ rfl
      have c5 : wr.cell? ⟨g, o + k * 11 + 5, none⟩ = some (.int .i64 xb) := by rw [r]; exact hc 5 _ rfl
      have c6 : wr.cell? ⟨g, o + k * 11 + 6, none⟩ = some (.int .i64 xc) := by rw [r]; exact hc 6 _ rfl
      have c7 : wr.cell? ⟨g, o + k * 11 + 7, none⟩ = some (.int .i64 xd) := by rw [r]; exact hc 7 _ rfl
      have c8 : wr.cell? ⟨g, o + k * 11 + 8, none⟩ = some (.int .i64 xe) := by rw [r]; exact hc 8 _ rfl
      have c9 : wr.cell? ⟨g, o + k * 11 + 9, none⟩ = some (.int .i64 xf) := by rw [r]; exact hc 9 _ rfl
      have c10 : wr.cell? ⟨g, o + k * 11 + 10, none⟩ = some (.slice va vn vc) := by rw [r]; exact hc 10 _ rfl
      have hki : (k : Int) < (L : Int) := by omega
      clear hc hx r hA
      go_wp2_with (at_builtin; refine wpList_push _ rfl (.tmp 14) (.tmp 19) 25 rfl B 41 _ 11 104 Tryd.underlying25 infoCmd rfl (by decide) IC.Cmd.cells cmd_len (l.take k) ⟨xk, xr, xw, ⟨xp, xa, xb, ⟨xc, xd⟩, ⟨xe, xf⟩⟩, .slice va vn vc, xs⟩ k HT.out rfl (HO.out.alloc _) _ rfl (new_cells _ _ _) (cmd_one _ rfl) (by omega) (by omega) (by simp; omega) ?_
                   intro ad2 cap2 w2 hown2 hg2
                   have HB2 : Hid (Below B w w2) := below_grown (HB.out.alloc hBr _) hg2 (by simp; omega) (fun x hx => (HO.out.lt x hx).1)
                   have hB2 : B ≤ w2.heap.size := by have := hg2.size; simp at this; omega
                   have HO2 := hidf hown2
                   clear hown2 hg2)
      go_roundw
      case rel => exact ⟨k + 1, ad2, cap2, by omega, by go_num, rfl, by rw [HA.out]; exact HO2, HB2, hB2⟩
      case measure => simp [intOf]; omega
    · obtain rfl : k = L := by omega
      have e1 : l.take k = l := List.take_of_length_le (by rw [HL.out]; omega)
      rw [e1] at HO
      go_wp2
      go_ret
      exact ⟨⟨ad', cap', rfl, by rw [hB]; exact HO.out⟩, by rw [hB]; exact HB.out⟩

end Go.Proofs.YtofmbedjbnbjlabDoor

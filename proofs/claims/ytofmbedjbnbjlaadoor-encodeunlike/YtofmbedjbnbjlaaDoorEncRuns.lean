/-
  Runs of segments: walked over the program.
-/
import Derived.Test.YtofmbedjbnbjlaaDoorEncMem
namespace Go.Proofs.YtofmbedjbnbjlaaDoor
open Go.RowKit

def prCells (r : Int × Nat) : List Value := [.int .i64 r.1, .int .i64 (r.2 : Int)]
theorem pr_len (r : Int × Nat) : (prCells r).length = 2 := rfl
theorem pr_one (r : Int × Nat) : ∀ u ∈ prCells r, u.oneCell' = true := by
  intro u hu; simp [prCells] at hu; rcases hu with rfl | rfl <;> rfl
theorem infoTwo : (Tryd.prog.info? 61).map (fun i => (i.zero, i.size, i.bytes)) = some (some (.agg #[.int .i64 0, .int .i64 0]), 2, 16) := by kernel_rfl

theorem own_some {w : World} {B : Nat} {ad : Option Addr} {cap : Nat} {l : List (Int × Nat)} (h : Own w B 61 2 prCells ad cap l) (hl : l ≠ []) : ∃ g, ad = some ⟨g, 0, none⟩ ∧ B ≤ g ∧ g < w.heap.size ∧ l.length ≤ cap ∧ cap ≤ maxLen := by
  rcases h.2 with ⟨_, h2⟩ | ⟨g, c, cur, h1, h2, h3, h4, h5, _⟩
  · exact absurd (List.eq_nil_of_length_eq_zero h2) hl
  · cases h1
    exact ⟨g, rfl, h2, (Array.getElem?_eq_some_iff.1 h3).1, h4, h5⟩

theorem own_last {w : World} {B g cap : Nat} {o : List (Int × Nat)} {k : Int} {c : Nat} (h : Own w B 61 2 prCells (some ⟨g, 0, none⟩) cap (o ++ [(k, c)])) :
    w.cell? ⟨g, o.length * 2, none⟩ = some (.int .i64 k) ∧ w.cell? ⟨g, o.length * 2 + 1, none⟩ = some (.int .i64 (c : Int)) ∧ w.frozen? ⟨g, o.length * 2 + 1, none⟩ = false ∧
      ∀ c' : Nat, Own (w.setCell ⟨g, o.length * 2 + 1, none⟩ (.int .i64 (c' : Int))) B 61 2 prCells (some ⟨g, 0, none⟩) cap (o ++ [(k, c')]) := by
  have hf : (o.flatMap prCells).length = o.length * 2 := flat_len prCells 2 pr_len o
  have e : (o ++ [(k, c)]).flatMap prCells = o.flatMap prCells ++ [.int .i64 k, .int .i64 (c : Int)] := by simp [prCells]
  have hl : (o ++ [(k, c)]).length = o.length + 1 := by simp
  refine ⟨?_, ?_, World.ownsRow.frozenAt h _, fun c' => ?_⟩
  · rw [World.ownsRow.cellAt h _ (by rw [hl]; omega), e, List.getElem?_append_right (by omega), hf]; simp
  · rw [World.ownsRow.cellAt h _ (by rw [hl]; omega), e, List.getElem?_append_right (by omega), hf]; simp
  · have hs := (World.ownsRow.stored h (o.length * 2 + 1) (.int .i64 (c' : Int))).1
    have e' : ((o ++ [(k, c)]).flatMap prCells).set (o.length * 2 + 1) (.int .i64 (c' : Int)) = (o ++ [(k, c')]).flatMap prCells := by
      rw [e, List.set_append_right _ _ (by omega), hf]
      simp [prCells]
    rw [e'] at hs
    unfold Own
    rw [show (o ++ [(k, c')]).length = (o ++ [(k, c)]).length by simp]
    exact hs

theorem Own.drewN {α : Type} {w : World} {B : Nat} {t : TypeId} {size : Nat} {f : α → List Value} {ad : Option Addr} {cap : Nat} {l : List α} (h : Own w B t size f ad cap l) (n : Nat) : Own (w.drewN n) B t size f ad cap l := h

theorem new_cells' (w : World) (b : Nat) (hb : w.heap.size = b) (e : TypeId) (l : List Value) : ∀ (j : Nat) (u : Value), l[j]? = some u → (w.alloc (Obj.cells l.toArray e)).cell? ((⟨b, 0, none⟩ : Addr).add j) = some u := by
  subst hb
  exact new_cells w e l

theorem count_le {rs : List (Int × Nat)} {x : Int × Nat} (h : x ∈ rs) : x.2 ≤ (EP.kindsOf rs).length := by
  induction rs with
  | nil => simp at h
  | cons y r ih =>
    unfold EP.kindsOf
    rw [List.flatMap_cons, List.length_append, List.length_replicate]
    rcases List.mem_cons.1 h with rfl | h
    · omega
    · have := ih h
      unfold EP.kindsOf at this
      omega

theorem runs_count {l : List IC.Seg} {x : Int × Nat} (h : x ∈ EP.runs l) : x.2 ≤ l.length := by
  have h1 := count_le h
  have h2 := (EP.runsOf_is (l.map IC.Seg.k)).2.2
  unfold EP.runs at h1
  rw [h2, List.length_map] at h1
  exact h1

theorem runs_take (l : List IC.Seg) (k : Nat) (hk : k < l.length) : EP.runs (l.take (k + 1)) = EP.addRun (EP.runs (l.take k)) l[k].k := by
  unfold EP.runs
  rw [← EP.runsOf_snoc, List.take_succ_eq_append_getElem hk, List.map_append]
  rfl

theorem runs_last (l : List IC.Seg) (k : Nat) (hk : k < l.length) : ∃ o n, EP.runs (l.take (k + 1)) = o ++ [(l[k].k, n + 1)] := by
  unfold EP.runs
  rw [List.take_succ_eq_append_getElem hk, List.map_append]
  exact EP.runsOf_last _ _

theorem addRun_len (o : List (Int × Nat)) (k : Int) : (EP.addRun o k).length ≤ o.length + 1 := by
  unfold EP.addRun
  split
  · simp
  · split <;> simp

set_option maxRecDepth 20000 in
set_option maxHeartbeats 2000000 in
theorem runs_any (vs : Value) (l : List IC.Seg) (w : World) (hm : Many w 60 7 IC.Seg.cells vs l) (hl : l.length ≤ 1000000) :
    Calls Tryd.prog 15 #[vs] w fun e w' => (∃ ad cap, e = .returned (.slice ad (EP.runs l).length cap) ∧ Own w' w.heap.size 61 2 prCells ad cap (EP.runs l)) ∧ Below w.heap.size w w' := by
  have HM : Hid (Many w 60 7 IC.Seg.cells vs l) := hm
  obtain ⟨ad, cap, hv, hl1, hl2⟩ := HM.out.len
  unfold maxLen at hl2
  obtain ⟨L, hL⟩ : ∃ L, l.length = L := ⟨_, rfl⟩
  have HL : Hid (l.length = L) := hL
  rw [hL] at hv hl1 hl
  subst hv
  clear hm hL
  obtain ⟨B, hB⟩ : ∃ B, w.heap.size = B := ⟨_, rfl⟩
  have HB0 : Hid (w.heap.size = B) := hB
  rw [hB]
  go_enter Tryd.func15, Tryd.ntmps15
  go_wp2
  go_loopw [3, 8] (fun out i wr => ∃ (k m : Nat) (ad' : Option Addr) (cap' : Nat) (rs : List (Int × Nat)), k ≤ L ∧ i = .int .i64 k ∧ Hid (rs = EP.runs (l.take k)) ∧ Hid (rs.length = m) ∧ m ≤ k ∧ out = .slice ad' m cap' ∧ Hid (Own wr B 61 2 prCells ad' cap' rs) ∧ Hid (Below B w wr) ∧ B ≤ wr.heap.size) (fun _ i _ => L - (intOf i).toNat)
  case atStart => exact ⟨0, 0, none, 0, [], by omega, rfl, rfl, rfl, by omega, rfl, own_nil _ _ _ _ _, by rw [← hB]; exact Below.refl _ _, by omega⟩
  case round =>
    obtain ⟨k, m, ad', cap', rs, hk, rfl, HR, HRm, hmk, rfl, HO, HB, hBw⟩ := hrel
    by_cases hkL : k < L
    · have hks : k < l.length := by rw [HL.out]; exact hkL
      obtain ⟨g, o, cap2, hv', hg, -, -, hc⟩ := HM.out.at seg_len k hks
      obtain ⟨rfl, -⟩ : ad = some ⟨g, o, none⟩ ∧ _ := by simpa using hv'
      clear hv'
      have hgB : g < B := by omega
      have r : ∀ j, wr.cell? ⟨g, j, none⟩ = w.cell? ⟨g, j, none⟩ := fun j => HB.out.cell (p := ⟨g, j, none⟩) hgB
      obtain ⟨s, hs⟩ : ∃ s, l[k] = s := ⟨_, rfl⟩
      have HT : Hid (EP.runs (l.take (k + 1)) = EP.addRun rs s.k) := by show _ = _; rw [runs_take l k hks, hs, HR.out]
      rw [hs] at hc
      obtain ⟨sk, ⟨ax, ay⟩, ⟨bx, b_y⟩, ⟨cx, cy⟩⟩ := s
      have c0 : wr.cell? ⟨g, o + k * 7, none⟩ = some (.int .i64 sk) := by rw [r]; exact hc 0 _ rfl
      have c1 : wr.cell? ⟨g, o + k * 7 + 1, none⟩ = some (.int .i64 ax) := by rw [r]; exact hc 1 _ rfl
      have c2 : wr.cell? ⟨g, o + k * 7 + 2, none⟩ = some (.int .i64 ay) := by rw [r]; exact hc 2 _ rfl
      have c3 : wr.cell? ⟨g, o + k * 7 + 3, none⟩ = some (.int .i64 bx) := by rw [r]; exact hc 3 _ rfl
      have c4 : wr.cell? ⟨g, o + k * 7 + 4, none⟩ = some (.int .i64 b_y) := by rw [r]; exact hc 4 _ rfl
      have c5 : wr.cell? ⟨g, o + k * 7 + 5, none⟩ = some (.int .i64 cx) := by rw [r]; exact hc 5 _ rfl
      have c6 : wr.cell? ⟨g, o + k * 7 + 6, none⟩ = some (.int .i64 cy) := by rw [r]; exact hc 6 _ rfl
      have hgw : g < wr.heap.size := by omega
      clear hc hs
      have HX : Hid (Below B w (wr.alloc (.cells #[.int .i64 sk, .int .i64 ax, .int .i64 ay, .int .i64 bx, .int .i64 b_y, .int .i64 cx, .int .i64 cy] 60))) := HB.out.alloc hBw _
      rcases Nat.eq_zero_or_pos k with hk0 | hkp
      · obtain rfl : m = 0 := by omega
        have hkz : ((k : Int) == 0) = true := by simp; omega
        have hrs : rs = [] := List.eq_nil_of_length_eq_zero HRm.out
        subst hrs
        have HN : Hid (EP.runs (l.take (k + 1)) = [] ++ [(sk, 0 + 1)]) := HT.out
        clear r hk0
        go_wp2
        go_quiet (fail)
        go_wp2_with (at_builtin; refine wpList_push _ rfl (.tmp 26) (.tmp 30) 47 rfl B 61 _ 2 16 Tryd.underlying47 infoTwo rfl (by decide) prCells pr_len ([]) (sk, 0) (0) HRm.out rfl (((HO.out.alloc _).drewN _).alloc _) _ rfl (new_cells' _ _ (by simp) _ _) (pr_one _) (by omega) (by omega) (by simp; omega) ?_
                     intro ad2 cap2 w2 hown2 hg2
                     have HB2 : Hid (Below B w w2) := below_grown ((below_drewN HX.out _).alloc (by simp; omega) _) hg2 (by simp; omega) (fun x hx => (HO.out.lt x hx).1)
                     obtain ⟨g2, rfl, hg3, hg4, hcap2, hcap3⟩ := own_some hown2 (by simp)
                     unfold maxLen at hcap3
                     have hcapm : (0) + 1 ≤ cap2 := by have := HRm.out; simp at this hcap2; omega
                     obtain ⟨-, e1, e2, -⟩ := own_last hown2
                     rw [HRm.out] at e1 e2
                     have HO2 := hid' hown2
                     have hB2 : B ≤ w2.heap.size := by omega
                     clear hown2 hg2)
        go_region
        all_goals
          go_wp2
          go_roundw
          case rel =>
            refine ⟨k + 1, 0 + 1, _, _, _, by omega, by go_num, HN.out.symm, by show _ = _; rw [List.length_append, HRm.out]; rfl, by omega, rfl, ?_, ?_, ?_⟩
            · have h3 := (own_last HO2.out).2.2.2 (0 + 1)
              rw [HRm.out] at h3
              exact h3
            · first | exact HB2.out.setCell (p := ⟨g2, _, none⟩) (by show B ≤ g2; omega) _ | exact HB2.out.drew.setCell (p := ⟨g2, _, none⟩) (by show B ≤ g2; omega) _ | exact (below_drewN HB2.out _).setCell (p := ⟨g2, _, none⟩) (by show B ≤ g2; omega) _
            · simp; omega
          case measure => simp [intOf]; omega
      · obtain ⟨j, rfl⟩ : ∃ j, k = j + 1 := ⟨k - 1, by omega⟩
        have hjs : j < l.length := by omega
        obtain ⟨o1, n1, hlast⟩ := runs_last l j hjs
        have hrs : rs = o1 ++ [(l[j].k, n1 + 1)] := by rw [HR.out, hlast]
        obtain ⟨g', o', cap3, hv', hg', -, -, hc'⟩ := HM.out.at seg_len j hjs
        obtain ⟨rfl, rfl⟩ : g' = g ∧ o' = o := by simp at hv'; omega
        clear hv' hlast
        obtain ⟨pk, hpk⟩ : ∃ pk, l[j].k = pk := ⟨_, rfl⟩
        have d0 : wr.cell? ⟨g', o' + j * 7, none⟩ = some (.int .i64 pk) := by rw [r]; exact hc' 0 _ (by rw [← hpk]; rfl)
        rw [hpk] at hrs
        have hn1 : n1 + 1 ≤ j + 1 := by
          have h1 : (pk, n1 + 1) ∈ EP.runs (l.take (j + 1)) := by rw [← HR.out, hrs]; simp
          have h2 := runs_count h1
          rw [List.length_take] at h2
          simp only at h2
          omega
        subst hrs
        clear hc' hpk r hg'
        have hz' : ((j : Int) + 1 == 0) = false := by simp; omega
        have hjL : j < L := by omega
        obtain ⟨m1, hm1⟩ : ∃ m1, o1.length = m1 := ⟨_, rfl⟩
        have HM1 : Hid (o1.length = m1) := hm1
        obtain rfl : m = m1 + 1 := by have := HRm.out; simp at this; omega
        clear hm1
        by_cases he : sk = pk
        · subst he
          have HN : Hid (EP.runs (l.take (j + 1 + 1)) = o1 ++ [(sk, n1 + 1 + 1)]) := by show _ = _; rw [HT.out]; exact EP.add_same _ _ _
          obtain ⟨g2, rfl, hg2, hg2', hcap2, hcap3⟩ := own_some HO.out (by simp)
          unfold maxLen at hcap3
          have hcapm : m1 + 1 ≤ cap' := by have := HRm.out; simp at this hcap2; omega
          have HO2 := hid' (fun n => (HO.out.alloc (.cells #[.int .i64 sk, .int .i64 ax, .int .i64 ay, .int .i64 bx, .int .i64 b_y, .int .i64 cx, .int .i64 cy] 60)).drewN n)
          obtain ⟨-, e1, e2, e3⟩ := own_last HO.out
          rw [HM1.out] at e1 e2
          clear e3
          go_wp2
          go_quiet (fail)
          go_wp2
          go_region
          all_goals
            go_wp2
            go_roundw
            case rel =>
              refine ⟨j + 1 + 1, m1 + 1, _, _, _, by omega, by go_num, HN.out.symm, by show _ = _; simp [HM1.out], by omega, rfl, ?_, ?_, ?_⟩
              · have h3 := fun d => (own_last (HO2.out d)).2.2.2 (n1 + 1 + 1)
                simp only [HM1.out] at h3
                exact h3 _
              · exact (below_drewN HX.out _).setCell (p := ⟨g2, m1 * 2 + 1, none⟩) (by show B ≤ g2; omega) _
              · simp; omega
            case measure => simp [intOf]; omega
        · have HN : Hid (EP.runs (l.take (j + 1 + 1)) = (o1 ++ [(pk, n1 + 1)]) ++ [(sk, 0 + 1)]) := by show _ = _; rw [HT.out]; exact EP.add_other _ _ _ _ (fun e => he e.symm)
          have hne : (sk != pk) = true := by simp [he]
          have he' : (sk == pk) = false := by simp [he]
          go_wp2
          go_quiet (fail)
          go_wp2_with (at_builtin; refine wpList_push _ rfl (.tmp 26) (.tmp 30) 47 rfl B 61 _ 2 16 Tryd.underlying47 infoTwo rfl (by decide) prCells pr_len (o1 ++ [(pk, n1 + 1)]) (sk, 0) (m1 + 1) HRm.out rfl (((HO.out.alloc _).drewN _).alloc _) _ rfl (new_cells' _ _ (by simp) _ _) (pr_one _) (by omega) (by omega) (by simp; omega) ?_
                       intro ad2 cap2 w2 hown2 hg2
                       have HB2 : Hid (Below B w w2) := below_grown ((below_drewN HX.out _).alloc (by simp; omega) _) hg2 (by simp; omega) (fun x hx => (HO.out.lt x hx).1)
                       obtain ⟨g2, rfl, hg3, hg4, hcap2, hcap3⟩ := own_some hown2 (by simp)
                       unfold maxLen at hcap3
                       have hcapm : (m1 + 1) + 1 ≤ cap2 := by have := HRm.out; simp at this hcap2; omega
                       obtain ⟨-, e1, e2, -⟩ := own_last hown2
                       rw [HRm.out] at e1 e2
                       have HO2 := hid' hown2
                       have hB2 : B ≤ w2.heap.size := by omega
                       clear hown2 hg2)
          go_region
          all_goals
            go_wp2
            go_roundw
            case rel =>
              refine ⟨j + 1 + 1, m1 + 1 + 1, _, _, _, by omega, by go_num, HN.out.symm, by show _ = _; rw [List.length_append, HRm.out]; rfl, by omega, rfl, ?_, ?_, ?_⟩
              · have h3 := (own_last HO2.out).2.2.2 (0 + 1)
                rw [HRm.out] at h3
                exact h3
              · first | exact HB2.out.setCell (p := ⟨g2, _, none⟩) (by show B ≤ g2; omega) _ | exact HB2.out.drew.setCell (p := ⟨g2, _, none⟩) (by show B ≤ g2; omega) _ | exact (below_drewN HB2.out _).setCell (p := ⟨g2, _, none⟩) (by show B ≤ g2; omega) _
              · simp; omega
            case measure => simp [intOf]; omega
    · obtain rfl : k = L := by omega
      go_wp2
      go_ret
      have e : rs = EP.runs l := by rw [HR.out, List.take_of_length_le (by rw [HL.out]; omega)]
      subst e
      rw [HRm.out]
      exact ⟨⟨ad', cap', rfl, HO.out⟩, HB.out⟩

end Go.Proofs.YtofmbedjbnbjlaaDoor

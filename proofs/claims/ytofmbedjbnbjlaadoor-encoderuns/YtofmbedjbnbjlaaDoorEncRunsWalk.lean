/-
  The statement on runs, walked over the program.
-/
import Derived.Test.YtofmbedjbnbjlaaDoorEncFirst
import Derived.Test.YtofmbedjbnbjlaaDoorIsRow
namespace Go.Proofs.YtofmbedjbnbjlaaDoor
open Go.RowKit

theorem apart_at : ∀ (rs : List (Int × Nat)) (i : Nat) (x y : Int × Nat), EP.Apart rs → rs[i]? = some x → rs[i + 1]? = some y → x.1 ≠ y.1 := by
  intro rs
  induction rs with
  | nil => intro i x y _ h; simp at h
  | cons a r ih =>
    intro i x y h h1 h2
    cases r with
    | nil => simp at h2
    | cons b t =>
      cases i with
      | zero => simp at h1 h2; rw [← h1, ← h2]; exact h.1
      | succ i => exact ih i x y h.2 (by simpa using h1) (by simpa using h2)

theorem run_facts {rs : List (Int × Nat)} {l : List Int} {i : Nat} {k : Int} {c : Nat} (h : EP.kindsOf rs = l) (hi : rs[i]? = some (k, c)) :
    (EP.kindsOf (rs.take (i + 1))).length = (EP.kindsOf (rs.take i)).length + c ∧ (EP.kindsOf (rs.take i)).length + c ≤ l.length ∧ ∀ t, t < c → l[(EP.kindsOf (rs.take i)).length + t]? = some k := by
  obtain ⟨hlt, e⟩ := List.getElem?_eq_some_iff.1 hi
  have e1 : EP.kindsOf (rs.take (i + 1)) = EP.kindsOf (rs.take i) ++ List.replicate c k := by
    rw [List.take_succ_eq_append_getElem hlt, e]
    unfold EP.kindsOf
    rw [List.flatMap_append]
    simp
  have e2 : l = EP.kindsOf (rs.take i) ++ List.replicate c k ++ EP.kindsOf (rs.drop (i + 1)) := by
    rw [← e1, ← h]
    unfold EP.kindsOf
    rw [← List.flatMap_append, List.take_append_drop]
  refine ⟨by rw [e1]; simp, by rw [e2]; simp, fun t ht => ?_⟩
  rw [e2, List.append_assoc, List.getElem?_append_right (by omega), List.getElem?_append_left (by simp; omega), Nat.add_sub_cancel_left, List.getElem?_replicate, if_pos ht]

/-- The kind that a number makes. -/
def kd (z : Int) : Int := (z.tmod 3 + 3).tmod 3 + 1
def kseg (z : Int) : IC.Seg := ⟨kd z, ⟨0, 0⟩, ⟨0, 0⟩, ⟨0, 0⟩⟩

theorem kd_in (z : Int) : (-3 < z.tmod 3 ∧ z.tmod 3 < 3) ∧ (0 ≤ (z.tmod 3 + 3).tmod 3 ∧ (z.tmod 3 + 3).tmod 3 < 3) := by
  have h : -3 < z.tmod 3 ∧ z.tmod 3 < 3 := by
    rcases Int.le_total 0 z with h | h
    · rw [Int.tmod_eq_emod_of_nonneg h]; omega
    · have e : z.tmod 3 = -((-z).tmod 3) := by rw [Int.neg_tmod]; omega
      rw [e, Int.tmod_eq_emod_of_nonneg (by omega)]; omega
  refine ⟨h, ?_⟩
  rw [Int.tmod_eq_emod_of_nonneg (by omega)]
  omega

set_option maxRecDepth 100000 in
set_option maxHeartbeats 4000000 in
theorem eruns_long (A : Nat → Addr) (a : Option Addr) (len cap : Nat) (w : World) (hE : Errs3 w A) (hl : 60 < len) (hm : len ≤ 9223372036854775807) :
    Calls Tryd.prog 5 #[.slice a len cap] w fun e w' => e = .returned (.bool true) ∧ Below w.heap.size w w' := by
  have kf : Hid (∀ W, Below w.heap.size w W → Calls Tryd.prog 9 #[] W fun e w' => e = .returned (.bool true) ∧ Below W.heap.size W w') := fun W hb => efirst_any A W (hE.below hb)
  clear hE
  have hli : (60 : Int) < (len : Int) := by omega
  go_enter Tryd.func5, Tryd.ntmps5
  go_wp2_with (go_at_call 9; refine (kf.out _ (Below.refl _ _)).mono ?_; rintro e w1 ⟨rfl, hb1⟩)
  go_ret
  exact ⟨rfl, hb1⟩

set_option maxRecDepth 100000 in
set_option maxHeartbeats 4000000 in
theorem eruns_any (A : Nat → Addr) (a : Option Addr) (len cap : Nat) (zs : List Int) (w : World) (hE : Errs3 w A) (hl : len ≤ 60) (hr : IsRow .i64 w a len cap zs) :
    Calls Tryd.prog 5 #[.slice a len cap] w fun e w' => e = .returned (.bool true) ∧ Below w.heap.size w w' := by
  have kf : Hid (∀ W, Below w.heap.size w W → Calls Tryd.prog 9 #[] W fun e w' => e = .returned (.bool true) ∧ Below W.heap.size W w') := fun W hb => efirst_any A W (hE.below hb)
  have kr : Hid (∀ W l vs, Many W 60 7 IC.Seg.cells vs l → l.length ≤ 60 → Calls Tryd.prog 15 #[vs] W fun e w' => (∃ ad cap, e = .returned (.slice ad (EP.runs l).length cap) ∧ Own w' W.heap.size 61 2 prCells ad cap (EP.runs l)) ∧ Below W.heap.size W w') := fun W l vs h1 h2 => runs_any vs l W h1 (by omega)
  have HR : Hid (∀ j, j < len → ∃ x, a = some x ∧ x.block < w.heap.size ∧ w.cell? (x.add j) = some (.int .i64 (zs.getD j 0)) ∧ (-9223372036854775808 ≤ zs.getD j 0 ∧ zs.getD j 0 ≤ 9223372036854775807)) := fun j hj => by
    rcases hr with ⟨rfl, rfl, rfl, -⟩ | ⟨x, rfl, hl', hm, hz, hc, hw⟩
    · omega
    · have hj' : j < zs.length := by omega
      have h1 := hc j hj'
      have h2 := World.block_lt_of_cell? w _ h1
      rw [add_block] at h2
      exact ⟨x, rfl, h2, h1, bounds_i64 (hw (zs.getD j 0) (by simp [List.getD, hj']))⟩
  have hcap : len ≤ cap ∧ cap ≤ 9223372036854775807 := by
    rcases hr with ⟨rfl, rfl, rfl, -⟩ | ⟨x, rfl, hl', hm, hz, hc, hw⟩
    · omega
    · exact ⟨hl', hm⟩
  have hli : ¬ (60 : Int) < (len : Int) := by omega
  obtain ⟨ks, hks⟩ : ∃ ks : List IC.Seg, (List.range len).map (fun j => kseg (zs.getD j 0)) = ks := ⟨_, rfl⟩
  have HKl : Hid (ks.length = len) := by show _ = _; rw [← hks]; simp
  have HKat : Hid (∀ j, (h : j < len) → ks[j]? = some (kseg (zs.getD j 0))) := fun j h => by rw [← hks]; simp [h]
  obtain ⟨B, hB⟩ : ∃ B, w.heap.size = B := ⟨_, rfl⟩
  clear hE hr hks
  go_enter Tryd.func5, Tryd.ntmps5
  go_wp2_with (go_at_call 9; refine (kf.out _ (Below.refl _ _)).mono ?_; rintro e w1 ⟨rfl, hb1⟩)
  go_loopw [4, 5] (fun s i wr => ∃ (k : Nat) (ad' : Option Addr) (cap' : Nat), k ≤ len ∧ i = .int .i64 k ∧ s = .slice ad' k cap' ∧ Hid (Own wr B 60 7 IC.Seg.cells ad' cap' (ks.take k)) ∧ Hid (Below B w wr) ∧ B ≤ wr.heap.size) (fun _ i _ => len - (intOf i).toNat)
  case atStart => exact ⟨0, none, 0, by omega, rfl, rfl, own_nil _ _ _ _ _, by rw [← hB]; exact hb1, by have := hb1.size; omega⟩
  case round =>
    clear hb1
    obtain ⟨k, ad', cap', hk, rfl, rfl, HO, HB, hBw⟩ := hrel
    have HT : Hid ((ks.take k).length = k) := by show _ = _; rw [List.length_take, HKl.out]; omega
    by_cases hkl : k < len
    · obtain ⟨x, rfl, hx, hc, hz1, hz2⟩ := HR.out k hkl
      have hc' : wr.cell? (x.add k) = some (.int .i64 (zs.getD k 0)) := by rw [HB.out.cell (p := x.add k) (by rw [add_block]; omega)]; exact hc
      have HA : Hid (ks.take (k + 1) = ks.take k ++ [kseg (zs.getD k 0)]) := by
        have h1 := HKat.out k hkl
        obtain ⟨h2, h3⟩ := List.getElem?_eq_some_iff.1 h1
        show _ = _
        rw [List.take_succ_eq_append_getElem h2, h3]
      have hkd := kd_in (zs.getD k 0)
      have HKD : Hid (kseg (zs.getD k 0) = ⟨((zs.getD k 0).tmod 3 + 3).tmod 3 + 1, ⟨0, 0⟩, ⟨0, 0⟩, ⟨0, 0⟩⟩) := rfl
      generalize zs.getD k 0 = z at *
      have m1 := hkd.1.1
      have m2 := hkd.1.2
      have m3 := hkd.2.1
      have m4 := hkd.2.2
      obtain ⟨T, hT⟩ : ∃ T, z.tmod 3 = T := ⟨_, rfl⟩
      rw [hT] at m1 m2 m3 m4 HKD
      obtain ⟨U, hU⟩ : ∃ U, (T + 3).tmod 3 = U := ⟨_, rfl⟩
      rw [hU] at m3 m4 HKD
      clear hc hkd
      go_wp2_with (at_builtin; refine wpList_push _ rfl (.tmp 23) (.tmp 33) 49 rfl B 60 _ 7 56 Tryd.underlying49 infoSeg rfl (by decide) IC.Seg.cells seg_len (ks.take k) ⟨U + 1, ⟨0, 0⟩, ⟨0, 0⟩, ⟨0, 0⟩⟩ k HT.out rfl (HO.out.alloc _) _ rfl (new_cells _ _ _) (seg_one _) (by omega) (by omega) (by simp; omega) ?_
                   intro ad2 cap2 w2 hown2 hg2
                   have HB2 : Hid (Below B w w2) := below_grown (HB.out.alloc hBw _) hg2 (by simp; omega) (fun x hx => (HO.out.lt x hx).1)
                   have hB2 : B ≤ w2.heap.size := by have := hg2.size; simp at this; omega
                   have HO2 := hid' hown2
                   clear hown2 hg2)
      go_roundw
      case rel => exact ⟨k + 1, ad2, cap2, by omega, by go_num, rfl, by rw [HA.out, HKD.out]; exact HO2, HB2, hB2⟩
      case measure => simp [intOf]; omega
    · obtain rfl : k = len := by omega
      have e1 : ks.take k = ks := List.take_of_length_le (by rw [HKl.out]; omega)
      rw [e1] at HO
      have HO' := HO.out.many
      rw [HKl.out] at HO'
      have HM : Hid (Many wr 60 7 IC.Seg.cells (.slice ad' k cap') ks) := HO'
      clear HO' e1 HT
      obtain ⟨R, hR⟩ : ∃ R, (EP.runs ks).length = R := ⟨_, rfl⟩
      have HRl : Hid ((EP.runs ks).length = R) := hR
      have hRk : R ≤ k := by rw [← hR, ← HKl.out]; exact runs_bound ks
      have kr2 := kr.out wr ks _ HM.out (by rw [HKl.out]; omega)
      rw [hR] at kr2
      have KR := hid' kr2
      clear kr2 hR
      go_wp2_with (go_at_call 15; refine (KR.out).mono ?_; rintro e w2 ⟨⟨adr, capr, rfl, hown2⟩, hb2⟩
                   have HM2 : Hid (Many w2 60 7 IC.Seg.cells (.slice ad' k cap') ks) := Row.below HM.out hb2
                   have HW2 : Hid (Many w2 61 2 prCells (.slice adr R capr) (EP.runs ks)) := by have := Own.many hown2; rw [HRl.out] at this; exact this
                   have HB2 : Hid (Below B w w2) := HB.out.trans (hb2.mono hBw)
                   clear hown2 hb2)
      have HX : Hid (Many w2 60 7 IC.Seg.cells (.slice ad' k cap') ks ∧ Many w2 61 2 prCells (.slice adr R capr) (EP.runs ks) ∧ Below B w w2) := ⟨HM2.out, HW2.out, HB2.out⟩
      have hcr : R ≤ capr ∧ capr ≤ 9223372036854775807 := by obtain ⟨_, _, h1, h2, h3⟩ := HW2.out.len; rw [HRl.out] at h1 h2; cases h1; exact ⟨h2, h3⟩
      have hcs : k ≤ cap' ∧ cap' ≤ 9223372036854775807 := by obtain ⟨_, _, h1, h2, h3⟩ := HM2.out.len; rw [HKl.out] at h1 h2; cases h1; exact ⟨h2, h3⟩
      clear HM2 HW2 HB2 HM HO KR HR
      rename World => wb
      go_loopw [7, 8] (fun n i wr => ∃ (j m : Nat), j ≤ R ∧ i = .int .i64 j ∧ n = .int .i64 m ∧ Hid ((EP.kindsOf ((EP.runs ks).take j)).length = m) ∧ m ≤ k ∧ Hid (Many wr 60 7 IC.Seg.cells (.slice ad' k cap') ks ∧ Many wr 61 2 prCells (.slice adr R capr) (EP.runs ks) ∧ Below B w wr)) (fun _ i _ => R - (intOf i).toNat)
      case atStart => exact ⟨0, 0, by omega, rfl, rfl, rfl, by omega, HX⟩
      case round =>
        clear HX
        obtain ⟨j, m, hj, rfl, rfl, Hm, hmk, HX⟩ := hrel
        have hkk : EP.kindsOf (EP.runs ks) = ks.map IC.Seg.k := (EP.runsOf_is (ks.map IC.Seg.k)).2.2
        by_cases hjR : j < R
        · have hjr : j < (EP.runs ks).length := by rw [HRl.out]; exact hjR
          obtain ⟨gr, or, capr', hv', hgr, -, -, hcr'⟩ := HX.out.2.1.at pr_len j hjr
          obtain ⟨rfl, -⟩ : adr = some ⟨gr, or, none⟩ ∧ _ := by simpa using hv'
          clear hv'
          obtain ⟨⟨K, c⟩, hx⟩ : ∃ x, (EP.runs ks)[j] = x := ⟨_, rfl⟩
          rw [hx] at hcr'
          have hx' : (EP.runs ks)[j]? = some (K, c) := List.getElem?_eq_some_iff.2 ⟨hjr, hx⟩
          obtain ⟨f1, f2, f3⟩ := run_facts hkk hx'
          rw [Hm.out] at f1 f2
          rw [List.length_map, HKl.out] at f2
          have f3' : Hid (∀ t, t < c → (ks.map IC.Seg.k)[m + t]? = some K) := fun t ht => by have := f3 t ht; rw [Hm.out] at this; exact this
          have hc1 : 1 ≤ c := (EP.runsOf_is (ks.map IC.Seg.k)).2.1 (K, c) (by rw [← hx]; exact List.getElem_mem hjr)
          have c0 : wr.cell? ⟨gr, or + j * 2, none⟩ = some (.int .i64 K) := hcr' 0 _ rfl
          have c1 : wr.cell? ⟨gr, or + j * 2 + 1, none⟩ = some (.int .i64 (c : Int)) := hcr' 1 _ rfl
          have HF1 : Hid ((EP.kindsOf ((EP.runs ks).take (j + 1))).length = m + c) := f1
          have hci : decide ((c : Int) < 1) = false := by simp; omega
          have hmi : decide ((k : Int) < (m : Int) + (c : Int)) = false := by simp; omega
          have HAP : Hid (∀ j', j = j' + 1 → ∃ K', wr.cell? ⟨gr, or + j' * 2, none⟩ = some (.int .i64 K') ∧ (K == K') = false) := fun j' e => by
            have hj' : j' < (EP.runs ks).length := by omega
            obtain ⟨gr', or', cap3, hv', hgr', -, -, hcr''⟩ := HX.out.2.1.at pr_len j' hj'
            obtain ⟨rfl, rfl⟩ : gr' = gr ∧ or' = or := by simp at hv'; omega
            refine ⟨((EP.runs ks)[j']).1, hcr'' 0 _ rfl, ?_⟩
            have := apart_at _ j' _ _ (EP.runsOf_is (ks.map IC.Seg.k)).1 (List.getElem?_eq_some_iff.2 ⟨hj', rfl⟩) (by rw [← e]; exact hx')
            simp only at this
            exact beq_eq_false_iff_ne.2 (fun e => this e.symm)
          clear hcr' hx hx' f1 f3 hkk
          rcases Nat.eq_zero_or_pos j with hj0 | hjp
          · have hj0i : decide (0 < j) = false := by simp; omega
            have hj0j : ¬ 0 < j := by omega
            clear hj0 HAP
            go_wp2
            go_quiet (fail)
            go_wp2
            rename World => wc
            have HX2 : Hid (∀ d, Many (wc.drewN d) 60 7 IC.Seg.cells (.slice ad' k cap') ks ∧ Many (wc.drewN d) 61 2 prCells (.slice (some ⟨gr, or, none⟩) R capr) (EP.runs ks) ∧ Below B w (wc.drewN d)) := fun d => ⟨Row.below HX.out.1 (below_drewN (Below.refl _ _) _), Row.below HX.out.2.1 (below_drewN (Below.refl _ _) _), below_drewN HX.out.2.2 _⟩
            go_loopw [9] (fun i wr => ∃ t : Nat, t ≤ c ∧ i = .int .i64 t ∧ ∃ d, wr = wc.drewN d) (fun i _ => c - (intOf i).toNat)
            case atStart => exact ⟨0, by omega, rfl, _, rfl⟩
            case round =>
              obtain ⟨t, ht, rfl, d, rfl⟩ := hrel
              by_cases htc : t < c
              · have hts : m + t < ks.length := by rw [HKl.out]; omega
                obtain ⟨gs, os, cap3, hv', hgs, -, -, hcs'⟩ := HX.out.1.at seg_len (m + t) hts
                obtain ⟨rfl, -⟩ : ad' = some ⟨gs, os, none⟩ ∧ _ := by simpa using hv'
                clear hv'
                have e0 : wc.cell? ⟨gs, os + (m + t) * 7, none⟩ = some (.int .i64 K) := by
                  have h1 := f3'.out t htc
                  rw [List.getElem?_map, List.getElem?_eq_getElem hts] at h1
                  simp at h1
                  rw [← h1]
                  exact hcs' 0 _ rfl
                have htci : (t : Int) < (c : Int) := by omega
                have hmt : m + t < k := by omega
                clear hcs'
                go_wp2
                go_quiet (fail)
                go_wp2
                go_roundw
                case rel => exact ⟨t + 1, by omega, by go_num, _, rfl⟩
                case measure => simp [intOf]; omega
              · obtain rfl : t = c := by omega
                go_wp2
                go_roundw
                case rel => exact ⟨j + 1, m + t, by omega, by go_num, by go_num, HF1, by omega, HX2.out _⟩
                case measure => simp [intOf]; omega
          · obtain ⟨j', rfl⟩ : ∃ j', j = j' + 1 := ⟨j - 1, by omega⟩
            obtain ⟨K', d0, hne⟩ := HAP.out j' rfl
            have hjpi : decide ((0 : Int) < (j' : Int) + 1) = true := decide_eq_true (by omega)
            have hjR' : j' < R := by omega
            clear HAP
            go_wp2
            go_quiet (fail)
            go_wp2
            rename World => wc
            have HX2 : Hid (∀ d, Many (wc.drewN d) 60 7 IC.Seg.cells (.slice ad' k cap') ks ∧ Many (wc.drewN d) 61 2 prCells (.slice (some ⟨gr, or, none⟩) R capr) (EP.runs ks) ∧ Below B w (wc.drewN d)) := fun d => ⟨Row.below HX.out.1 (below_drewN (Below.refl _ _) _), Row.below HX.out.2.1 (below_drewN (Below.refl _ _) _), below_drewN HX.out.2.2 _⟩
            go_loopw [9] (fun i wr => ∃ t : Nat, t ≤ c ∧ i = .int .i64 t ∧ ∃ d, wr = wc.drewN d) (fun i _ => c - (intOf i).toNat)
            case atStart => exact ⟨0, by omega, rfl, _, rfl⟩
            case round =>
              obtain ⟨t, ht, rfl, d, rfl⟩ := hrel
              by_cases htc : t < c
              · have hts : m + t < ks.length := by rw [HKl.out]; omega
                obtain ⟨gs, os, cap3, hv', hgs, -, -, hcs'⟩ := HX.out.1.at seg_len (m + t) hts
                obtain ⟨rfl, -⟩ : ad' = some ⟨gs, os, none⟩ ∧ _ := by simpa using hv'
                clear hv'
                have e0 : wc.cell? ⟨gs, os + (m + t) * 7, none⟩ = some (.int .i64 K) := by
                  have h1 := f3'.out t htc
                  rw [List.getElem?_map, List.getElem?_eq_getElem hts] at h1
                  simp at h1
                  rw [← h1]
                  exact hcs' 0 _ rfl
                have htci : (t : Int) < (c : Int) := by omega
                have hmt : m + t < k := by omega
                clear hcs'
                go_wp2
                go_quiet (fail)
                go_wp2
                go_roundw
                case rel => exact ⟨t + 1, by omega, by go_num, _, rfl⟩
                case measure => simp [intOf]; omega
              · obtain rfl : t = c := by omega
                go_wp2
                go_roundw
                case rel => exact ⟨j' + 1 + 1, m + t, by omega, by go_num, by go_num, HF1, by omega, HX2.out _⟩
                case measure => simp [intOf]; omega
        · obtain rfl : j = R := by omega
          have e : m = k := by
            have h1 := Hm.out
            rw [List.take_of_length_le (by rw [HRl.out]; omega)] at h1
            rw [← h1]
            rw [hkk, List.length_map, HKl.out]
          subst e
          clear hkk
          go_wp2
          go_ret
          exact ⟨rfl, by rw [hB]; exact HX.out.2.2⟩

end Go.Proofs.YtofmbedjbnbjlaaDoor

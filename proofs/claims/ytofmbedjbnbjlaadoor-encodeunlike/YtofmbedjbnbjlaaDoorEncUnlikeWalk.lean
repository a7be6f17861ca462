/-
  Unlike icons have unlike bytes: walked over the program.
-/
import Derived.Test.YtofmbedjbnbjlaaDoorEncSame2
import Derived.Test.YtofmbedjbnbjlaaDoorEncFirst
import Derived.Test.YtofmbedjbnbjlaaDoorEncHeadsWalk
namespace Go.Proofs.YtofmbedjbnbjlaaDoor
open Go.RowKit

theorem pt_no {p : IC.Pt} (h : p.x = 0 ∧ p.y = 0) : p = ⟨0, 0⟩ := by
  obtain ⟨a, b⟩ := p
  obtain ⟨h1, h2⟩ := h
  simp only at h1 h2
  rw [h1, h2]

theorem good_R {i : IC.Icon} (h : Good i) : EP.IconR i := by
  have hg := greatest_in h.sized
  refine ⟨by have := h.w; omega, by have := h.h; omega, by have := h.s; omega, fun c hc => ?_, fun c hc => ?_⟩
  · obtain ⟨a, b, c, d⟩ := h.cols c hc
    exact ⟨a.1, b.1, c.1, d.1⟩
  · obtain ⟨h1, ⟨⟨a0, -⟩, h2⟩, h3, h4⟩ := h.cmds c hc
    refine ⟨?_, ?_, ?_, ?_, fun p hp s hs => ?_⟩
    · rcases h1 with h1 | h1
      · exact .inl h1.1
      · exact .inr h1.1
    · rcases h1 with h1 | h1
      · exact h1.2.1
      · exact .inl h1.2.1
    · rcases h1 with ⟨e1, -, e3⟩ | ⟨e1, -, e3, -⟩
      · omega
      · omega
    · rcases h2 with ⟨e1, e2, e3, e4⟩ | ⟨e1, e2, -⟩ | ⟨e1, e2, -, e4, e5⟩
      · exact ⟨a0, by omega, .inl ⟨e1, e2, pt_no e3, pt_no e4⟩⟩
      · exact ⟨a0, e2.1, .inr (.inl e1)⟩
      · exact ⟨a0, e2.1, .inr (.inr ⟨e1, by omega, e5⟩)⟩
    · obtain ⟨b1, b2, b3⟩ := seg_chk hg (((h4 p hp).2.2.2 s hs).chk (Int.le_refl _))
      exact ⟨b1.1, fun h => pt_no (b2 h), fun h => pt_no (b3 h)⟩

/-- What the beginnings say. -/
theorem unlike_is {i j : IC.Icon} (hi : Good i) (hj : Good j) (X Y : List Nat) (hX : EP.icon i = X) (hY : EP.icon j = Y) :
    (sIcon i j = true → X = Y) ∧ (sIcon i j = false → X.take (min X.length Y.length) ≠ Y.take (min X.length Y.length)) := by
  refine ⟨fun h => ?_, fun h e => ?_⟩
  · rw [← hX, ← hY]
    exact EP.icon_same ((sIcon_iff i j).1 h)
  · have hs : EP.SameI i j := by
      rcases Nat.le_total X.length Y.length with hl | hl
      · rw [Nat.min_eq_left hl, List.take_of_length_le (Nat.le_refl _)] at e
        refine (EP.icon_inj (good_R hi) (good_R hj) (r := Y.drop X.length) (t := []) ?_).1
        rw [hX, hY, List.append_nil]
        conv => lhs; rw [e]
        rw [List.length_take, Nat.min_eq_left hl]
        exact List.take_append_drop _ _
      · rw [Nat.min_eq_right hl, List.take_of_length_le (l := Y) (Nat.le_refl _)] at e
        refine (EP.icon_inj (good_R hi) (good_R hj) (r := []) (t := X.drop Y.length) ?_).1
        rw [hX, hY, List.append_nil]
        conv => rhs; rw [← e]
        rw [List.length_take, Nat.min_eq_left hl]
        exact (List.take_append_drop _ _).symm
    rw [(sIcon_iff i j).2 hs] at h
    cases h

theorem cells_own4 {w : World} {B g cap : Nat} {X : List Nat} (h : w.ownsRow B 5 1 (.slice (some ⟨g, 0, none⟩) X.length cap) X.length (vals X)) : Cells w (some ⟨g, 0, none⟩) X := fun j hj =>
  ⟨g, 0, rfl, (World.ownsRow.lt h g rfl).2, by rw [Nat.zero_add]; exact own_byte h rfl (List.getElem?_eq_getElem hj)⟩
theorem cells_take {w : World} {ad : Option Addr} {X : List Nat} (h : Cells w ad X) (n : Nat) : Cells w ad (X.take n) := fun j hj => by
  have hj' : j < X.length := by rw [List.length_take] at hj; omega
  obtain ⟨b, o, e, hb, hc⟩ := h j hj'
  exact ⟨b, o, e, hb, by rw [List.getElem_take]; exact hc⟩

set_option maxRecDepth 20000 in
set_option maxHeartbeats 1000000 in
theorem samebytes_any (ad ad' : Option Addr) (cap cap' : Nat) (X Y : List Nat) (w : World) (h1 : Cells w ad X) (h2 : Cells w ad' Y) (hl : X.length ≤ 100000000000000) (hl' : Y.length ≤ 100000000000000) :
    Calls Tryd.prog 18 #[.slice ad X.length cap, .slice ad' Y.length cap'] w fun e w' => e = .returned (.bool (decide (X = Y))) ∧ Below w.heap.size w w' := by
  obtain ⟨L, hL⟩ : ∃ L, X.length = L := ⟨_, rfl⟩
  obtain ⟨M, hM⟩ : ∃ M, Y.length = M := ⟨_, rfl⟩
  have HL := hid' hL
  have HM := hid' hM
  have H1 := hid' h1
  have H2 := hid' h2
  rw [hL] at hl ⊢
  rw [hM] at hl' ⊢
  by_cases hLM : L = M
  · subst hLM
    obtain ⟨R, hR⟩ : ∃ R, decide (X = Y) = R := ⟨_, rfl⟩
    rw [hR]
    have HR0 : Hid (decide (X.drop 0 = Y.drop 0) = R) := by show decide _ = R; simpa using hR
    clear h1 h2 hL hM hR
    go_enter Tryd.func18, Tryd.ntmps18
    go_wp2
    go_loopw [5] (fun i wr => ∃ k : Nat, k ≤ L ∧ i = .int .i64 k ∧ Hid (decide (X.drop k = Y.drop k) = R) ∧ ∃ d, wr = w.drewN d) (fun i _ => L - (intOf i).toNat)
    case atStart => exact ⟨0, by omega, rfl, HR0, 0, rfl⟩
    case round =>
      obtain ⟨k, hk, rfl, HR, d, rfl⟩ := hrel
      by_cases hkL : k < L
      · have hks : k < X.length := by rw [HL.out]; exact hkL
        have hks' : k < Y.length := by rw [HM.out]; exact hkL
        obtain ⟨b, o, rfl, hb, c0⟩ := H1.out k hks
        obtain ⟨b', o', rfl, hb', d0⟩ := H2.out k hks'
        have hA := HR.out
        rw [List.drop_eq_getElem_cons hks, List.drop_eq_getElem_cons hks'] at hA
        obtain ⟨x, hx⟩ : ∃ x, X[k] = x := ⟨_, rfl⟩
        obtain ⟨y, hy⟩ : ∃ y, Y[k] = y := ⟨_, rfl⟩
        rw [hx] at c0 hA
        rw [hy] at d0 hA
        have hki : (k : Int) < (L : Int) := by omega
        clear hx hy HR
        by_cases hxy : x = y
        · subst hxy
          have HF : Hid (decide (X.drop (k + 1) = Y.drop (k + 1)) = R) := by rw [← hA]; show _ = _; simp
          clear hA
          go_wp2
          go_quiet (fail)
          go_wp2
          go_roundw
          case rel => exact ⟨k + 1, by omega, by go_num, HF, _, rfl⟩
          case measure => simp [intOf]; omega
        · have HF : Hid (R = false) := by rw [← hA]; show _ = _; simp [hxy]
          have hne : ((x : Int) == (y : Int)) = false := by simp; omega
          have hne' : (x == y) = false := by simp [hxy]
          clear hA
          go_wp2
          go_quiet (fail)
          go_wp2
          go_ret
          exact ⟨ret_bool HF.out.symm, below_drewN (Below.refl _ _) _⟩
      · obtain rfl : k = L := by omega
        have HF : Hid (R = true) := by have h := HR.out; rw [List.drop_of_length_le (by rw [HL.out]; omega), List.drop_of_length_le (by rw [HM.out]; omega)] at h; rw [← h]; show _ = _; simp
        go_wp2
        go_ret
        exact ⟨ret_bool HF.out.symm, below_drewN (Below.refl _ _) _⟩
  · have hLMi : ((L : Int) == (M : Int)) = false := by simp; omega
    have HF : Hid (decide (X = Y) = false) := by show _ = _; simp; intro e; exact hLM (by rw [← hL, ← hM, e])
    clear h1 h2 hL hM
    go_enter Tryd.func18, Tryd.ntmps18
    go_wp2
    go_ret
    exact ⟨ret_bool HF.out.symm, Below.refl _ _⟩

set_option maxRecDepth 100000 in
set_option maxHeartbeats 4000000 in
theorem eunlike_long (A : Nat → Addr) (a b : Option Addr) (len cap len' cap' : Nat) (w : World) (hE : Errs3 w A) (hl : 200 < len ∨ 200 < len') (hm : len ≤ 9223372036854775807) (hm' : len' ≤ 9223372036854775807) :
    Calls Tryd.prog 4 #[.slice a len cap, .slice b len' cap'] w fun e w' => e = .returned (.bool true) ∧ Below w.heap.size w w' := by
  have kf : Hid (∀ W, Below w.heap.size w W → Calls Tryd.prog 9 #[] W fun e w' => e = .returned (.bool true) ∧ Below W.heap.size W w') := fun W hb => efirst_any A W (hE.below hb)
  clear hE
  by_cases hli : (200 : Int) < (len : Int)
  · go_enter Tryd.func4, Tryd.ntmps4
    go_wp2_with (go_at_call 9; refine (kf.out _ (Below.refl _ _)).mono ?_; rintro e w1 ⟨rfl, hb1⟩)
    go_ret
    exact ⟨rfl, hb1⟩
  · have hli' : (200 : Int) < (len' : Int) := by omega
    go_enter Tryd.func4, Tryd.ntmps4
    go_wp2_with (go_at_call 9; refine (kf.out _ (Below.refl _ _)).mono ?_; rintro e w1 ⟨rfl, hb1⟩)
    go_ret
    exact ⟨rfl, hb1⟩

set_option maxRecDepth 100000 in
set_option maxHeartbeats 4000000 in
theorem eunlike_any (A : Nat → Addr) (a b : Option Addr) (len cap len' cap' : Nat) (zs zs' : List Int) (w : World) (hE : Errs3 w A) (hl : len ≤ 200) (hl' : len' ≤ 200) (hr : IsRow .i64 w a len cap zs) (hr' : IsRow .i64 w b len' cap' zs') :
    Calls Tryd.prog 4 #[.slice a len cap, .slice b len' cap'] w fun e w' => e = .returned (.bool true) ∧ Below w.heap.size w w' := by
  have kf : Hid (∀ W, Below w.heap.size w W → Calls Tryd.prog 9 #[] W fun e w' => e = .returned (.bool true) ∧ Below W.heap.size W w') := fun W hb => efirst_any A W (hE.below hb)
  have ki : Hid (∀ W, Below w.heap.size w W → Calls Tryd.prog 10 #[.pointer (some ⟨W.heap.size, 0, none⟩)] (W.alloc (.cells #[.slice a len cap, .int .i64 0] 26)) fun e w' => (∃ i : IC.Icon, e = .returned (.agg i.cells.toArray) ∧ Good i ∧ IconOk w' i) ∧ Below W.heap.size W w') := fun W hb => icon_row hr hb
  have ki' : Hid (∀ W, Below w.heap.size w W → Calls Tryd.prog 10 #[.pointer (some ⟨W.heap.size, 0, none⟩)] (W.alloc (.cells #[.slice b len' cap', .int .i64 0] 26)) fun e w' => (∃ i : IC.Icon, e = .returned (.agg i.cells.toArray) ∧ Good i ∧ IconOk w' i) ∧ Below W.heap.size W w') := fun W hb => icon_row hr' hb
  have HE : Hid (Errs3 w A) := hE
  have hli : ¬ (200 : Int) < (len : Int) := by omega
  have hli' : ¬ (200 : Int) < (len' : Int) := by omega
  clear hE hr hr'
  go_enter Tryd.func4, Tryd.ntmps4
  go_upto_region 14 with (first
    | (go_at_call 9; refine (kf.out _ (Below.refl _ _)).mono ?_; rintro e w1 ⟨rfl, hb1⟩; have B1 : Hid (Below w.heap.size w w1) := hb1; clear hb1)
    | (go_at_call 10; have k2 := ki'.out (w2.alloc (.cells #[.int .i64 p0, .int .i64 p1, .int .i64 p2, .slice pc pn pd, .slice pm pk pe] 30)) (B2.out.alloc B2.out.size _); rw [size_alloc] at k2; refine k2.mono ?_; rintro e w3 ⟨⟨i, rfl, hgood, hok⟩, hb3⟩
       have hb3' : Below w2.heap.size w2 w3 := ((Below.refl _ _).alloc (Nat.le_refl _) _).trans (hb3.mono (by simp))
       have B3 : Hid (Below w.heap.size w w3) := chain B2.out hb3'
       have HB23 := hid' hb3'
       have HX3 := hid' ((blk_new w2 30 #[.int .i64 p0, .int .i64 p1, .int .i64 p2, .slice pc pn pd, .slice pm pk pe]).below hb3 (by simp))
       have pOK3 := hid' (pOK.out.below hb3')
       have qG := hid' hgood
       have qOK := hid' hok
       have qKB : Hid (∀ W, Below w3.heap.size w3 W → Calls Tryd.prog 12 #[.agg i.cells.toArray] W fun e w' => (∃ ad cap, e = .returned (.tuple #[.slice ad (EP.icon i).length cap, .nilIface]) ∧ w'.ownsRow W.heap.size 5 1 (.slice ad (EP.icon i).length cap) (EP.icon i).length (vals (EP.icon i))) ∧ Below W.heap.size W w') := fun W hb => bytes_ok A i W (HE.out.below (chain B3.out hb)) (hok.below hb) hgood.cols hgood.chk
       obtain ⟨qX, hqX⟩ : ∃ X, EP.icon i = X := ⟨_, rfl⟩
       have qHX := hid' hqX
       rw [hqX] at qKB
       obtain ⟨qc, qd, hvc, -, -⟩ := Many.len hok.1
       obtain ⟨qm, qe, hvm, -, -⟩ := Many.len hok.2.1
       obtain ⟨q0, q1, q2, vc, qcols, vm, qcmds⟩ := i
       replace hvc : vc = .slice qc qcols.length qd := hvc
       replace hvm : vm = .slice qm qcmds.length qe := hvm
       generalize qcols.length = qn at hvc
       generalize qcmds.length = qk at hvm
       subst hvc
       subst hvm
       simp only [IC.Icon.cells] at qKB ⊢
       obtain ⟨t, ht⟩ : ∃ t, sIcon ⟨p0, p1, p2, .slice pc pn pd, pcols, .slice pm pk pe, pcmds⟩ ⟨q0, q1, q2, .slice qc qn qd, qcols, .slice qm qk qe, qcmds⟩ = t := ⟨_, rfl⟩
       have HT := hid' ht
       have KS : Hid (∀ W, Below w3.heap.size w3 W → Calls Tryd.prog 20 #[.agg #[.int .i64 p0, .int .i64 p1, .int .i64 p2, .slice pc pn pd, .slice pm pk pe], .agg #[.int .i64 q0, .int .i64 q1, .int .i64 q2, .slice qc qn qd, .slice qm qk qe]] W fun e w' => e = .returned (.bool t) ∧ Below W.heap.size W w') := fun W hb => by
         have h := same_icon ⟨p0, p1, p2, .slice pc pn pd, pcols, .slice pm pk pe, pcmds⟩ ⟨q0, q1, q2, .slice qc qn qd, qcols, .slice qm qk qe, qcmds⟩ W (pOK3.out.below hb) (qOK.out.below hb) (icon_chk pG.out.chk) (icon_chk qG.out.chk)
         rw [ht] at h
         exact h
       have hlp := icon_length (icon_chk pG.out.chk)
       have hlq := icon_length (icon_chk qG.out.chk)
       rw [hpX] at hlp
       rw [hqX] at hlq
       have HU := hid' (unlike_is pG.out qG.out pX qX pHX.out qHX.out)
       rw [ht] at HU
       clear hpX hqX ht
       obtain ⟨x0, x1, x2, x3, x4⟩ := five_cells HX3.out
       have zx := HX3.out.lt
       clear hb3 hb3' hok hgood)
    | (go_at_call 10; refine (ki.out _ B1.out).mono ?_; rintro e w2 ⟨⟨i, rfl, hgood, hok⟩, hb2⟩
       have B2 : Hid (Below w.heap.size w w2) := chain B1.out hb2
       have pG := hid' hgood
       have pOK := hid' hok
       have pKB : Hid (∀ W, Below w2.heap.size w2 W → Calls Tryd.prog 12 #[.agg i.cells.toArray] W fun e w' => (∃ ad cap, e = .returned (.tuple #[.slice ad (EP.icon i).length cap, .nilIface]) ∧ w'.ownsRow W.heap.size 5 1 (.slice ad (EP.icon i).length cap) (EP.icon i).length (vals (EP.icon i))) ∧ Below W.heap.size W w') := fun W hb => bytes_ok A i W (HE.out.below (chain B2.out hb)) (hok.below hb) hgood.cols hgood.chk
       obtain ⟨pX, hpX⟩ : ∃ X, EP.icon i = X := ⟨_, rfl⟩
       have pHX := hid' hpX
       rw [hpX] at pKB
       obtain ⟨pc, pd, hvc, -, -⟩ := Many.len hok.1
       obtain ⟨pm, pe, hvm, -, -⟩ := Many.len hok.2.1
       obtain ⟨p0, p1, p2, vc, pcols, vm, pcmds⟩ := i
       replace hvc : vc = .slice pc pcols.length pd := hvc
       replace hvm : vm = .slice pm pcmds.length pe := hvm
       generalize pcols.length = pn at hvc
       generalize pcmds.length = pk at hvm
       subst hvc
       subst hvm
       simp only [IC.Icon.cells] at pKB ⊢
       clear hb2 hok hgood)
    | (go_at_call 12; (with_reducible refine (qKB.out _ H34.out).mono ?_); rintro e w5 ⟨⟨ad5, cap5, rfl, hown5⟩, hb5⟩
       have H35 := hid' (chain H34.out hb5)
       have HO5 := hid' hown5
       have HO4' := hid' (own_below HO4.out hb5)
       obtain ⟨c0, c1, c2, c3, c4⟩ := five_cells (HP4.out.below hb5 HP4.out.lt)
       obtain ⟨e0, e1, e2, e3, e4⟩ := five_cells (HQ4.out.below hb5 HQ4.out.lt)
       clear hown5 hb5)
    | (go_at_call 12; (with_reducible refine (pKB.out _ (HB23.out.alloc HB23.out.size _)).mono ?_); rintro e w4 ⟨⟨ad4, cap4, rfl, hown4⟩, hb4⟩
       have H34 : Hid (Below w3.heap.size w3 w4) := ((Below.refl _ _).alloc (Nat.le_refl _) _).trans (hb4.mono (by simp))
       have HO4 := hid' hown4
       have HP4 := hid' ((HX3.out.alloc _).below hb4 (by simp; omega))
       have HQ4 := hid' ((blk_new w3 30 #[.int .i64 q0, .int .i64 q1, .int .i64 q2, .slice qc qn qd, .slice qm qk qe]).below hb4 (by simp))
       obtain ⟨y0, y1, y2, y3, y4⟩ := five_cells HP4.out
       obtain ⟨z0, z1, z2, z3, z4⟩ := five_cells HQ4.out
       clear hown4 hb4)
    | (go_at_call 20; refine (KS.out _ H35.out).mono ?_; rintro e w6 ⟨rfl, hb6⟩
       have H36 := hid' (chain H35.out hb6)
       have HO5' := hid' (own_below HO5.out hb6)
       have HO4'' := hid' (own_below HO4'.out hb6)
       clear hb6))
  have hp0 : 0 < pX.length := by rw [← pHX.out]; unfold EP.icon; simp
  have hq0 : 0 < qX.length := by rw [← qHX.out]; unfold EP.icon; simp
  obtain ⟨g4, rfl, hg4, hm4, hz4⟩ := own_at HO4''.out hp0
  obtain ⟨g5, rfl, hg5, hm5, hz5⟩ := own_at HO5'.out hq0
  unfold maxLen at hm4 hm5
  obtain ⟨NM, hNM⟩ : ∃ NM, min pX.length qX.length = NM := ⟨_, rfl⟩
  have hmin : (if qX.length < pX.length then (qX.length : Int) else (pX.length : Int)) = (NM : Int) := by rw [← hNM]; split <;> omega
  have hNp : NM ≤ pX.length := by omega
  have hNq : NM ≤ qX.length := by omega
  have hs1 : ∀ W, (Instr.slice 33 (.slice (some ⟨g4, 0, none⟩) pX.length cap4) none (some (.int .i64 (NM : Int))) none).run Tryd.prog W = .ok (.slice (some ⟨g4, 0, none⟩) NM cap4) W := fun W => slice_bytes _ _ cap4 NM (by omega) W
  have hs2 : ∀ W, (Instr.slice 33 (.slice (some ⟨g5, 0, none⟩) qX.length cap5) none (some (.int .i64 (NM : Int))) none).run Tryd.prog W = .ok (.slice (some ⟨g5, 0, none⟩) NM cap5) W := fun W => slice_bytes _ _ cap5 NM (by omega) W
  have KB : Hid (∀ W, Below w6.heap.size w6 W → Calls Tryd.prog 18 #[.slice (some ⟨g4, 0, none⟩) NM cap4, .slice (some ⟨g5, 0, none⟩) NM cap5] W fun e w' => e = .returned (.bool (decide (pX.take NM = qX.take NM))) ∧ Below W.heap.size W w') := fun W hb => by
    have h := samebytes_any (some ⟨g4, 0, none⟩) (some ⟨g5, 0, none⟩) cap4 cap5 (pX.take NM) (qX.take NM) W (cells_take (cells_own4 (own_below HO4''.out hb)) NM) (cells_take (cells_own4 (own_below HO5'.out hb)) NM) (by rw [List.length_take]; omega) (by rw [List.length_take]; omega)
    have e1 : (pX.take NM).length = NM := by rw [List.length_take]; omega
    have e2 : (qX.take NM).length = NM := by rw [List.length_take]; omega
    rw [e1, e2] at h
    exact h
  rw [hNM] at HU
  rw [hmin]
  have hne := Grown.some w6
  have B6 : Hid (Below w.heap.size w w6) := chain B3.out H36.out
  clear hmin hNM HO4 HO5 HO4' HO4'' HO5' HP4 HQ4 KS H34 H35 H36 pKB qKB ki ki' kf HX3 pOK pOK3 qOK pHX qHX HT x0 x1 x2 x3 x4 y0 y1 y2 y3 y4 z0 z1 z2 z3 z4 c0 c1 c2 c3 c4 e0 e1 e2 e3 e4
  cases t
  · have e : decide (pX.take NM = qX.take NM) = false := decide_eq_false (HU.out.2 rfl)
    rw [e] at KB
    clear HU e
    refine wp_region_grow (by kernel_rfl) (by kernel_rfl) ?_
    repeat (go_big_quiet_step ((go_at_call 18; exact grow_of (KB.out _ (Grown.below _)))))
    refine wpQuiet_nil ?_
    rintro _ ⟨G, rfl⟩
    go_wp2
    go_ret
    exact ⟨rfl, chain B6.out G.below⟩
  · obtain rfl := HU.out.1 rfl
    have e : decide (pX.take NM = pX.take NM) = true := by simp
    rw [e] at KB
    clear HU e
    refine wp_region_grow (by kernel_rfl) (by kernel_rfl) ?_
    repeat (go_big_quiet_step ((go_at_call 18; exact grow_of (KB.out _ (Grown.below _)))))
    refine wpQuiet_nil ?_
    rintro _ ⟨G, rfl⟩
    go_wp2
    go_ret
    exact ⟨ret_bool (by simp), chain B6.out G.below⟩

end Go.Proofs.YtofmbedjbnbjlaaDoor

/-
  Whether two paths, paints, commands, icons are the same: walked over the program.
-/
import Derived.Test.YtofmbedjbnbjlaaDoorEncSame
namespace Go.Proofs.YtofmbedjbnbjlaaDoor
open Go.RowKit

def PathOkL (w : World) (p : IC.Path) : Prop := PathOk w p ∧ p.segs.length ≤ 1000000
def CmdOkL (w : World) (c : IC.Cmd) : Prop := CmdOk w c ∧ c.paths.length ≤ 1000000 ∧ ∀ p ∈ c.paths, p.segs.length ≤ 1000000
theorem PathOkL.below {w w' : World} {p : IC.Path} (h : PathOkL w p) (hb : Below w.heap.size w w') : PathOkL w' p := ⟨h.1.below hb, h.2⟩
theorem CmdOkL.below {w w' : World} {c : IC.Cmd} (h : CmdOkL w c) (hb : Below w.heap.size w w') : CmdOkL w' c := ⟨h.1.below hb, h.2⟩

set_option maxRecDepth 20000 in
set_option maxHeartbeats 1000000 in
theorem same_path (x y : IC.Path) (w : World) (hx : PathOkL w x) (hy : PathOkL w y) :
    Calls Tryd.prog 97 #[.agg x.cells.toArray, .agg y.cells.toArray] w fun e w' => e = .returned (.bool (sPath x y)) ∧ Below w.heap.size w w' := by
  obtain ⟨⟨xa, xb⟩, xv, xs, xl⟩ := x
  obtain ⟨⟨ya, yb⟩, yv, ys, yl⟩ := y
  have k1 := hid' (pt_same xa xb ya yb)
  have k2 : Hid (∀ W, Below w.heap.size w W → Calls Tryd.prog 101 #[xv, yv] W fun e w' => e = .returned (.bool (sFrom sSeg xs ys)) ∧ Below W.heap.size W w') := fun W hb => same_segs xv yv xs ys W (Row.below hx.1 hb) (Row.below hy.1 hb) hx.2 hy.2
  unfold sPath
  simp only
  generalize IC.samePt ⟨xa, xb⟩ ⟨ya, yb⟩ = t1 at k1 ⊢
  generalize sFrom sSeg xs ys = t2 at k2 ⊢
  obtain ⟨xva, xvc, hxv, -, -⟩ := Many.len hx.1
  replace hxv : xv = .slice xva xs.length xvc := hxv
  generalize xs.length = xn at hxv
  subst hxv
  obtain ⟨yva, yvc, hyv, -, -⟩ := Many.len hy.1
  replace hyv : yv = .slice yva ys.length yvc := hyv
  generalize ys.length = yn at hyv
  subst hyv
  clear hx hy
  simp only [IC.Path.cells]
  go_enter Tryd.func97, Tryd.ntmps97
  cases t1
  · go_wp2_with (first
      | (go_at_call 101; (with_reducible refine (k2.out _ (two_fin H1.out)).mono ?_); rintro e w2 ⟨rfl, hb2⟩
         have H2 := hid' (H1.out.trans (hb2.mono H1.out.size))
         obtain ⟨p2, q2, -⟩ := boxes2 H2.out
         obtain ⟨z2, y2⟩ := sizes2 H2.out
         clear hb2)
      | (go_at_call 30; (with_reducible refine (k1.out _).mono ?_); rintro e w1 ⟨rfl, hb1⟩
         have H1 := hid' hb1
         obtain ⟨p1, q1, -⟩ := boxes2 hb1
         obtain ⟨z1, y1⟩ := sizes2 hb1
         clear hb1))
    go_ret
    exact ⟨ret_bool (by simp), by first | exact two_fin H2.out | exact two_fin H1.out | exact two_none _ _ _⟩
  · cases h0 : (xl == yl)
    · go_wp2_with (first
        | (go_at_call 101; (with_reducible refine (k2.out _ (two_fin H1.out)).mono ?_); rintro e w2 ⟨rfl, hb2⟩
           have H2 := hid' (H1.out.trans (hb2.mono H1.out.size))
           obtain ⟨p2, q2, -⟩ := boxes2 H2.out
           obtain ⟨z2, y2⟩ := sizes2 H2.out
           clear hb2)
        | (go_at_call 30; (with_reducible refine (k1.out _).mono ?_); rintro e w1 ⟨rfl, hb1⟩
           have H1 := hid' hb1
           obtain ⟨p1, q1, -⟩ := boxes2 hb1
           obtain ⟨z1, y1⟩ := sizes2 hb1
           clear hb1))
      go_ret
      exact ⟨ret_bool (by simp), by first | exact two_fin H2.out | exact two_fin H1.out | exact two_none _ _ _⟩
    · go_wp2_with (first
        | (go_at_call 101; (with_reducible refine (k2.out _ (two_fin H1.out)).mono ?_); rintro e w2 ⟨rfl, hb2⟩
           have H2 := hid' (H1.out.trans (hb2.mono H1.out.size))
           obtain ⟨p2, q2, -⟩ := boxes2 H2.out
           obtain ⟨z2, y2⟩ := sizes2 H2.out
           clear hb2)
        | (go_at_call 30; (with_reducible refine (k1.out _).mono ?_); rintro e w1 ⟨rfl, hb1⟩
           have H1 := hid' hb1
           obtain ⟨p1, q1, -⟩ := boxes2 hb1
           obtain ⟨z1, y1⟩ := sizes2 hb1
           clear hb1))
      go_ret
      exact ⟨ret_bool (by simp), by first | exact two_fin H2.out | exact two_fin H1.out | exact two_none _ _ _⟩

set_option maxRecDepth 20000 in
set_option maxHeartbeats 1000000 in
theorem same_paths (v v' : Value) (l m : List IC.Path) (w : World) (h1 : Many w 51 4 IC.Path.cells v l) (h2 : Many w 51 4 IC.Path.cells v' m) (ok1 : ∀ x ∈ l, PathOkL w x) (ok2 : ∀ x ∈ m, PathOkL w x) (hn : l.length ≤ 1000000) (hn' : m.length ≤ 1000000) :
    Calls Tryd.prog 83 #[v, v'] w fun e w' => e = .returned (.bool (sFrom sPath l m)) ∧ Below w.heap.size w w' := by
  obtain ⟨ad, cap, hv, hl1, hl2⟩ := h1.len
  obtain ⟨ad', cap', hv', hl1', hl2'⟩ := h2.len
  unfold maxLen at hl2 hl2'
  obtain ⟨L, hL⟩ : ∃ L, l.length = L := ⟨_, rfl⟩
  obtain ⟨M, hM⟩ : ∃ M, m.length = M := ⟨_, rfl⟩
  have HL : Hid (l.length = L) := hL
  have HM : Hid (m.length = M) := hM
  rw [hL] at hv hl1 hn
  rw [hM] at hv' hl1' hn'
  subst hv
  subst hv'
  have H1 := hid' h1
  have H2 := hid' h2
  have K1 := hid' ok1
  have K2 := hid' ok2
  clear ok1 ok2
  by_cases hLM : L = M
  · subst hLM
    obtain ⟨R, hR⟩ : ∃ R, sFrom sPath l m = R := ⟨_, rfl⟩
    rw [hR]
    clear h1 h2 hL hM
    go_enter Tryd.func83, Tryd.ntmps83
    go_wp2
    go_loopw [5] (fun i wr => ∃ k : Nat, k ≤ L ∧ i = .int .i64 k ∧ Hid (sFrom sPath (l.drop k) (m.drop k) = R) ∧ Hid (Below w.heap.size w wr)) (fun i _ => L - (intOf i).toNat)
    case atStart => exact ⟨0, by omega, rfl, hR, Below.refl _ _⟩
    case round =>
      obtain ⟨k, hk, rfl, HR, HB⟩ := hrel
      by_cases hkL : k < L
      · have hks : k < l.length := by rw [HL.out]; exact hkL
        have hks' : k < m.length := by rw [HM.out]; exact hkL
        obtain ⟨g, o, cap2, hv, hg, -, -, hc⟩ := H1.out.at path_len k hks
        obtain ⟨rfl, -⟩ : ad = some ⟨g, o, none⟩ ∧ _ := by simpa using hv
        obtain ⟨g', o', cap2', hv', hg', -, -, hc'⟩ := H2.out.at path_len k hks'
        obtain ⟨rfl, -⟩ : ad' = some ⟨g', o', none⟩ ∧ _ := by simpa using hv'
        clear hv hv'
        have hgr : g < wr.heap.size := Nat.lt_of_lt_of_le hg HB.out.size
        have hgr' : g' < wr.heap.size := Nat.lt_of_lt_of_le hg' HB.out.size
        have q1 := K1.out l[k] (List.getElem_mem hks)
        have q2 := K2.out m[k] (List.getElem_mem hks')
        have hA := HR.out
        rw [sFrom_at sPath l m k hks hks'] at hA
        obtain ⟨x, hx⟩ : ∃ x, l[k] = x := ⟨_, rfl⟩
        obtain ⟨y, hy⟩ : ∃ y, m[k] = y := ⟨_, rfl⟩
        rw [hx] at hc hA q1
        rw [hy] at hc' hA q2
        obtain ⟨⟨xa, xb⟩, xv, xs, xl⟩ := x
        obtain ⟨⟨ya, yb⟩, yv, ys, yl⟩ := y
        obtain ⟨xva, xvc, hxv, -, -⟩ := Many.len q1.1
        replace hxv : xv = .slice xva xs.length xvc := hxv
        generalize xs.length = xn at hxv
        subst hxv
        obtain ⟨yva, yvc, hyv, -, -⟩ := Many.len q2.1
        replace hyv : yv = .slice yva ys.length yvc := hyv
        generalize ys.length = yn at hyv
        subst hyv
        have ke0 : ∀ W, Below w.heap.size w W → _ := fun W hbw => same_path ⟨⟨xa, xb⟩, .slice xva xn xvc, xs, xl⟩ ⟨⟨ya, yb⟩, .slice yva yn yvc, ys, yl⟩ W (q1.below hbw) (q2.below hbw)
        obtain ⟨t, ht⟩ : ∃ t, sPath ⟨⟨xa, xb⟩, .slice xva xn xvc, xs, xl⟩ ⟨⟨ya, yb⟩, .slice yva yn yvc, ys, yl⟩ = t := ⟨_, rfl⟩
        rw [ht] at hA ke0
        have ke : Hid (∀ W, Below w.heap.size w W → Calls Tryd.prog 97 #[.agg #[.int .i64 xa, .int .i64 xb, .slice xva xn xvc, .bool xl], .agg #[.int .i64 ya, .int .i64 yb, .slice yva yn yvc, .bool yl]] W fun e w' => e = .returned (.bool t) ∧ Below W.heap.size W w') := ke0
        have c0 := Grown.cell (w := wr) hgr ((HB.out.cell (p := ⟨g, o + k * 4, none⟩) hg).trans (hc 0 _ rfl))
        have d0 := Grown.cell (w := wr) hgr' ((HB.out.cell (p := ⟨g', o' + k * 4, none⟩) hg').trans (hc' 0 _ rfl))
        have c1 := Grown.cell (w := wr) hgr ((HB.out.cell (p := ⟨g, o + k * 4 + 1, none⟩) hg).trans (hc 1 _ rfl))
        have d1 := Grown.cell (w := wr) hgr' ((HB.out.cell (p := ⟨g', o' + k * 4 + 1, none⟩) hg').trans (hc' 1 _ rfl))
        have c2 := Grown.cell (w := wr) hgr ((HB.out.cell (p := ⟨g, o + k * 4 + 2, none⟩) hg).trans (hc 2 _ rfl))
        have d2 := Grown.cell (w := wr) hgr' ((HB.out.cell (p := ⟨g', o' + k * 4 + 2, none⟩) hg').trans (hc' 2 _ rfl))
        have c3 := Grown.cell (w := wr) hgr ((HB.out.cell (p := ⟨g, o + k * 4 + 3, none⟩) hg).trans (hc 3 _ rfl))
        have d3 := Grown.cell (w := wr) hgr' ((HB.out.cell (p := ⟨g', o' + k * 4 + 3, none⟩) hg').trans (hc' 3 _ rfl))
        have hne := Grown.some wr
        have hki : (k : Int) < (L : Int) := by omega
        clear hc hc' hx hy ht ke0 HR q1 q2
        cases t
        · have HF : Hid (R = false) := by rw [← hA]; exact (Bool.false_and _)
          clear hA
          go_wp2
          refine wp_region_grow (by kernel_rfl) (by kernel_rfl) ?_
          repeat (go_big_quiet_step ((go_at_call 97; exact grow_of (ke.out _ (chain HB.out (Grown.below _))))))
          refine wpQuiet_nil ?_
          rintro _ ⟨G, rfl⟩
          go_wp2
          go_ret
          exact ⟨ret_bool HF.out.symm, chain HB.out G.below⟩
        · have HF : Hid (sFrom sPath (l.drop (k + 1)) (m.drop (k + 1)) = R) := by rw [← hA]; exact (Bool.true_and _).symm
          clear hA
          go_wp2
          refine wp_region_grow (by kernel_rfl) (by kernel_rfl) ?_
          repeat (go_big_quiet_step ((go_at_call 97; exact grow_of (ke.out _ (chain HB.out (Grown.below _))))))
          refine wpQuiet_nil ?_
          rintro _ ⟨G, rfl⟩
          go_wp2
          go_roundw
          case rel => exact ⟨k + 1, by omega, by go_num, HF, chain HB.out G.below⟩
          case measure => simp [intOf]; omega
      · obtain rfl : k = L := by omega
        have HF : Hid (R = true) := by have h := HR.out; rw [List.drop_of_length_le (by rw [HL.out]; omega), List.drop_of_length_le (by rw [HM.out]; omega)] at h; exact h.symm
        go_wp2
        go_ret
        exact ⟨ret_bool HF.out.symm, HB.out⟩
  · have hLMi : ((L : Int) == (M : Int)) = false := by simp; omega
    have HF : Hid (sFrom sPath l m = false) := sFrom_len _ _ _ (by rw [hL, hM]; exact hLM)
    clear h1 h2 hL hM
    go_enter Tryd.func83, Tryd.ntmps83
    go_wp2
    go_ret
    exact ⟨ret_bool HF.out.symm, Below.refl _ _⟩

set_option maxRecDepth 20000 in
set_option maxHeartbeats 1000000 in
theorem same_paint (x y : IC.Paint) (w : World) :
    Calls Tryd.prog 82 #[.agg x.cells.toArray, .agg y.cells.toArray] w fun e w' => e = .returned (.bool (sPaint x y)) ∧ Below w.heap.size w w' := by
  obtain ⟨xk, xa, xb, ⟨xc, xd⟩, ⟨xe, xf⟩⟩ := x
  obtain ⟨yk, ya, yb, ⟨yc, yd⟩, ⟨ye, yf⟩⟩ := y
  have k1 := hid' (pt_same xc xd yc yd)
  have k2 := hid' (pt_same xe xf ye yf)
  unfold sPaint
  simp only
  generalize IC.samePt ⟨xc, xd⟩ ⟨yc, yd⟩ = t1 at k1 ⊢
  generalize IC.samePt ⟨xe, xf⟩ ⟨ye, yf⟩ = t2 at k2 ⊢
  simp only [IC.Paint.cells]
  go_enter Tryd.func82, Tryd.ntmps82
  cases h0 : (xk == yk)
  · go_wp2_with (first
      | (go_at_call 30; (with_reducible refine (k2.out _).mono ?_); rintro e w2 ⟨rfl, hb2⟩
         have H2 := hid' (H1.out.trans (hb2.mono H1.out.size))
         obtain ⟨p2, q2, -⟩ := boxes2 H2.out
         obtain ⟨z2, y2⟩ := sizes2 H2.out
         clear hb2)
      | (go_at_call 30; (with_reducible refine (k1.out _).mono ?_); rintro e w1 ⟨rfl, hb1⟩
         have H1 := hid' hb1
         obtain ⟨p1, q1, -⟩ := boxes2 hb1
         obtain ⟨z1, y1⟩ := sizes2 hb1
         clear hb1))
    go_ret
    exact ⟨ret_bool (by simp), by first | exact two_fin H2.out | exact two_fin H1.out | exact two_none _ _ _⟩
  · cases h1 : (xa == ya)
    · go_wp2_with (first
        | (go_at_call 30; (with_reducible refine (k2.out _).mono ?_); rintro e w2 ⟨rfl, hb2⟩
           have H2 := hid' (H1.out.trans (hb2.mono H1.out.size))
           obtain ⟨p2, q2, -⟩ := boxes2 H2.out
           obtain ⟨z2, y2⟩ := sizes2 H2.out
           clear hb2)
        | (go_at_call 30; (with_reducible refine (k1.out _).mono ?_); rintro e w1 ⟨rfl, hb1⟩
           have H1 := hid' hb1
           obtain ⟨p1, q1, -⟩ := boxes2 hb1
           obtain ⟨z1, y1⟩ := sizes2 hb1
           clear hb1))
      go_ret
      exact ⟨ret_bool (by simp), by first | exact two_fin H2.out | exact two_fin H1.out | exact two_none _ _ _⟩
    · cases h2 : (xb == yb)
      · go_wp2_with (first
          | (go_at_call 30; (with_reducible refine (k2.out _).mono ?_); rintro e w2 ⟨rfl, hb2⟩
             have H2 := hid' (H1.out.trans (hb2.mono H1.out.size))
             obtain ⟨p2, q2, -⟩ := boxes2 H2.out
             obtain ⟨z2, y2⟩ := sizes2 H2.out
             clear hb2)
          | (go_at_call 30; (with_reducible refine (k1.out _).mono ?_); rintro e w1 ⟨rfl, hb1⟩
             have H1 := hid' hb1
             obtain ⟨p1, q1, -⟩ := boxes2 hb1
             obtain ⟨z1, y1⟩ := sizes2 hb1
             clear hb1))
        go_ret
        exact ⟨ret_bool (by simp), by first | exact two_fin H2.out | exact two_fin H1.out | exact two_none _ _ _⟩
      · cases t1
        · go_wp2_with (first
            | (go_at_call 30; (with_reducible refine (k2.out _).mono ?_); rintro e w2 ⟨rfl, hb2⟩
               have H2 := hid' (H1.out.trans (hb2.mono H1.out.size))
               obtain ⟨p2, q2, -⟩ := boxes2 H2.out
               obtain ⟨z2, y2⟩ := sizes2 H2.out
               clear hb2)
            | (go_at_call 30; (with_reducible refine (k1.out _).mono ?_); rintro e w1 ⟨rfl, hb1⟩
               have H1 := hid' hb1
               obtain ⟨p1, q1, -⟩ := boxes2 hb1
               obtain ⟨z1, y1⟩ := sizes2 hb1
               clear hb1))
          go_ret
          exact ⟨ret_bool (by simp), by first | exact two_fin H2.out | exact two_fin H1.out | exact two_none _ _ _⟩
        · go_wp2_with (first
            | (go_at_call 30; (with_reducible refine (k2.out _).mono ?_); rintro e w2 ⟨rfl, hb2⟩
               have H2 := hid' (H1.out.trans (hb2.mono H1.out.size))
               obtain ⟨p2, q2, -⟩ := boxes2 H2.out
               obtain ⟨z2, y2⟩ := sizes2 H2.out
               clear hb2)
            | (go_at_call 30; (with_reducible refine (k1.out _).mono ?_); rintro e w1 ⟨rfl, hb1⟩
               have H1 := hid' hb1
               obtain ⟨p1, q1, -⟩ := boxes2 hb1
               obtain ⟨z1, y1⟩ := sizes2 hb1
               clear hb1))
          go_ret
          exact ⟨ret_bool (by simp), by first | exact two_fin H2.out | exact two_fin H1.out | exact two_none _ _ _⟩

set_option maxRecDepth 20000 in
set_option maxHeartbeats 1000000 in
theorem same_cmd (x y : IC.Cmd) (w : World) (hx : CmdOkL w x) (hy : CmdOkL w y) :
    Calls Tryd.prog 66 #[.agg x.cells.toArray, .agg y.cells.toArray] w fun e w' => e = .returned (.bool (sCmd x y)) ∧ Below w.heap.size w w' := by
  obtain ⟨xk, xr, xw, ⟨xp, xa, xb, ⟨xc, xd⟩, ⟨xe, xf⟩⟩, xv, xs⟩ := x
  obtain ⟨yk, yr, yw, ⟨yp, ya, yb, ⟨yc, yd⟩, ⟨ye, yf⟩⟩, yv, ys⟩ := y
  have k1 : Hid (∀ W, Calls Tryd.prog 82 #[.agg #[.int .i64 xp, .int .i64 xa, .int .i64 xb, .int .i64 xc, .int .i64 xd, .int .i64 xe, .int .i64 xf], .agg #[.int .i64 yp, .int .i64 ya, .int .i64 yb, .int .i64 yc, .int .i64 yd, .int .i64 ye, .int .i64 yf]] W fun e w' => e = .returned (.bool (sPaint ⟨xp, xa, xb, ⟨xc, xd⟩, ⟨xe, xf⟩⟩ ⟨yp, ya, yb, ⟨yc, yd⟩, ⟨ye, yf⟩⟩)) ∧ Below W.heap.size W w') := fun W => same_paint ⟨xp, xa, xb, ⟨xc, xd⟩, ⟨xe, xf⟩⟩ ⟨yp, ya, yb, ⟨yc, yd⟩, ⟨ye, yf⟩⟩ W
  have k2 : Hid (∀ W, Below w.heap.size w W → Calls Tryd.prog 83 #[xv, yv] W fun e w' => e = .returned (.bool (sFrom sPath xs ys)) ∧ Below W.heap.size W w') := fun W hb => same_paths xv yv xs ys W (Row.below hx.1.1 hb) (Row.below hy.1.1 hb) (fun p hp => ⟨(hx.1.2 p hp).below hb, hx.2.2 p hp⟩) (fun p hp => ⟨(hy.1.2 p hp).below hb, hy.2.2 p hp⟩) hx.2.1 hy.2.1
  unfold sCmd
  simp only
  generalize sPaint ⟨xp, xa, xb, ⟨xc, xd⟩, ⟨xe, xf⟩⟩ ⟨yp, ya, yb, ⟨yc, yd⟩, ⟨ye, yf⟩⟩ = t1 at k1 ⊢
  generalize sFrom sPath xs ys = t2 at k2 ⊢
  obtain ⟨xva, xvc, hxv, -, -⟩ := Many.len hx.1.1
  replace hxv : xv = .slice xva xs.length xvc := hxv
  generalize xs.length = xn at hxv
  subst hxv
  obtain ⟨yva, yvc, hyv, -, -⟩ := Many.len hy.1.1
  replace hyv : yv = .slice yva ys.length yvc := hyv
  generalize ys.length = yn at hyv
  subst hyv
  clear hx hy
  simp only [IC.Cmd.cells]
  go_enter Tryd.func66, Tryd.ntmps66
  cases h0 : (xk == yk)
  · go_wp2_with (first
      | (go_at_call 83; (with_reducible refine (k2.out _ (two_fin H1.out)).mono ?_); rintro e w2 ⟨rfl, hb2⟩
         have H2 := hid' (H1.out.trans (hb2.mono H1.out.size))
         obtain ⟨p2, q2, -⟩ := boxes2 H2.out
         obtain ⟨z2, y2⟩ := sizes2 H2.out
         clear hb2)
      | (go_at_call 82; (with_reducible refine (k1.out _).mono ?_); rintro e w1 ⟨rfl, hb1⟩
         have H1 := hid' hb1
         obtain ⟨p1, q1, -⟩ := boxes2 hb1
         obtain ⟨z1, y1⟩ := sizes2 hb1
         clear hb1))
    go_ret
    exact ⟨ret_bool (by simp), by first | exact two_fin H2.out | exact two_fin H1.out | exact two_none _ _ _⟩
  · cases h1 : (xr == yr)
    · go_wp2_with (first
        | (go_at_call 83; (with_reducible refine (k2.out _ (two_fin H1.out)).mono ?_); rintro e w2 ⟨rfl, hb2⟩
           have H2 := hid' (H1.out.trans (hb2.mono H1.out.size))
           obtain ⟨p2, q2, -⟩ := boxes2 H2.out
           obtain ⟨z2, y2⟩ := sizes2 H2.out
           clear hb2)
        | (go_at_call 82; (with_reducible refine (k1.out _).mono ?_); rintro e w1 ⟨rfl, hb1⟩
           have H1 := hid' hb1
           obtain ⟨p1, q1, -⟩ := boxes2 hb1
           obtain ⟨z1, y1⟩ := sizes2 hb1
           clear hb1))
      go_ret
      exact ⟨ret_bool (by simp), by first | exact two_fin H2.out | exact two_fin H1.out | exact two_none _ _ _⟩
    · cases h2 : (xw == yw)
      · go_wp2_with (first
          | (go_at_call 83; (with_reducible refine (k2.out _ (two_fin H1.out)).mono ?_); rintro e w2 ⟨rfl, hb2⟩
             have H2 := hid' (H1.out.trans (hb2.mono H1.out.size))
             obtain ⟨p2, q2, -⟩ := boxes2 H2.out
             obtain ⟨z2, y2⟩ := sizes2 H2.out
             clear hb2)
          | (go_at_call 82; (with_reducible refine (k1.out _).mono ?_); rintro e w1 ⟨rfl, hb1⟩
             have H1 := hid' hb1
             obtain ⟨p1, q1, -⟩ := boxes2 hb1
             obtain ⟨z1, y1⟩ := sizes2 hb1
             clear hb1))
        go_ret
        exact ⟨ret_bool (by simp), by first | exact two_fin H2.out | exact two_fin H1.out | exact two_none _ _ _⟩
      · cases t1
        · go_wp2_with (first
            | (go_at_call 83; (with_reducible refine (k2.out _ (two_fin H1.out)).mono ?_); rintro e w2 ⟨rfl, hb2⟩
               have H2 := hid' (H1.out.trans (hb2.mono H1.out.size))
               obtain ⟨p2, q2, -⟩ := boxes2 H2.out
               obtain ⟨z2, y2⟩ := sizes2 H2.out
               clear hb2)
            | (go_at_call 82; (with_reducible refine (k1.out _).mono ?_); rintro e w1 ⟨rfl, hb1⟩
               have H1 := hid' hb1
               obtain ⟨p1, q1, -⟩ := boxes2 hb1
               obtain ⟨z1, y1⟩ := sizes2 hb1
               clear hb1))
          go_ret
          exact ⟨ret_bool (by simp), by first | exact two_fin H2.out | exact two_fin H1.out | exact two_none _ _ _⟩
        · go_wp2_with (first
            | (go_at_call 83; (with_reducible refine (k2.out _ (two_fin H1.out)).mono ?_); rintro e w2 ⟨rfl, hb2⟩
               have H2 := hid' (H1.out.trans (hb2.mono H1.out.size))
               obtain ⟨p2, q2, -⟩ := boxes2 H2.out
               obtain ⟨z2, y2⟩ := sizes2 H2.out
               clear hb2)
            | (go_at_call 82; (with_reducible refine (k1.out _).mono ?_); rintro e w1 ⟨rfl, hb1⟩
               have H1 := hid' hb1
               obtain ⟨p1, q1, -⟩ := boxes2 hb1
               obtain ⟨z1, y1⟩ := sizes2 hb1
               clear hb1))
          go_ret
          exact ⟨ret_bool (by simp), by first | exact two_fin H2.out | exact two_fin H1.out | exact two_none _ _ _⟩

set_option maxRecDepth 20000 in
set_option maxHeartbeats 1000000 in
theorem same_cmds (v v' : Value) (l m : List IC.Cmd) (w : World) (h1 : Many w 45 11 IC.Cmd.cells v l) (h2 : Many w 45 11 IC.Cmd.cells v' m) (ok1 : ∀ x ∈ l, CmdOkL w x) (ok2 : ∀ x ∈ m, CmdOkL w x) (hn : l.length ≤ 1000000) (hn' : m.length ≤ 1000000) :
    Calls Tryd.prog 45 #[v, v'] w fun e w' => e = .returned (.bool (sFrom sCmd l m)) ∧ Below w.heap.size w w' := by
  obtain ⟨ad, cap, hv, hl1, hl2⟩ := h1.len
  obtain ⟨ad', cap', hv', hl1', hl2'⟩ := h2.len
  unfold maxLen at hl2 hl2'
  obtain ⟨L, hL⟩ : ∃ L, l.length = L := ⟨_, rfl⟩
  obtain ⟨M, hM⟩ : ∃ M, m.length = M := ⟨_, rfl⟩
  have HL : Hid (l.length = L) := hL
  have HM : Hid (m.length = M) := hM
  rw [hL] at hv hl1 hn
  rw [hM] at hv' hl1' hn'
  subst hv
  subst hv'
  have H1 := hid' h1
  have H2 := hid' h2
  have K1 := hid' ok1
  have K2 := hid' ok2
  clear ok1 ok2
  by_cases hLM : L = M
  · subst hLM
    obtain ⟨R, hR⟩ : ∃ R, sFrom sCmd l m = R := ⟨_, rfl⟩
    rw [hR]
    clear h1 h2 hL hM
    go_enter Tryd.func45, Tryd.ntmps45
    go_wp2
    go_loopw [5] (fun i wr => ∃ k : Nat, k ≤ L ∧ i = .int .i64 k ∧ Hid (sFrom sCmd (l.drop k) (m.drop k) = R) ∧ Hid (Below w.heap.size w wr)) (fun i _ => L - (intOf i).toNat)
    case atStart => exact ⟨0, by omega, rfl, hR, Below.refl _ _⟩
    case round =>
      obtain ⟨k, hk, rfl, HR, HB⟩ := hrel
      by_cases hkL : k < L
      · have hks : k < l.length := by rw [HL.out]; exact hkL
        have hks' : k < m.length := by rw [HM.out]; exact hkL
        obtain ⟨g, o, cap2, hv, hg, -, -, hc⟩ := H1.out.at cmd_len k hks
        obtain ⟨rfl, -⟩ : ad = some ⟨g, o, none⟩ ∧ _ := by simpa using hv
        obtain ⟨g', o', cap2', hv', hg', -, -, hc'⟩ := H2.out.at cmd_len k hks'
        obtain ⟨rfl, -⟩ : ad' = some ⟨g', o', none⟩ ∧ _ := by simpa using hv'
        clear hv hv'
        have hgr : g < wr.heap.size := Nat.lt_of_lt_of_le hg HB.out.size
        have hgr' : g' < wr.heap.size := Nat.lt_of_lt_of_le hg' HB.out.size
        have q1 := K1.out l[k] (List.getElem_mem hks)
        have q2 := K2.out m[k] (List.getElem_mem hks')
        have hA := HR.out
        rw [sFrom_at sCmd l m k hks hks'] at hA
        obtain ⟨x, hx⟩ : ∃ x, l[k] = x := ⟨_, rfl⟩
        obtain ⟨y, hy⟩ : ∃ y, m[k] = y := ⟨_, rfl⟩
        rw [hx] at hc hA q1
        rw [hy] at hc' hA q2
        obtain ⟨xk, xr, xw, ⟨xp, xa, xb, ⟨xc, xd⟩, ⟨xe, xf⟩⟩, xv, xs⟩ := x
        obtain ⟨yk, yr, yw, ⟨yp, ya, yb, ⟨yc, yd⟩, ⟨ye, yf⟩⟩, yv, ys⟩ := y
        obtain ⟨xva, xvc, hxv, -, -⟩ := Many.len q1.1.1
        replace hxv : xv = .slice xva xs.length xvc := hxv
        generalize xs.length = xn at hxv
        subst hxv
        obtain ⟨yva, yvc, hyv, -, -⟩ := Many.len q2.1.1
        replace hyv : yv = .slice yva ys.length yvc := hyv
        generalize ys.length = yn at hyv
        subst hyv
        have ke0 : ∀ W, Below w.heap.size w W → _ := fun W hbw => same_cmd ⟨xk, xr, xw, ⟨xp, xa, xb, ⟨xc, xd⟩, ⟨xe, xf⟩⟩, .slice xva xn xvc, xs⟩ ⟨yk, yr, yw, ⟨yp, ya, yb, ⟨yc, yd⟩, ⟨ye, yf⟩⟩, .slice yva yn yvc, ys⟩ W (q1.below hbw) (q2.below hbw)
        obtain ⟨t, ht⟩ : ∃ t, sCmd ⟨xk, xr, xw, ⟨xp, xa, xb, ⟨xc, xd⟩, ⟨xe, xf⟩⟩, .slice xva xn xvc, xs⟩ ⟨yk, yr, yw, ⟨yp, ya, yb, ⟨yc, yd⟩, ⟨ye, yf⟩⟩, .slice yva yn yvc, ys⟩ = t := ⟨_, rfl⟩
        rw [ht] at hA ke0
        have ke : Hid (∀ W, Below w.heap.size w W → Calls Tryd.prog 66 #[.agg #[.int .i64 xk, .int .i64 xr, .int .i64 xw, .int .i64 xp, .int .i64 xa, .int .i64 xb, .int .i64 xc, .int .i64 xd, .int .i64 xe, .int .i64 xf, .slice xva xn xvc], .agg #[.int .i64 yk, .int .i64 yr, .int .i64 yw, .int .i64 yp, .int .i64 ya, .int .i64 yb, .int .i64 yc, .int .i64 yd, .int .i64 ye, .int .i64 yf, .slice yva yn yvc]] W fun e w' => e = .returned (.bool t) ∧ Below W.heap.size W w') := ke0
        have c0 := Grown.cell (w := wr) hgr ((HB.out.cell (p := ⟨g, o + k * 11, none⟩) hg).trans (hc 0 _ rfl))
        have d0 := Grown.cell (w := wr) hgr' ((HB.out.cell (p := ⟨g', o' + k * 11, none⟩) hg').trans (hc' 0 _ rfl))
        have c1 := Grown.cell (w := wr) hgr ((HB.out.cell (p := ⟨g, o + k * 11 + 1, none⟩) hg).trans (hc 1 _ rfl))
        have d1 := Grown.cell (w := wr) hgr' ((HB.out.cell (p := ⟨g', o' + k * 11 + 1, none⟩) hg').trans (hc' 1 _ rfl))
        have c2 := Grown.cell (w := wr) hgr ((HB.out.cell (p := ⟨g, o + k * 11 + 2, none⟩) hg).trans (hc 2 _ rfl))
        have d2 := Grown.cell (w := wr) hgr' ((HB.out.cell (p := ⟨g', o' + k * 11 + 2, none⟩) hg').trans (hc' 2 _ rfl))
        have c3 := Grown.cell (w := wr) hgr ((HB.out.cell (p := ⟨g, o + k * 11 + 3, none⟩) hg).trans (hc 3 _ rfl))
        have d3 := Grown.cell (w := wr) hgr' ((HB.out.cell (p := ⟨g', o' + k * 11 + 3, none⟩) hg').trans (hc' 3 _ rfl))
        have c4 := Grown.cell (w := wr) hgr ((HB.out.cell (p := ⟨g, o + k * 11 + 4, none⟩) hg).trans (hc 4 _ rfl))
        have d4 := Grown.cell (w := wr) hgr' ((HB.out.cell (p := ⟨g', o' + k * 11 + 4, none⟩) hg').trans (hc' 4 _ rfl))
        have c5 := Grown.cell (w := wr) hgr ((HB.out.cell (p := ⟨g, o + k * 11 + 5, none⟩) hg).trans (hc 5 _ rfl))
        have d5 := Grown.cell (w := wr) hgr' ((HB.out.cell (p := ⟨g', o' + k * 11 + 5, none⟩) hg').trans (hc' 5 _ rfl))
        have c6 := Grown.cell (w := wr) hgr ((HB.out.cell (p := ⟨g, o + k * 11 + 6, none⟩) hg).trans (hc 6 _ rfl))
        have d6 := Grown.cell (w := wr) hgr' ((HB.out.cell (p := ⟨g', o' + k * 11 + 6, none⟩) hg').trans (hc' 6 _ rfl))
        have c7 := Grown.cell (w := wr) hgr ((HB.out.cell (p := ⟨g, o + k * 11 + 7, none⟩) hg).trans (hc 7 _ rfl))
        have d7 := Grown.cell (w := wr) hgr' ((HB.out.cell (p := ⟨g', o' + k * 11 + 7, none⟩) hg').trans (hc' 7 _ rfl))
        have c8 := Grown.cell (w := wr) hgr ((HB.out.cell (p := ⟨g, o + k * 11 + 8, none⟩) hg).trans (hc 8 _ rfl))
        have d8 := Grown.cell (w := wr) hgr' ((HB.out.cell (p := ⟨g', o' + k * 11 + 8, none⟩) hg').trans (hc' 8 _ rfl))
        have c9 := Grown.cell (w := wr) hgr ((HB.out.cell (p := ⟨g, o + k * 11 + 9, none⟩) hg).trans (hc 9 _ rfl))
        have d9 := Grown.cell (w := wr) hgr' ((HB.out.cell (p := ⟨g', o' + k * 11 + 9, none⟩) hg').trans (hc' 9 _ rfl))
        have c10 := Grown.cell (w := wr) hgr ((HB.out.cell (p := ⟨g, o + k * 11 + 10, none⟩) hg).trans (hc 10 _ rfl))
        have d10 := Grown.cell (w := wr) hgr' ((HB.out.cell (p := ⟨g', o' + k * 11 + 10, none⟩) hg').trans (hc' 10 _ rfl))
        have hne := Grown.some wr
        have hki : (k : Int) < (L : Int) := by omega
        clear hc hc' hx hy ht ke0 HR q1 q2
        cases t
        · have HF : Hid (R = false) := by rw [← hA]; exact (Bool.false_and _)
          clear hA
          go_wp2
          refine wp_region_grow (by kernel_rfl) (by kernel_rfl) ?_
          repeat (go_big_quiet_step ((go_at_call 66; exact grow_of (ke.out _ (chain HB.out (Grown.below _))))))
          refine wpQuiet_nil ?_
          rintro _ ⟨G, rfl⟩
          go_wp2
          go_ret
          exact ⟨ret_bool HF.out.symm, chain HB.out G.below⟩
        · have HF : Hid (sFrom sCmd (l.drop (k + 1)) (m.drop (k + 1)) = R) := by rw [← hA]; exact (Bool.true_and _).symm
          clear hA
          go_wp2
          refine wp_region_grow (by kernel_rfl) (by kernel_rfl) ?_
          repeat (go_big_quiet_step ((go_at_call 66; exact grow_of (ke.out _ (chain HB.out (Grown.below _))))))
          refine wpQuiet_nil ?_
          rintro _ ⟨G, rfl⟩
          go_wp2
          go_roundw
          case rel => exact ⟨k + 1, by omega, by go_num, HF, chain HB.out G.below⟩
          case measure => simp [intOf]; omega
      · obtain rfl : k = L := by omega
        have HF : Hid (R = true) := by have h := HR.out; rw [List.drop_of_length_le (by rw [HL.out]; omega), List.drop_of_length_le (by rw [HM.out]; omega)] at h; exact h.symm
        go_wp2
        go_ret
        exact ⟨ret_bool HF.out.symm, HB.out⟩
  · have hLMi : ((L : Int) == (M : Int)) = false := by simp; omega
    have HF : Hid (sFrom sCmd l m = false) := sFrom_len _ _ _ (by rw [hL, hM]; exact hLM)
    clear h1 h2 hL hM
    go_enter Tryd.func45, Tryd.ntmps45
    go_wp2
    go_ret
    exact ⟨ret_bool HF.out.symm, Below.refl _ _⟩

set_option maxRecDepth 20000 in
set_option maxHeartbeats 1000000 in
theorem same_cols (v v' : Value) (l m : List IC.Col) (w : World) (h1 : Many w 63 4 IC.Col.cells v l) (h2 : Many w 63 4 IC.Col.cells v' m) (hn : l.length ≤ 1000000) (hn' : m.length ≤ 1000000) :
    Calls Tryd.prog 44 #[v, v'] w fun e w' => e = .returned (.bool (sFrom IC.sameCol l m)) ∧ Below w.heap.size w w' := by
  obtain ⟨ad, cap, hv, hl1, hl2⟩ := h1.len
  obtain ⟨ad', cap', hv', hl1', hl2'⟩ := h2.len
  unfold maxLen at hl2 hl2'
  obtain ⟨L, hL⟩ : ∃ L, l.length = L := ⟨_, rfl⟩
  obtain ⟨M, hM⟩ : ∃ M, m.length = M := ⟨_, rfl⟩
  have HL : Hid (l.length = L) := hL
  have HM : Hid (m.length = M) := hM
  rw [hL] at hv hl1 hn
  rw [hM] at hv' hl1' hn'
  subst hv
  subst hv'
  have H1 := hid' h1
  have H2 := hid' h2
  by_cases hLM : L = M
  · subst hLM
    obtain ⟨R, hR⟩ : ∃ R, sFrom IC.sameCol l m = R := ⟨_, rfl⟩
    rw [hR]
    clear h1 h2 hL hM
    go_enter Tryd.func44, Tryd.ntmps44
    go_wp2
    go_loopw [5] (fun i wr => ∃ k : Nat, k ≤ L ∧ i = .int .i64 k ∧ Hid (sFrom IC.sameCol (l.drop k) (m.drop k) = R) ∧ Hid (Below w.heap.size w wr)) (fun i _ => L - (intOf i).toNat)
    case atStart => exact ⟨0, by omega, rfl, hR, Below.refl _ _⟩
    case round =>
      obtain ⟨k, hk, rfl, HR, HB⟩ := hrel
      by_cases hkL : k < L
      · have hks : k < l.length := by rw [HL.out]; exact hkL
        have hks' : k < m.length := by rw [HM.out]; exact hkL
        obtain ⟨g, o, cap2, hv, hg, -, -, hc⟩ := H1.out.at col_len k hks
        obtain ⟨rfl, -⟩ : ad = some ⟨g, o, none⟩ ∧ _ := by simpa using hv
        obtain ⟨g', o', cap2', hv', hg', -, -, hc'⟩ := H2.out.at col_len k hks'
        obtain ⟨rfl, -⟩ : ad' = some ⟨g', o', none⟩ ∧ _ := by simpa using hv'
        clear hv hv'
        have hgr : g < wr.heap.size := Nat.lt_of_lt_of_le hg HB.out.size
        have hgr' : g' < wr.heap.size := Nat.lt_of_lt_of_le hg' HB.out.size
        have hA := HR.out
        rw [sFrom_at IC.sameCol l m k hks hks'] at hA
        obtain ⟨x, hx⟩ : ∃ x, l[k] = x := ⟨_, rfl⟩
        obtain ⟨y, hy⟩ : ∃ y, m[k] = y := ⟨_, rfl⟩
        rw [hx] at hc hA
        rw [hy] at hc' hA
        obtain ⟨xa, xb, xc, xd⟩ := x
        obtain ⟨ya, yb, yc, yd⟩ := y
        have ke0 : ∀ W, Below w.heap.size w W → _ := fun W hbw => (fun (_ : Below w.heap.size w W) => samecol_any ⟨xa, xb, xc, xd⟩ ⟨ya, yb, yc, yd⟩ W) hbw
        obtain ⟨t, ht⟩ : ∃ t, IC.sameCol ⟨xa, xb, xc, xd⟩ ⟨ya, yb, yc, yd⟩ = t := ⟨_, rfl⟩
        rw [ht] at hA ke0
        have ke : Hid (∀ W, Below w.heap.size w W → Calls Tryd.prog 21 #[.agg #[.int .u8 xa, .int .u8 xb, .int .u8 xc, .int .u8 xd], .agg #[.int .u8 ya, .int .u8 yb, .int .u8 yc, .int .u8 yd]] W fun e w' => e = .returned (.bool t) ∧ Below W.heap.size W w') := ke0
        have c0 := Grown.cell (w := wr) hgr ((HB.out.cell (p := ⟨g, o + k * 4, none⟩) hg).trans (hc 0 _ rfl))
        have d0 := Grown.cell (w := wr) hgr' ((HB.out.cell (p := ⟨g', o' + k * 4, none⟩) hg').trans (hc' 0 _ rfl))
        have c1 := Grown.cell (w := wr) hgr ((HB.out.cell (p := ⟨g, o + k * 4 + 1, none⟩) hg).trans (hc 1 _ rfl))
        have d1 := Grown.cell (w := wr) hgr' ((HB.out.cell (p := ⟨g', o' + k * 4 + 1, none⟩) hg').trans (hc' 1 _ rfl))
        have c2 := Grown.cell (w := wr) hgr ((HB.out.cell (p := ⟨g, o + k * 4 + 2, none⟩) hg).trans (hc 2 _ rfl))
        have d2 := Grown.cell (w := wr) hgr' ((HB.out.cell (p := ⟨g', o' + k * 4 + 2, none⟩) hg').trans (hc' 2 _ rfl))
        have c3 := Grown.cell (w := wr) hgr ((HB.out.cell (p := ⟨g, o + k * 4 + 3, none⟩) hg).trans (hc 3 _ rfl))
        have d3 := Grown.cell (w := wr) hgr' ((HB.out.cell (p := ⟨g', o' + k * 4 + 3, none⟩) hg').trans (hc' 3 _ rfl))
        have hne := Grown.some wr
        have hki : (k : Int) < (L : Int) := by omega
        clear hc hc' hx hy ht ke0 HR
        cases t
        · have HF : Hid (R = false) := by rw [← hA]; exact (Bool.false_and _)
          clear hA
          go_wp2
          refine wp_region_grow (by kernel_rfl) (by kernel_rfl) ?_
          repeat (go_big_quiet_step ((go_at_call 21; exact grow_of (ke.out _ (chain HB.out (Grown.below _))))))
          refine wpQuiet_nil ?_
          rintro _ ⟨G, rfl⟩
          go_wp2
          go_ret
          exact ⟨ret_bool HF.out.symm, chain HB.out G.below⟩
        · have HF : Hid (sFrom IC.sameCol (l.drop (k + 1)) (m.drop (k + 1)) = R) := by rw [← hA]; exact (Bool.true_and _).symm
          clear hA
          go_wp2
          refine wp_region_grow (by kernel_rfl) (by kernel_rfl) ?_
          repeat (go_big_quiet_step ((go_at_call 21; exact grow_of (ke.out _ (chain HB.out (Grown.below _))))))
          refine wpQuiet_nil ?_
          rintro _ ⟨G, rfl⟩
          go_wp2
          go_roundw
          case rel => exact ⟨k + 1, by omega, by go_num, HF, chain HB.out G.below⟩
          case measure => simp [intOf]; omega
      · obtain rfl : k = L := by omega
        have HF : Hid (R = true) := by have h := HR.out; rw [List.drop_of_length_le (by rw [HL.out]; omega), List.drop_of_length_le (by rw [HM.out]; omega)] at h; exact h.symm
        go_wp2
        go_ret
        exact ⟨ret_bool HF.out.symm, HB.out⟩
  · have hLMi : ((L : Int) == (M : Int)) = false := by simp; omega
    have HF : Hid (sFrom IC.sameCol l m = false) := sFrom_len _ _ _ (by rw [hL, hM]; exact hLM)
    clear h1 h2 hL hM
    go_enter Tryd.func44, Tryd.ntmps44
    go_wp2
    go_ret
    exact ⟨ret_bool HF.out.symm, Below.refl _ _⟩

set_option maxRecDepth 20000 in
set_option maxHeartbeats 1000000 in
theorem same_icon (x y : IC.Icon) (w : World) (hx : IconOk w x) (hy : IconOk w y) (bx : IconB x) (by' : IconB y) :
    Calls Tryd.prog 20 #[.agg x.cells.toArray, .agg y.cells.toArray] w fun e w' => e = .returned (.bool (sIcon x y)) ∧ Below w.heap.size w w' := by
  obtain ⟨xa, xb, xc, xv, xs, xu, xt⟩ := x
  obtain ⟨ya, yb, yc, yv, ys, yu, yt⟩ := y
  have k1 : Hid (∀ W, Below w.heap.size w W → Calls Tryd.prog 44 #[xv, yv] W fun e w' => e = .returned (.bool (sFrom IC.sameCol xs ys)) ∧ Below W.heap.size W w') := fun W hb => same_cols xv yv xs ys W (Row.below hx.1 hb) (Row.below hy.1 hb) (Nat.le_trans bx.cols (by omega)) (Nat.le_trans by'.cols (by omega))
  have k2 : Hid (∀ W, Below w.heap.size w W → Calls Tryd.prog 45 #[xu, yu] W fun e w' => e = .returned (.bool (sFrom sCmd xt yt)) ∧ Below W.heap.size W w') := fun W hb => same_cmds xu yu xt yt W (Row.below hx.2.1 hb) (Row.below hy.2.1 hb) (fun c hc => ⟨(hx.2.2 c hc).below hb, Nat.le_trans (bx.cmd c hc).2.1 (by omega), fun p hp => Nat.le_trans ((bx.cmd c hc).2.2 p hp) (by omega)⟩) (fun c hc => ⟨(hy.2.2 c hc).below hb, Nat.le_trans (by'.cmd c hc).2.1 (by omega), fun p hp => Nat.le_trans ((by'.cmd c hc).2.2 p hp) (by omega)⟩) (Nat.le_trans bx.cmds (by omega)) (Nat.le_trans by'.cmds (by omega))
  unfold sIcon
  simp only
  generalize sFrom IC.sameCol xs ys = t1 at k1 ⊢
  generalize sFrom sCmd xt yt = t2 at k2 ⊢
  obtain ⟨xva, xvc, hxv, -, -⟩ := Many.len hx.1
  replace hxv : xv = .slice xva xs.length xvc := hxv
  generalize xs.length = xn at hxv
  subst hxv
  obtain ⟨yva, yvc, hyv, -, -⟩ := Many.len hy.1
  replace hyv : yv = .slice yva ys.length yvc := hyv
  generalize ys.length = yn at hyv
  subst hyv
  obtain ⟨xua, xuc, hxu, -, -⟩ := Many.len hx.2.1
  replace hxu : xu = .slice xua xt.length xuc := hxu
  generalize xt.length = xm at hxu
  subst hxu
  obtain ⟨yua, yuc, hyu, -, -⟩ := Many.len hy.2.1
  replace hyu : yu = .slice yua yt.length yuc := hyu
  generalize yt.length = ym at hyu
  subst hyu
  clear hx hy bx by'
  simp only [IC.Icon.cells]
  go_enter Tryd.func20, Tryd.ntmps20
  cases h0 : (xa == ya)
  · go_wp2_with (first
      | (go_at_call 45; (with_reducible refine (k2.out _ (two_fin H1.out)).mono ?_); rintro e w2 ⟨rfl, hb2⟩
         have H2 := hid' (H1.out.trans (hb2.mono H1.out.size))
         obtain ⟨p2, q2, -⟩ := boxes2 H2.out
         obtain ⟨z2, y2⟩ := sizes2 H2.out
         clear hb2)
      | (go_at_call 44; (with_reducible refine (k1.out _ (two_none _ _ _)).mono ?_); rintro e w1 ⟨rfl, hb1⟩
         have H1 := hid' hb1
         obtain ⟨p1, q1, -⟩ := boxes2 hb1
         obtain ⟨z1, y1⟩ := sizes2 hb1
         clear hb1))
    go_ret
    exact ⟨ret_bool (by simp), by first | exact two_fin H2.out | exact two_fin H1.out | exact two_none _ _ _⟩
  · cases h1 : (xb == yb)
    · go_wp2_with (first
        | (go_at_call 45; (with_reducible refine (k2.out _ (two_fin H1.out)).mono ?_); rintro e w2 ⟨rfl, hb2⟩
           have H2 := hid' (H1.out.trans (hb2.mono H1.out.size))
           obtain ⟨p2, q2, -⟩ := boxes2 H2.out
           obtain ⟨z2, y2⟩ := sizes2 H2.out
           clear hb2)
        | (go_at_call 44; (with_reducible refine (k1.out _ (two_none _ _ _)).mono ?_); rintro e w1 ⟨rfl, hb1⟩
           have H1 := hid' hb1
           obtain ⟨p1, q1, -⟩ := boxes2 hb1
           obtain ⟨z1, y1⟩ := sizes2 hb1
           clear hb1))
      go_ret
      exact ⟨ret_bool (by simp), by first | exact two_fin H2.out | exact two_fin H1.out | exact two_none _ _ _⟩
    · cases h2 : (xc == yc)
      · go_wp2_with (first
          | (go_at_call 45; (with_reducible refine (k2.out _ (two_fin H1.out)).mono ?_); rintro e w2 ⟨rfl, hb2⟩
             have H2 := hid' (H1.out.trans (hb2.mono H1.out.size))
             obtain ⟨p2, q2, -⟩ := boxes2 H2.out
             obtain ⟨z2, y2⟩ := sizes2 H2.out
             clear hb2)
          | (go_at_call 44; (with_reducible refine (k1.out _ (two_none _ _ _)).mono ?_); rintro e w1 ⟨rfl, hb1⟩
             have H1 := hid' hb1
             obtain ⟨p1, q1, -⟩ := boxes2 hb1
             obtain ⟨z1, y1⟩ := sizes2 hb1
             clear hb1))
        go_ret
        exact ⟨ret_bool (by simp), by first | exact two_fin H2.out | exact two_fin H1.out | exact two_none _ _ _⟩
      · cases t1
        · go_wp2_with (first
            | (go_at_call 45; (with_reducible refine (k2.out _ (two_fin H1.out)).mono ?_); rintro e w2 ⟨rfl, hb2⟩
               have H2 := hid' (H1.out.trans (hb2.mono H1.out.size))
               obtain ⟨p2, q2, -⟩ := boxes2 H2.out
               obtain ⟨z2, y2⟩ := sizes2 H2.out
               clear hb2)
            | (go_at_call 44; (with_reducible refine (k1.out _ (two_none _ _ _)).mono ?_); rintro e w1 ⟨rfl, hb1⟩
               have H1 := hid' hb1
               obtain ⟨p1, q1, -⟩ := boxes2 hb1
               obtain ⟨z1, y1⟩ := sizes2 hb1
               clear hb1))
          go_ret
          exact ⟨ret_bool (by simp), by first | exact two_fin H2.out | exact two_fin H1.out | exact two_none _ _ _⟩
        · go_wp2_with (first
            | (go_at_call 45; (with_reducible refine (k2.out _ (two_fin H1.out)).mono ?_); rintro e w2 ⟨rfl, hb2⟩
               have H2 := hid' (H1.out.trans (hb2.mono H1.out.size))
               obtain ⟨p2, q2, -⟩ := boxes2 H2.out
               obtain ⟨z2, y2⟩ := sizes2 H2.out
               clear hb2)
            | (go_at_call 44; (with_reducible refine (k1.out _ (two_none _ _ _)).mono ?_); rintro e w1 ⟨rfl, hb1⟩
               have H1 := hid' hb1
               obtain ⟨p1, q1, -⟩ := boxes2 hb1
               obtain ⟨z1, y1⟩ := sizes2 hb1
               clear hb1))
          go_ret
          exact ⟨ret_bool (by simp), by first | exact two_fin H2.out | exact two_fin H1.out | exact two_none _ _ _⟩

end Go.Proofs.YtofmbedjbnbjlaaDoor

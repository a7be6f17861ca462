/-
  Whether two segments, paths, paints, commands, icons are the same: walked over the program.
-/
import Derived.Test.YtofmbedjbnbjlaaDoorEncBytes
import Derived.Test.YtofmbedjbnbjlaaDoorEncInj
namespace Go.Proofs.YtofmbedjbnbjlaaDoor
open Go.RowKit

def sFrom {α : Type} (f : α → α → Bool) : List α → List α → Bool
  | [], [] => true
  | x :: l, y :: m => f x y && sFrom f l m
  | _, _ => false
def sSeg (s t : IC.Seg) : Bool := (s.k == t.k) && (IC.samePt s.a t.a && (IC.samePt s.b t.b && IC.samePt s.c t.c))
def sPath (p q : IC.Path) : Bool := IC.samePt p.st q.st && ((p.cl == q.cl) && sFrom sSeg p.segs q.segs)
def sPaint (p q : IC.Paint) : Bool := (p.k == q.k) && ((p.a == q.a) && ((p.b == q.b) && (IC.samePt p.p q.p && IC.samePt p.q q.q)))
def sCmd (c d : IC.Cmd) : Bool := (c.k == d.k) && ((c.r == d.r) && ((c.wd == d.wd) && (sPaint c.pn d.pn && sFrom sPath c.paths d.paths)))
def sIcon (i j : IC.Icon) : Bool := (i.w == j.w) && ((i.h == j.h) && ((i.s == j.s) && (sFrom IC.sameCol i.cols j.cols && sFrom sCmd i.cmds j.cmds)))

theorem sFrom_len {α : Type} (f : α → α → Bool) : ∀ (l m : List α), l.length ≠ m.length → sFrom f l m = false := by
  intro l
  induction l with
  | nil => intro m h; cases m with | nil => exact absurd rfl h | cons y m => rfl
  | cons x l ih => intro m h; cases m with | nil => rfl | cons y m => show (f x y && sFrom f l m) = false; rw [ih m (by simpa using h)]; simp
theorem sFrom_at {α : Type} (f : α → α → Bool) (l m : List α) (k : Nat) (h1 : k < l.length) (h2 : k < m.length) : sFrom f (l.drop k) (m.drop k) = (f l[k] m[k] && sFrom f (l.drop (k + 1)) (m.drop (k + 1))) := by
  rw [List.drop_eq_getElem_cons h1, List.drop_eq_getElem_cons h2]
  rfl
theorem sFrom_all {α : Type} (f : α → α → Bool) (E : α → α → Prop) (h : ∀ x y, f x y = true ↔ E x y) : ∀ (l m : List α), sFrom f l m = true ↔ EP.All2 E l m := by
  intro l
  induction l with
  | nil => intro m; cases m with | nil => exact ⟨fun _ => trivial, fun _ => rfl⟩ | cons y m => exact ⟨fun h => absurd h (by show ¬ false = true; simp), fun h => absurd h id⟩
  | cons x l ih =>
    intro m
    cases m with
    | nil => exact ⟨fun h => absurd h (by show ¬ false = true; simp), fun h => absurd h id⟩
    | cons y m =>
      show (f x y && sFrom f l m) = true ↔ E x y ∧ EP.All2 E l m
      rw [Bool.and_eq_true, h, ih]

theorem sPt_iff (p q : IC.Pt) : IC.samePt p q = true ↔ p = q := by
  obtain ⟨a, b⟩ := p
  obtain ⟨c, d⟩ := q
  unfold IC.samePt
  simp
theorem sSeg_iff (s t : IC.Seg) : sSeg s t = true ↔ s = t := by
  obtain ⟨k, a, b, c⟩ := s
  obtain ⟨k', a', b', c'⟩ := t
  unfold sSeg
  simp only [Bool.and_eq_true, sPt_iff, beq_iff_eq, IC.Seg.mk.injEq]
theorem all2_refl {α : Type} : ∀ l : List α, EP.All2 (· = ·) l l := by
  intro l
  induction l with
  | nil => trivial
  | cons x l ih => exact ⟨rfl, ih⟩
theorem sList_iff {α : Type} (f : α → α → Bool) (h : ∀ x y, f x y = true ↔ x = y) (l m : List α) : sFrom f l m = true ↔ l = m := by
  rw [sFrom_all f (· = ·) h]
  exact ⟨EP.all2_eq l m, fun e => e ▸ all2_refl l⟩
theorem sPath_iff (p q : IC.Path) : sPath p q = true ↔ EP.SameP p q := by
  unfold sPath EP.SameP
  simp only [Bool.and_eq_true, sPt_iff, beq_iff_eq, sList_iff sSeg sSeg_iff]
theorem sPaint_iff (p q : IC.Paint) : sPaint p q = true ↔ p = q := by
  obtain ⟨k, a, b, c, d⟩ := p
  obtain ⟨k', a', b', c', d'⟩ := q
  unfold sPaint
  simp only [Bool.and_eq_true, sPt_iff, beq_iff_eq, IC.Paint.mk.injEq]
theorem sCmd_iff (c d : IC.Cmd) : sCmd c d = true ↔ EP.SameC c d := by
  unfold sCmd EP.SameC
  simp only [Bool.and_eq_true, beq_iff_eq, sPaint_iff, sFrom_all sPath EP.SameP sPath_iff]
theorem sCol_iff (a b : IC.Col) : IC.sameCol a b = true ↔ a = b := by
  obtain ⟨r, g, c, d⟩ := a
  obtain ⟨r', g', c', d'⟩ := b
  unfold IC.sameCol
  simp
theorem sIcon_iff (i j : IC.Icon) : sIcon i j = true ↔ EP.SameI i j := by
  unfold sIcon EP.SameI
  simp only [Bool.and_eq_true, beq_iff_eq, sList_iff IC.sameCol sCol_iff, sFrom_all sCmd EP.SameC sCmd_iff]

theorem two_fin {w w1 : World} {o o' : Obj} (h : Below ((w.alloc o).alloc o').heap.size ((w.alloc o).alloc o') w1) : Below w.heap.size w w1 := (((Below.refl _ _).alloc (Nat.le_refl _) o).alloc (by simp) o').trans (h.mono (by simp; omega))
theorem two_none (w : World) (o o' : Obj) : Below w.heap.size w ((w.alloc o).alloc o') := ((Below.refl _ _).alloc (Nat.le_refl _) o).alloc (by simp) o'
theorem pt_same (ax ay bx bY : Int) : ∀ w, Calls Tryd.prog 30 #[.agg #[.int .i64 ax, .int .i64 ay], .agg #[.int .i64 bx, .int .i64 bY]] w fun e w' => e = .returned (.bool (IC.samePt ⟨ax, ay⟩ ⟨bx, bY⟩)) ∧ Below w.heap.size w w' := fun w => samept_any ax ay bx bY w

set_option maxRecDepth 20000 in
set_option maxHeartbeats 1000000 in
theorem same_seg (x y : IC.Seg) (w : World) :
    Calls Tryd.prog 103 #[.agg x.cells.toArray, .agg y.cells.toArray] w fun e w' => e = .returned (.bool (sSeg x y)) ∧ Below w.heap.size w w' := by
  obtain ⟨xk, ⟨xa, xb⟩, ⟨xc, xd⟩, ⟨xe, xf⟩⟩ := x
  obtain ⟨yk, ⟨ya, yb⟩, ⟨yc, yd⟩, ⟨ye, yf⟩⟩ := y
  have k1 := hid' (pt_same xa xb ya yb)
  have k2 := hid' (pt_same xc xd yc yd)
  have k3 := hid' (pt_same xe xf ye yf)
  unfold sSeg
  simp only
  generalize IC.samePt ⟨xa, xb⟩ ⟨ya, yb⟩ = t1 at k1 ⊢
  generalize IC.samePt ⟨xc, xd⟩ ⟨yc, yd⟩ = t2 at k2 ⊢
  generalize IC.samePt ⟨xe, xf⟩ ⟨ye, yf⟩ = t3 at k3 ⊢
  simp only [IC.Seg.cells]
  go_enter Tryd.func103, Tryd.ntmps103
  cases h0 : (xk == yk)
  · go_wp2_with (first
      | (go_at_call 30; (with_reducible refine (k3.out _).mono ?_); rintro e w3 ⟨rfl, hb3⟩
         have H3 := hid' (H2.out.trans (hb3.mono H2.out.size))
         obtain ⟨p3, q3, -⟩ := boxes2 H3.out
         obtain ⟨z3, y3⟩ := sizes2 H3.out
         clear hb3)
      | (go_at_call 30; (with_reducible refine (k2.out _).mono ?_); rintro e w2 ⟨rfl, hb2⟩
         have H2 := hid' (H1.out.trans (hb2.mono H1.out.size))
         obtain ⟨p2, q2, -⟩ := boxes2 H2.out
         obtain ⟨z2, y2⟩ := sizes2 H2.out
         clear hb2)
      | (go_at_call 30; (with_reducible refine (k1.out _).mono ?_); rintro e w1 ⟨rfl, hb1⟩
         have H1 := hid' hb1
         obtain ⟨p1, q1, -⟩ := boxes2 hb1
         obtain ⟨z1, y1⟩ := sizes2 hb1
         clear hb1))
    go_ret
    exact ⟨ret_bool (by simp), by first | exact two_fin H3.out | exact two_fin H2.out | exact two_fin H1.out | exact two_none _ _ _⟩
  · cases t1
    · go_wp2_with (first
        | (go_at_call 30; (with_reducible refine (k3.out _).mono ?_); rintro e w3 ⟨rfl, hb3⟩
           have H3 := hid' (H2.out.trans (hb3.mono H2.out.size))
           obtain ⟨p3, q3, -⟩ := boxes2 H3.out
           obtain ⟨z3, y3⟩ := sizes2 H3.out
           clear hb3)
        | (go_at_call 30; (with_reducible refine (k2.out _).mono ?_); rintro e w2 ⟨rfl, hb2⟩
           have H2 := hid' (H1.out.trans (hb2.mono H1.out.size))
           obtain ⟨p2, q2, -⟩ := boxes2 H2.out
           obtain ⟨z2, y2⟩ := sizes2 H2.out
           clear hb2)
        | (go_at_call 30; (with_reducible refine (k1.out _).mono ?_); rintro e w1 ⟨rfl, hb1⟩
           have H1 := hid' hb1
           obtain ⟨p1, q1, -⟩ := boxes2 hb1
           obtain ⟨z1, y1⟩ := sizes2 hb1
           clear hb1))
      go_ret
      exact ⟨ret_bool (by simp), by first | exact two_fin H3.out | exact two_fin H2.out | exact two_fin H1.out | exact two_none _ _ _⟩
    · cases t2
      · go_wp2_with (first
          | (go_at_call 30; (with_reducible refine (k3.out _).mono ?_); rintro e w3 ⟨rfl, hb3⟩
             have H3 := hid' (H2.out.trans (hb3.mono H2.out.size))
             obtain ⟨p3, q3, -⟩ := boxes2 H3.out
             obtain ⟨z3, y3⟩ := sizes2 H3.out
             clear hb3)
          | (go_at_call 30; (with_reducible refine (k2.out _).mono ?_); rintro e w2 ⟨rfl, hb2⟩
             have H2 := hid' (H1.out.trans (hb2.mono H1.out.size))
             obtain ⟨p2, q2, -⟩ := boxes2 H2.out
             obtain ⟨z2, y2⟩ := sizes2 H2.out
             clear hb2)
          | (go_at_call 30; (with_reducible refine (k1.out _).mono ?_); rintro e w1 ⟨rfl, hb1⟩
             have H1 := hid' hb1
             obtain ⟨p1, q1, -⟩ := boxes2 hb1
             obtain ⟨z1, y1⟩ := sizes2 hb1
             clear hb1))
        go_ret
        exact ⟨ret_bool (by simp), by first | exact two_fin H3.out | exact two_fin H2.out | exact two_fin H1.out | exact two_none _ _ _⟩
      · go_wp2_with (first
          | (go_at_call 30; (with_reducible refine (k3.out _).mono ?_); rintro e w3 ⟨rfl, hb3⟩
             have H3 := hid' (H2.out.trans (hb3.mono H2.out.size))
             obtain ⟨p3, q3, -⟩ := boxes2 H3.out
             obtain ⟨z3, y3⟩ := sizes2 H3.out
             clear hb3)
          | (go_at_call 30; (with_reducible refine (k2.out _).mono ?_); rintro e w2 ⟨rfl, hb2⟩
             have H2 := hid' (H1.out.trans (hb2.mono H1.out.size))
             obtain ⟨p2, q2, -⟩ := boxes2 H2.out
             obtain ⟨z2, y2⟩ := sizes2 H2.out
             clear hb2)
          | (go_at_call 30; (with_reducible refine (k1.out _).mono ?_); rintro e w1 ⟨rfl, hb1⟩
             have H1 := hid' hb1
             obtain ⟨p1, q1, -⟩ := boxes2 hb1
             obtain ⟨z1, y1⟩ := sizes2 hb1
             clear hb1))
        go_ret
        exact ⟨ret_bool (by simp), by first | exact two_fin H3.out | exact two_fin H2.out | exact two_fin H1.out | exact two_none _ _ _⟩

set_option maxRecDepth 20000 in
set_option maxHeartbeats 1000000 in
theorem same_segs (v v' : Value) (l m : List IC.Seg) (w : World) (h1 : Many w 60 7 IC.Seg.cells v l) (h2 : Many w 60 7 IC.Seg.cells v' m) (hn : l.length ≤ 1000000) (hn' : m.length ≤ 1000000) :
    Calls Tryd.prog 101 #[v, v'] w fun e w' => e = .returned (.bool (sFrom sSeg l m)) ∧ Below w.heap.size w w' := by
  obtain ⟨ad, cap, hv, hl1, hl2⟩ := h1.len
  obtain ⟨ad', cap', hv', hl1', hl2'⟩ := h2.len
  unfold maxLen at hl2 hl2'
  obtain ⟨L, hL⟩ : ∃ L, l.length = L := ⟨_, rfl⟩
  obtain ⟨M, hM⟩ : ∃ M, m.length = M := ⟨_, rfl⟩
  have HL : Hid (l.length = L) := hL
  have HM : Hid (m.length = M) := hM
  rw [hL] at hv hl1 hn
  rw [hM] at hv' hl1' hn'
  subst hv
  subst hv'
  have H1 := hid' h1
  have H2 := hid' h2
  by_cases hLM : L = M
  · subst hLM
    obtain ⟨R, hR⟩ : ∃ R, sFrom sSeg l m = R := ⟨_, rfl⟩
    rw [hR]
    clear h1 h2 hL hM
    go_enter Tryd.func101, Tryd.ntmps101
    go_wp2
    go_loopw [5] (fun i wr => ∃ k : Nat, k ≤ L ∧ i = .int .i64 k ∧ Hid (sFrom sSeg (l.drop k) (m.drop k) = R) ∧ Hid (Below w.heap.size w wr)) (fun i _ => L - (intOf i).toNat)
    case atStart => exact ⟨0, by omega, rfl, hR, Below.refl _ _⟩
    case round =>
      obtain ⟨k, hk, rfl, HR, HB⟩ := hrel
      by_cases hkL : k < L
      · have hks : k < l.length := by rw [HL.out]; exact hkL
        have hks' : k < m.length := by rw [HM.out]; exact hkL
        obtain ⟨g, o, cap2, hv, hg, -, -, hc⟩ := H1.out.at seg_len k hks
        obtain ⟨rfl, -⟩ : ad = some ⟨g, o, none⟩ ∧ _ := by simpa using hv
        obtain ⟨g', o', cap2', hv', hg', -, -, hc'⟩ := H2.out.at seg_len k hks'
        obtain ⟨rfl, -⟩ : ad' = some ⟨g', o', none⟩ ∧ _ := by simpa using hv'
        clear hv hv'
        have hgr : g < wr.heap.size := Nat.lt_of_lt_of_le hg HB.out.size
        have hgr' : g' < wr.heap.size := Nat.lt_of_lt_of_le hg' HB.out.size
        have hA := HR.out
        rw [sFrom_at sSeg l m k hks hks'] at hA
        obtain ⟨x, hx⟩ : ∃ x, l[k] = x := ⟨_, rfl⟩
        obtain ⟨y, hy⟩ : ∃ y, m[k] = y := ⟨_, rfl⟩
        rw [hx] at hc hA
        rw [hy] at hc' hA
        obtain ⟨xk, ⟨xa, xb⟩, ⟨xc, xd⟩, ⟨xe, xf⟩⟩ := x
        obtain ⟨yk, ⟨ya, yb⟩, ⟨yc, yd⟩, ⟨ye, yf⟩⟩ := y
        have ke0 : ∀ W, Below w.heap.size w W → _ := fun W hbw => (fun (_ : Below w.heap.size w W) => same_seg ⟨xk, ⟨xa, xb⟩, ⟨xc, xd⟩, ⟨xe, xf⟩⟩ ⟨yk, ⟨ya, yb⟩, ⟨yc, yd⟩, ⟨ye, yf⟩⟩ W) hbw
        obtain ⟨t, ht⟩ : ∃ t, sSeg ⟨xk, ⟨xa, xb⟩, ⟨xc, xd⟩, ⟨xe, xf⟩⟩ ⟨yk, ⟨ya, yb⟩, ⟨yc, yd⟩, ⟨ye, yf⟩⟩ = t := ⟨_, rfl⟩
        rw [ht] at hA ke0
        have ke : Hid (∀ W, Below w.heap.size w W → Calls Tryd.prog 103 #[.agg #[.int .i64 xk, .int .i64 xa, .int .i64 xb, .int .i64 xc, .int .i64 xd, .int .i64 xe, .int .i64 xf], .agg #[.int .i64 yk, .int .i64 ya, .int .i64 yb, .int .i64 yc, .int .i64 yd, .int .i64 ye, .int .i64 yf]] W fun e w' => e = .returned (.bool t) ∧ Below W.heap.size W w') := ke0
        have c0 := Grown.cell (w := wr) hgr ((HB.out.cell (p := ⟨g, o + k * 7, none⟩) hg).trans (hc 0 _ rfl))
        have d0 := Grown.cell (w := wr) hgr' ((HB.out.cell (p := ⟨g', o' + k * 7, none⟩) hg').trans (hc' 0 _ rfl))
        have c1 := Grown.cell (w := wr) hgr ((HB.out.cell (p := ⟨g, o + k * 7 + 1, none⟩) hg).trans (hc 1 _ rfl))
        have d1 := Grown.cell (w := wr) hgr' ((HB.out.cell (p := ⟨g', o' + k * 7 + 1, none⟩) hg').trans (hc' 1 _ rfl))
        have c2 := Grown.cell (w := wr) hgr ((HB.out.cell (p := ⟨g, o + k * 7 + 2, none⟩) hg).trans (hc 2 _ rfl))
        have d2 := Grown.cell (w := wr) hgr' ((HB.out.cell (p := ⟨g', o' + k * 7 + 2, none⟩) hg').trans (hc' 2 _ rfl))
        have c3 := Grown.cell (w := wr) hgr ((HB.out.cell (p := ⟨g, o + k * 7 + 3, none⟩) hg).trans (hc 3 _ rfl))
        have d3 := Grown.cell (w := wr) hgr' ((HB.out.cell (p := ⟨g', o' + k * 7 + 3, none⟩) hg').trans (hc' 3 _ rfl))
        have c4 := Grown.cell (w := wr) hgr ((HB.out.cell (p := ⟨g, o + k * 7 + 4, none⟩) hg).trans (hc 4 _ rfl))
        have d4 := Grown.cell (w := wr) hgr' ((HB.out.cell (p := ⟨g', o' + k * 7 + 4, none⟩) hg').trans (hc' 4 _ rfl))
        have c5 := Grown.cell (w := wr) hgr ((HB.out.cell (p := ⟨g, o + k * 7 + 5, none⟩) hg).trans (hc 5 _ rfl))
        have d5 := Grown.cell (w := wr) hgr' ((HB.out.cell (p := ⟨g', o' + k * 7 + 5, none⟩) hg').trans (hc' 5 _ rfl))
        have c6 := Grown.cell (w := wr) hgr ((HB.out.cell (p := ⟨g, o + k * 7 + 6, none⟩) hg).trans (hc 6 _ rfl))
        have d6 := Grown.cell (w := wr) hgr' ((HB.out.cell (p := ⟨g', o' + k * 7 + 6, none⟩) hg').trans (hc' 6 _ rfl))
        have hne := Grown.some wr
        have hki : (k : Int) < (L : Int) := by omega
        clear hc hc' hx hy ht ke0 HR
        cases t
        · have HF : Hid (R = false) := by rw [← hA]; exact (Bool.false_and _)
          clear hA
          go_wp2
          refine wp_region_grow (by kernel_rfl) (by kernel_rfl) ?_
          repeat (go_big_quiet_step ((go_at_call 103; exact grow_of (ke.out _ (chain HB.out (Grown.below _))))))
          refine wpQuiet_nil ?_
          rintro _ ⟨G, rfl⟩
          go_wp2
          go_ret
          exact ⟨ret_bool HF.out.symm, chain HB.out G.below⟩
        · have HF : Hid (sFrom sSeg (l.drop (k + 1)) (m.drop (k + 1)) = R) := by rw [← hA]; exact (Bool.true_and _).symm
          clear hA
          go_wp2
          refine wp_region_grow (by kernel_rfl) (by kernel_rfl) ?_
          repeat (go_big_quiet_step ((go_at_call 103; exact grow_of (ke.out _ (chain HB.out (Grown.below _))))))
          refine wpQuiet_nil ?_
          rintro _ ⟨G, rfl⟩
          go_wp2
          go_roundw
          case rel => exact ⟨k + 1, by omega, by go_num, HF, chain HB.out G.below⟩
          case measure => simp [intOf]; omega
      · obtain rfl : k = L := by omega
        have HF : Hid (R = true) := by have h := HR.out; rw [List.drop_of_length_le (by rw [HL.out]; omega), List.drop_of_length_le (by rw [HM.out]; omega)] at h; exact h.symm
        go_wp2
        go_ret
        exact ⟨ret_bool HF.out.symm, HB.out⟩
  · have hLMi : ((L : Int) == (M : Int)) = false := by simp; omega
    have HF : Hid (sFrom sSeg l m = false) := sFrom_len _ _ _ (by rw [hL, hM]; exact hLM)
    clear h1 h2 hL hM
    go_enter Tryd.func101, Tryd.ntmps101
    go_wp2
    go_ret
    exact ⟨ret_bool HF.out.symm, Below.refl _ _⟩

end Go.Proofs.YtofmbedjbnbjlaaDoor

/-
  A reader reads a point that is not another: walked over the program.
-/
import Derived.Test.YtcnlkdoifogkbaaGreatDoorDecPaint
import Derived.Test.YtcnlkdoifogkbaaGreatDoorDecPoint
namespace Go.Proofs.YtcnlkdoifogkbaaGreatDoor
open Go.RowKit

/-- Something amiss is kept, unless something ahead of it was. -/
def fails (R : Except DP.Bad DP.St) (e : DP.Bad) : Except DP.Bad DP.St := match R with
  | .ok _ => .error e
  | .error b => .error b

theorem fail_any (x : Src) (q : Nat) (R : Except DP.Bad DP.St) (z : Int) (c : Nat) (hc : c < 13) (w : World) (h : Rs x q w R) (hz : ∀ s, R = .ok s → 0 ≤ z) :
    Calls Tryz.prog 81 #[.pointer (some ⟨q, 0, none⟩), .int .i64 z, .iface 173 (.pointer (some (x.A (perm c))))] w fun e w' => e = .returned (.tuple #[]) ∧ Rs x q w' (fails R (c, z.toNat)) ∧ Mk q w w' := by
  cases R with
  | error b => exact (fail_bad x q b _ _ w h).mono fun e w' ⟨a, d⟩ => by subst d; exact ⟨a, h, Mk.refl _ _⟩
  | ok s =>
    have := fail_ok x q s z.toNat c hc w h
    rw [Int.toNat_of_nonneg (hz s rfl)] at this
    exact this

theorem Rs.atCell {x : Src} {q : Nat} {w : World} {R : Except DP.Bad DP.St} (h : Rs x q w R) : ∃ z : Int, w.cell? ⟨q, 1, none⟩ = some (.int .i64 z) ∧ ∀ s, R = .ok s → z = s.at' := by
  cases R with
  | ok s => exact ⟨s.at', (show Rd x q w s from h).blk.cell 1, fun s' e => by cases e; rfl⟩
  | error b =>
    obtain ⟨h1, ⟨ao, n, cap, at', far, adc, nc, capc, used, pts, cl, g, h2, h3, h4⟩, h5⟩ := h
    have := h2.cell 1
    simp at this
    exact ⟨at', this, fun s e => by cases e⟩

/-- What comes of a point that is not p. -/
theorem other_sum (bs : List Nat) (p : IC.Pt) (R R1 R2 : Except DP.Bad DP.St) (zx zy z : Int) (h1 : rest (run (DP.part bs 0) R) = R1) (h2 : rest (run (DP.part bs 0) R1) = R2) (hx : intOr 0 (run (DP.part bs 0) R) = zx) (hy : intOr 0 (run (DP.part bs 0) R1) = zy) (hz : ∀ s, R1 = .ok s → z = s.at') :
    rest (run (DP.other bs p) R) = (if p.x = zx ∧ p.y = zy then fails R2 (DP.eRange, z.toNat) else R2) ∧ ∀ v, run (DP.other bs p) R = .ok v → v.1 = ⟨zx, zy⟩ := by
  cases R with
  | error e =>
    cases h1; cases h2
    refine ⟨?_, fun v h => by cases h⟩
    split <;> rfl
  | ok s =>
    change rest (DP.other bs p s) = _ ∧ ∀ v, DP.other bs p s = .ok v → _
    change rest (DP.part bs 0 s) = R1 at h1
    change intOr 0 (DP.part bs 0 s) = zx at hx
    cases hp : DP.part bs 0 s with
    | error e =>
      have : DP.other bs p s = .error e := DP.andThen_err hp
      rw [this]
      rw [hp] at h1
      cases h1; cases h2
      refine ⟨?_, fun v h => by cases h⟩
      split <;> rfl
    | ok v1 =>
      have e1 : DP.other bs p s = DP.andThen (DP.part bs 0) (fun y s' => if p.x = v1.1 ∧ p.y = y then .error (DP.eRange, v1.2.at') else .ok (⟨v1.1, y⟩, s')) v1.2 := DP.andThen_ok hp
      rw [hp] at h1 hx
      change Except.ok v1.2 = R1 at h1
      change v1.1 = zx at hx
      subst h1 hx
      have hz' := hz v1.2 rfl
      change rest (DP.part bs 0 v1.2) = R2 at h2
      change intOr 0 (DP.part bs 0 v1.2) = zy at hy
      rw [e1]
      cases hp2 : DP.part bs 0 v1.2 with
      | error e =>
        rw [DP.andThen_err hp2]
        rw [hp2] at h2
        cases h2
        refine ⟨?_, fun v h => by cases h⟩
        split <;> rfl
      | ok v2 =>
        rw [DP.andThen_ok hp2]
        rw [hp2] at h2 hy
        change Except.ok v2.2 = R2 at h2
        change v2.1 = zy at hy
        subst h2 hy
        have e3 : z.toNat = v1.2.at' := by omega
        split
        · exact ⟨by rw [e3]; rfl, fun v h => by cases h⟩
        · exact ⟨rfl, fun v h => by cases h; rfl⟩

set_option maxRecDepth 20000 in
set_option maxHeartbeats 1000000 in
theorem other_any (x : Src) (q : Nat) (R : Except DP.Bad DP.St) (p : IC.Pt) (w : World) (h : Rs x q w R) :
    Calls Tryz.prog 110 #[.pointer (some ⟨q, 0, none⟩), .agg #[.int .i64 p.x, .int .i64 p.y]] w fun e w' => ∃ p' : IC.Pt, e = .returned (.agg #[.int .i64 p'.x, .int .i64 p'.y]) ∧ PtIn64 p' ∧ (∀ v, run (DP.other x.bs p) R = .ok v → v.1 = p') ∧ Rs x q w' (rest (run (DP.other x.bs p) R)) ∧ Mk q w w' := by
  have hb := h.base.lt256
  obtain ⟨px, py⟩ := p
  have z64 : In64 0 := by unfold In64; omega
  obtain ⟨R1, hR1⟩ : ∃ R1, rest (run (DP.part x.bs 0) R) = R1 := ⟨_, rfl⟩
  obtain ⟨zx, hzx⟩ : ∃ z, intOr 0 (run (DP.part x.bs 0) R) = z := ⟨_, rfl⟩
  obtain ⟨R2, hR2⟩ : ∃ R2, rest (run (DP.part x.bs 0) R1) = R2 := ⟨_, rfl⟩
  obtain ⟨zy, hzy⟩ : ∃ z, intOr 0 (run (DP.part x.bs 0) R1) = z := ⟨_, rfl⟩
  have iz : In64 zx := by rw [← hzx]; exact part_in hb z64 h.farIn
  have hr1 : ∀ s, R1 = .ok s → 0 ≤ s.far ∧ s.far ≤ 1048576 := fun s e => by
    obtain ⟨s0, k, e0, e1⟩ := part_keep hb (hR1.trans e)
    have := h.farIn s0 e0
    rw [e1]
    exact this
  have iy : In64 zy := by rw [← hzy]; exact part_in hb z64 hr1
  have k1 : Hid (∀ W, Below w.heap.size w W → Calls Tryz.prog 118 #[.pointer (some ⟨q, 0, none⟩), .int .i64 0] W fun e w' => e = .returned (.int .i64 zx) ∧ Rs x q w' R1 ∧ Mk q W w') := fun W hW => by
    have := part_any x q R 0 W (h.below hW) z64 (fun s e => by have := h.farIn s e; omega)
    rw [hzx, hR1] at this
    exact this
  have k2 : Hid (∀ W, Rs x q W R1 → Calls Tryz.prog 118 #[.pointer (some ⟨q, 0, none⟩), .int .i64 0] W fun e w' => e = .returned (.int .i64 zy) ∧ Rs x q w' R2 ∧ Mk q W w') := fun W hW => by
    have := part_any x q R1 0 W hW z64 (fun s e => by have := hr1 s e; omega)
    rw [hzy, hR2] at this
    exact this
  have HP : Hid (∀ z : Int, (∀ s, R1 = .ok s → z = s.at') → (rest (run (DP.other x.bs ⟨px, py⟩) R) = (if px = zx ∧ py = zy then fails R2 (DP.eRange, z.toNat) else R2)) ∧ ∀ v, run (DP.other x.bs ⟨px, py⟩) R = .ok v → v.1 = ⟨zx, zy⟩) := fun z hz => other_sum x.bs ⟨px, py⟩ R R1 R2 zx zy z hR1 hR2 hzx hzy hz
  have HI : Hid (PtIn64 ⟨zx, zy⟩) := ⟨iz, iy⟩
  have hq := h.lt
  have kf : Hid (∀ (z : Int) (W : World), Rs x q W R2 → (∀ s, R1 = .ok s → z = s.at') → Calls Tryz.prog 81 #[.pointer (some ⟨q, 0, none⟩), .int .i64 z, .iface 173 (.pointer (some (x.A (perm 4))))] W fun e w' => e = .returned (.tuple #[]) ∧ Rs x q w' (fails R2 (4, z.toNat)) ∧ Mk q W w') := fun z W hW hz => fail_any x q R2 z 4 (by omega) W hW (fun s e => by
    obtain ⟨s1, k, e1, e2⟩ := part_keep hb (hR2.trans e)
    have := hz s1 e1
    omega)
  generalize run (DP.other x.bs ⟨px, py⟩) R = RP at HP ⊢
  have h0 := hid'' h
  clear hr1 hb hR1 hR2 hzx hzy iz iy h z64
  by_cases ex : zx = px
  · subst ex
    by_cases ey : zy = py
    · subst ey
      go_enter Tryz.func110, Tryz.ntmps110
      go_upto_if 19 with (first
        | (go_at_call 118; refine (k2.out _ (H1.out.1.below ((Below.refl _ _).alloc (Nat.le_refl _) _))).mono ?_; rintro e w2 ⟨rfl, h2⟩
           have H2 := hid'' h2
           clear h2
           have hq2 : q < w2.heap.size := H2.out.1.lt
           have hlt2 : w1.heap.size < w2.heap.size := by have := H2.out.2.size; simp at this; omega
           have A2 : Blk w2 w.heap.size 57 #[.int .i64 zx, .int .i64 zy] := (A1.alloc _).mk H2.out.2 (by omega)
           have B2 : Blk w2 (w.heap.size + 1) 57 #[.int .i64 0, .int .i64 0] := (B1.alloc _).mk H2.out.2 (by omega)
           have C2 : Blk w2 w1.heap.size 57 #[.int .i64 zx, .int .i64 0] := (blk_new w1 _ _).mk H2.out.2 (by omega)
           have a0 := A2.cell 0
           have a1 := A2.cell 1
           have c0 := C2.cell 0
           have c1 := C2.cell 1
           have g1 := C2.frozen 1
           simp at a0 a1 c0 c1)
        | (go_at_call 118; refine (k1.out _ (((Below.refl _ _).alloc (Nat.le_refl _) _).alloc (by simp) _)).mono ?_; rintro e w1 ⟨rfl, h1⟩
           have H1 := hid'' h1
           clear h1
           have hlt1 : w.heap.size + 2 ≤ w1.heap.size := by have := H1.out.2.size; simp at this; omega
           have hq1 : q < w1.heap.size := H1.out.1.lt
           obtain ⟨z, hz, hz2⟩ := H1.out.1.atCell
           have HZ := hid'' hz2
           clear hz2
           have A1 : Blk w1 w.heap.size 57 #[.int .i64 zx, .int .i64 zy] := Blk.mk (two_boxes w _ _ _ _).1 H1.out.2 (by omega)
           have B1 : Blk w1 (w.heap.size + 1) 57 #[.int .i64 0, .int .i64 0] := Blk.mk (two_boxes w _ _ _ _).2 H1.out.2 (by omega)))
      obtain ⟨W3, hW3⟩ : ∃ W3, w2.setCell ⟨w1.heap.size, 1, none⟩ (.int .i64 zy) = W3 := ⟨_, rfl⟩
      have RW : Rs x q W3 R2 := by rw [← hW3]; exact H2.out.1.far (p := ⟨w1.heap.size, 1, none⟩) (by show q < w1.heap.size; omega) C2 (by decide) (by decide) _
      have BW : Blk W3 (w.heap.size + 1) 57 #[.int .i64 0, .int .i64 0] := by rw [← hW3]; exact B2.far (p := ⟨w1.heap.size, 1, none⟩) (by show w.heap.size + 1 ≠ w1.heap.size; omega) _
      have CW : Blk W3 w1.heap.size 57 #[.int .i64 zx, .int .i64 zy] := by rw [← hW3]; exact C2.set (j := 1) _
      have MW : Mk q w W3 := by
        rw [← hW3]
        have m1 : Mk q w w1 := (Mk.below (((Below.refl w.heap.size w).alloc (Nat.le_refl _) (Obj.cells #[.int .i64 zx, .int .i64 zy] 57)).alloc (by simp) (Obj.cells #[.int .i64 0, .int .i64 0] 57))).trans H1.out.2
        exact ((m1.alloc _).trans H2.out.2).set (p := ⟨w1.heap.size, 1, none⟩) (by show w.heap.size ≤ w1.heap.size; omega) _
      have eR := RW.base.range
      have hqW := RW.lt
      have hc1 : w1.heap.size < W3.heap.size := CW.lt
      rw [hW3]
      have RW' := hid'' RW
      have MW' := hid'' MW
      clear hW3 RW MW A1 A2 B1 B2 C2 a0 a1 c0 c1 g1 hz
      go_wp2_with (go_at_call 81; refine (kf.out z _ RW'.out HZ.out).mono ?_; rintro e w3 ⟨rfl, h3⟩
                   have H3 := hid'' h3
                   clear h3
                   have B3 := BW.mk H3.out.2 (by omega)
                   have C3 := CW.mk H3.out.2 (by omega)
                   have d0 := C3.cell 0
                   have d1 := C3.cell 1
                   have b0 := B3.cell 0
                   have b1 := B3.cell 1
                   have f0 := B3.frozen 0
                   have f1 := B3.frozen 1
                   simp at d0 d1 b0 b1)
      refine bodyPost_ret (v := .agg #[.int .i64 zx, .int .i64 zy]) (by simp [results, Tryz.results110, go_sem, B3.got 0 (by simp) (.int .i64 zx), (B3.set (j := 0) (.int .i64 zx)).got 1 (by simp) (.int .i64 zy)]) rfl ⟨⟨zx, zy⟩, rfl, HI.out, (HP.out z HZ.out).2, ?_, ?_⟩
      · rw [(HP.out z HZ.out).1, if_pos (by simp)]
        exact (H3.out.1.far (p := ⟨w.heap.size + 1, 0, none⟩) (by show q < w.heap.size + 1; omega) B3 (by decide) (by decide) (.int .i64 zx)).far (p := ⟨w.heap.size + 1, 1, none⟩) (by show q < w.heap.size + 1; omega) (B3.set (j := 0) _) (by decide) (by decide) (.int .i64 zy)
      · exact ((MW'.out.trans H3.out.2).set (p := ⟨w.heap.size + 1, 0, none⟩) (by show w.heap.size ≤ w.heap.size + 1; omega) _).set (p := ⟨w.heap.size + 1, 1, none⟩) (by show w.heap.size ≤ w.heap.size + 1; omega) _
    · have ey' : (zy == py) = false := by simpa using ey
      have HN : Hid (¬ zy = py) := ey
      go_enter Tryz.func110, Tryz.ntmps110
      go_upto_if 19 with (first
        | (go_at_call 118; refine (k2.out _ (H1.out.1.below ((Below.refl _ _).alloc (Nat.le_refl _) _))).mono ?_; rintro e w2 ⟨rfl, h2⟩
           have H2 := hid'' h2
           clear h2
           have hq2 : q < w2.heap.size := H2.out.1.lt
           have hlt2 : w1.heap.size < w2.heap.size := by have := H2.out.2.size; simp at this; omega
           have A2 : Blk w2 w.heap.size 57 #[.int .i64 zx, .int .i64 py] := (A1.alloc _).mk H2.out.2 (by omega)
           have B2 : Blk w2 (w.heap.size + 1) 57 #[.int .i64 0, .int .i64 0] := (B1.alloc _).mk H2.out.2 (by omega)
           have C2 : Blk w2 w1.heap.size 57 #[.int .i64 zx, .int .i64 0] := (blk_new w1 _ _).mk H2.out.2 (by omega)
           have a0 := A2.cell 0
           have a1 := A2.cell 1
           have c0 := C2.cell 0
           have c1 := C2.cell 1
           have g1 := C2.frozen 1
           simp at a0 a1 c0 c1)
        | (go_at_call 118; refine (k1.out _ (((Below.refl _ _).alloc (Nat.le_refl _) _).alloc (by simp) _)).mono ?_; rintro e w1 ⟨rfl, h1⟩
           have H1 := hid'' h1
           clear h1
           have hlt1 : w.heap.size + 2 ≤ w1.heap.size := by have := H1.out.2.size; simp at this; omega
           have hq1 : q < w1.heap.size := H1.out.1.lt
           obtain ⟨z, hz, hz2⟩ := H1.out.1.atCell
           have HZ := hid'' hz2
           clear hz2
           have A1 : Blk w1 w.heap.size 57 #[.int .i64 zx, .int .i64 py] := Blk.mk (two_boxes w _ _ _ _).1 H1.out.2 (by omega)
           have B1 : Blk w1 (w.heap.size + 1) 57 #[.int .i64 0, .int .i64 0] := Blk.mk (two_boxes w _ _ _ _).2 H1.out.2 (by omega)))
      obtain ⟨W3, hW3⟩ : ∃ W3, w2.setCell ⟨w1.heap.size, 1, none⟩ (.int .i64 zy) = W3 := ⟨_, rfl⟩
      have RW : Rs x q W3 R2 := by rw [← hW3]; exact H2.out.1.far (p := ⟨w1.heap.size, 1, none⟩) (by show q < w1.heap.size; omega) C2 (by decide) (by decide) _
      have BW : Blk W3 (w.heap.size + 1) 57 #[.int .i64 0, .int .i64 0] := by rw [← hW3]; exact B2.far (p := ⟨w1.heap.size, 1, none⟩) (by show w.heap.size + 1 ≠ w1.heap.size; omega) _
      have CW : Blk W3 w1.heap.size 57 #[.int .i64 zx, .int .i64 zy] := by rw [← hW3]; exact C2.set (j := 1) _
      have MW : Mk q w W3 := by
        rw [← hW3]
        have m1 : Mk q w w1 := (Mk.below (((Below.refl w.heap.size w).alloc (Nat.le_refl _) (Obj.cells #[.int .i64 zx, .int .i64 py] 57)).alloc (by simp) (Obj.cells #[.int .i64 0, .int .i64 0] 57))).trans H1.out.2
        exact ((m1.alloc _).trans H2.out.2).set (p := ⟨w1.heap.size, 1, none⟩) (by show w.heap.size ≤ w1.heap.size; omega) _
      have eR := RW.base.range
      have hqW := RW.lt
      have hc1 : w1.heap.size < W3.heap.size := CW.lt
      rw [hW3]
      have RW' := hid'' RW
      have MW' := hid'' MW
      clear hW3 RW MW A1 A2 B1 B2 C2 a0 a1 c0 c1 g1 hz
      have d0 := CW.cell 0
      have d1 := CW.cell 1
      have b0 := BW.cell 0
      have b1 := BW.cell 1
      have f0 := BW.frozen 0
      have f1 := BW.frozen 1
      simp at d0 d1 b0 b1
      go_wp2
      refine bodyPost_ret (v := .agg #[.int .i64 zx, .int .i64 zy]) (by simp [results, Tryz.results110, go_sem, BW.got 0 (by simp) (.int .i64 zx), (BW.set (j := 0) (.int .i64 zx)).got 1 (by simp) (.int .i64 zy)]) rfl ⟨⟨zx, zy⟩, rfl, HI.out, (HP.out z HZ.out).2, ?_, ?_⟩
      · rw [(HP.out z HZ.out).1, if_neg (fun h => HN.out h.2.symm)]
        exact (RW'.out.far (p := ⟨w.heap.size + 1, 0, none⟩) (by show q < w.heap.size + 1; omega) BW (by decide) (by decide) (.int .i64 zx)).far (p := ⟨w.heap.size + 1, 1, none⟩) (by show q < w.heap.size + 1; omega) (BW.set (j := 0) _) (by decide) (by decide) (.int .i64 zy)
      · exact (MW'.out.set (p := ⟨w.heap.size + 1, 0, none⟩) (by show w.heap.size ≤ w.heap.size + 1; omega) _).set (p := ⟨w.heap.size + 1, 1, none⟩) (by show w.heap.size ≤ w.heap.size + 1; omega) _
  · have ex' : (zx == px) = false := by simpa using ex
    have HN : Hid (¬ zx = px) := ex
    go_enter Tryz.func110, Tryz.ntmps110
    go_upto_if 19 with (first
      | (go_at_call 118; refine (k2.out _ (H1.out.1.below ((Below.refl _ _).alloc (Nat.le_refl _) _))).mono ?_; rintro e w2 ⟨rfl, h2⟩
         have H2 := hid'' h2
         clear h2
         have hq2 : q < w2.heap.size := H2.out.1.lt
         have hlt2 : w1.heap.size < w2.heap.size := by have := H2.out.2.size; simp at this; omega
         have A2 : Blk w2 w.heap.size 57 #[.int .i64 px, .int .i64 py] := (A1.alloc _).mk H2.out.2 (by omega)
         have B2 : Blk w2 (w.heap.size + 1) 57 #[.int .i64 0, .int .i64 0] := (B1.alloc _).mk H2.out.2 (by omega)
         have C2 : Blk w2 w1.heap.size 57 #[.int .i64 zx, .int .i64 0] := (blk_new w1 _ _).mk H2.out.2 (by omega)
         have a0 := A2.cell 0
         have a1 := A2.cell 1
         have c0 := C2.cell 0
         have c1 := C2.cell 1
         have g1 := C2.frozen 1
         simp at a0 a1 c0 c1)
      | (go_at_call 118; refine (k1.out _ (((Below.refl _ _).alloc (Nat.le_refl _) _).alloc (by simp) _)).mono ?_; rintro e w1 ⟨rfl, h1⟩
         have H1 := hid'' h1
         clear h1
         have hlt1 : w.heap.size + 2 ≤ w1.heap.size := by have := H1.out.2.size; simp at this; omega
         have hq1 : q < w1.heap.size := H1.out.1.lt
         obtain ⟨z, hz, hz2⟩ := H1.out.1.atCell
         have HZ := hid'' hz2
         clear hz2
         have A1 : Blk w1 w.heap.size 57 #[.int .i64 px, .int .i64 py] := Blk.mk (two_boxes w _ _ _ _).1 H1.out.2 (by omega)
         have B1 : Blk w1 (w.heap.size + 1) 57 #[.int .i64 0, .int .i64 0] := Blk.mk (two_boxes w _ _ _ _).2 H1.out.2 (by omega)))
    obtain ⟨W3, hW3⟩ : ∃ W3, w2.setCell ⟨w1.heap.size, 1, none⟩ (.int .i64 zy) = W3 := ⟨_, rfl⟩
    have RW : Rs x q W3 R2 := by rw [← hW3]; exact H2.out.1.far (p := ⟨w1.heap.size, 1, none⟩) (by show q < w1.heap.size; omega) C2 (by decide) (by decide) _
    have BW : Blk W3 (w.heap.size + 1) 57 #[.int .i64 0, .int .i64 0] := by rw [← hW3]; exact B2.far (p := ⟨w1.heap.size, 1, none⟩) (by show w.heap.size + 1 ≠ w1.heap.size; omega) _
    have CW : Blk W3 w1.heap.size 57 #[.int .i64 zx, .int .i64 zy] := by rw [← hW3]; exact C2.set (j := 1) _
    have MW : Mk q w W3 := by
      rw [← hW3]
      have m1 : Mk q w w1 := (Mk.below (((Below.refl w.heap.size w).alloc (Nat.le_refl _) (Obj.cells #[.int .i64 px, .int .i64 py] 57)).alloc (by simp) (Obj.cells #[.int .i64 0, .int .i64 0] 57))).trans H1.out.2
      exact ((m1.alloc _).trans H2.out.2).set (p := ⟨w1.heap.size, 1, none⟩) (by show w.heap.size ≤ w1.heap.size; omega) _
    have eR := RW.base.range
    have hqW := RW.lt
    have hc1 : w1.heap.size < W3.heap.size := CW.lt
    rw [hW3]
    have RW' := hid'' RW
    have MW' := hid'' MW
    clear hW3 RW MW A1 A2 B1 B2 C2 a0 a1 c0 c1 g1 hz
    have d0 := CW.cell 0
    have d1 := CW.cell 1
    have b0 := BW.cell 0
    have b1 := BW.cell 1
    have f0 := BW.frozen 0
    have f1 := BW.frozen 1
    simp at d0 d1 b0 b1
    go_wp2
    refine bodyPost_ret (v := .agg #[.int .i64 zx, .int .i64 zy]) (by simp [results, Tryz.results110, go_sem, BW.got 0 (by simp) (.int .i64 zx), (BW.set (j := 0) (.int .i64 zx)).got 1 (by simp) (.int .i64 zy)]) rfl ⟨⟨zx, zy⟩, rfl, HI.out, (HP.out z HZ.out).2, ?_, ?_⟩
    · rw [(HP.out z HZ.out).1, if_neg (fun h => HN.out h.1.symm)]
      exact (RW'.out.far (p := ⟨w.heap.size + 1, 0, none⟩) (by show q < w.heap.size + 1; omega) BW (by decide) (by decide) (.int .i64 zx)).far (p := ⟨w.heap.size + 1, 1, none⟩) (by show q < w.heap.size + 1; omega) (BW.set (j := 0) _) (by decide) (by decide) (.int .i64 zy)
    · exact (MW'.out.set (p := ⟨w.heap.size + 1, 0, none⟩) (by show w.heap.size ≤ w.heap.size + 1; omega) _).set (p := ⟨w.heap.size + 1, 1, none⟩) (by show w.heap.size ≤ w.heap.size + 1; omega) _

end Go.Proofs.YtcnlkdoifogkbaaGreatDoor

/-
  Check of package icon, walked over the program.
-/
import Derived.Deep.Cut
import Derived.Test.YtcnlkdoifogkbaaGreatDoorIconCmd
import Derived.Test.YtcnlkdoifogkbaaGreatDoorIconPts
import Derived.Test.YtcnlkdoifogkbaaGreatDoorIconUsed
namespace Go.Proofs.YtcnlkdoifogkbaaGreatDoor
open Go.RowKit

theorem firstOf_zero {α : Type} (f : α → Nat) (l : List α) (h : IC.firstOf f l = 0) : ∀ x ∈ l, f x = 0 := by
  induction l with
  | nil => intro x hx; cases hx
  | cons y r ih =>
    unfold IC.firstOf at h
    split at h
    · rename_i h0
      intro x hx
      rcases List.mem_cons.1 hx with rfl | hx
      · exact h0
      · exact ih h x hx
    · exact absurd h (by assumption)

theorem cmd_zero {far n : Int} {c : IC.Cmd} (h : IC.chkCmd far n c = 0) : c.paths.length ≤ 200 ∧ ∀ p ∈ c.paths, p.segs.length ≤ 400 := by
  unfold IC.chkCmd at h
  split at h; · cases h
  split at h; · exact absurd h (by assumption)
  split at h; · cases h
  split at h; · cases h
  refine ⟨by omega, fun p hp => ?_⟩
  have h1 := firstOf_zero _ _ h p hp
  unfold IC.chkOne at h1
  split at h1; · cases h1
  unfold IC.chkPath at h1
  split at h1; · cases h1
  split at h1; · cases h1
  omega

theorem greatest_le (i : IC.Icon) : 0 ≤ IC.greatest i ∧ IC.greatest i ≤ 1048576 := by
  unfold IC.greatest
  split
  · rename_i h
    unfold IC.sized IC.within at h
    simp only [Bool.and_eq_true, decide_eq_true_eq] at h
    obtain ⟨⟨w1, w2⟩, ⟨h1, h2⟩, s1, s2⟩ := h
    have h3 : 1 ≤ max i.w i.h ∧ max i.w i.h ≤ 4096 := by rw [Int.max_def]; split <;> omega
    have hs : i.s.toNat = 0 ∨ i.s.toNat = 1 ∨ i.s.toNat = 2 ∨ i.s.toNat = 3 ∨ i.s.toNat = 4 ∨ i.s.toNat = 5 ∨ i.s.toNat = 6 := by omega
    generalize max i.w i.h = m at h3
    rcases hs with e | e | e | e | e | e | e <;> rw [e] <;> simp only [Int.reducePow] <;> omega
  · omega

/-- Behind the head of Check: the bounds lie in a block of their own. -/
def BoundsAt (w1 : World) (far : Int) (n : Nat) (s : Value) (x : World) : Prop :=
  ∃ b, s = .pointer (some ⟨b, 0, none⟩) ∧ w1.heap.size ≤ b ∧ b < x.heap.size ∧ x.cell? ⟨b, 0, none⟩ = some (.int .i64 far) ∧ x.cell? ⟨b, 1, none⟩ = some (.int .i64 n) ∧ Below w1.heap.size w1 x

theorem bounds_a {w1 w2 : World} {far : Int} {n : Nat} (hb : Below w1.drew.heap.size w1.drew w2) : BoundsAt w1 far n (.pointer (some ⟨w2.heap.size, 0, none⟩)) (w2.alloc (.cells #[.int .i64 far, .int .i64 n] 107)) :=
  ⟨w2.heap.size, rfl, hb.size, by simp, by rw [cell_new]; rfl, by rw [cell_new]; rfl, chain (below_of_drew hb) ((Below.refl _ _).alloc (Nat.le_refl _) _)⟩

theorem bounds_b {w1 w2 : World} {far : Int} {n : Nat} (hb : Below (w1.alloc (.cells #[.int .i64 0, .int .i64 0] 107)).drew.heap.size (w1.alloc (.cells #[.int .i64 0, .int .i64 0] 107)).drew w2) :
    BoundsAt w1 far n (.pointer (some ⟨w1.heap.size, 0, none⟩)) ((w2.setCell ⟨w1.heap.size, 0, none⟩ (.int .i64 far)).setCell ⟨w1.heap.size, 1, none⟩ (.int .i64 n)) := by
  have h0 := below_of_drew hb
  have hz : w1.heap.size < w2.heap.size := by have := h0.size; simp at this; omega
  have c0 : w2.cell? ⟨w1.heap.size, 0, none⟩ = some (.int .i64 0) := by rw [h0.cell (p := ⟨w1.heap.size, 0, none⟩) (by simp), cell_new]; rfl
  have c1 : w2.cell? ⟨w1.heap.size, 1, none⟩ = some (.int .i64 0) := by rw [h0.cell (p := ⟨w1.heap.size, 1, none⟩) (by simp), cell_new]; rfl
  refine ⟨w1.heap.size, rfl, Nat.le_refl _, by simp; exact hz, ?_, ?_, ?_⟩
  · rw [World.cell?_setCell_other (h := by simp)]
    exact World.cell?_setCell_same _ _ _ c0
  · refine World.cell?_setCell_same _ _ _ (?_ : _ = some (.int .i64 0))
    rw [World.cell?_setCell_other (h := by simp)]
    exact c1
  · exact ((chain ((Below.refl _ _).alloc (Nat.le_refl _) _) h0).setCell (p := ⟨w1.heap.size, 0, none⟩) (Nat.le_refl _) _).setCell (p := ⟨w1.heap.size, 1, none⟩) (Nat.le_refl _) _

theorem five_below {W W' : World} {b : Nat} {v0 v1 v2 v3 v4 : Value} (h : W.cell? ⟨b, 0, none⟩ = some v0 ∧ W.cell? ⟨b, 1, none⟩ = some v1 ∧ W.cell? ⟨b, 2, none⟩ = some v2 ∧ W.cell? ⟨b, 3, none⟩ = some v3 ∧ W.cell? ⟨b, 4, none⟩ = some v4) {B : Nat} (hb : Below B W W') (hz : b < B) :
    W'.cell? ⟨b, 0, none⟩ = some v0 ∧ W'.cell? ⟨b, 1, none⟩ = some v1 ∧ W'.cell? ⟨b, 2, none⟩ = some v2 ∧ W'.cell? ⟨b, 3, none⟩ = some v3 ∧ W'.cell? ⟨b, 4, none⟩ = some v4 := by
  have c := fun j => hb.cell (p := ⟨b, j, none⟩) hz
  rw [c, c, c, c, c]
  exact h

set_option maxRecDepth 20000 in
set_option maxHeartbeats 2000000 in
theorem check_any (A : Nat → Addr) (i : IC.Icon) (w : World) (hE : Errs3 w A) (hi : IconOk w i) :
    Calls Tryz.prog 27 #[.agg i.cells.toArray] w fun e w' => e = .returned (errv A (IC.chk i)) ∧ Below w.heap.size w w' := by
  have ks : Hid (∀ w, Calls Tryz.prog 43 #[.agg i.cells.toArray] w fun e w' => e = .returned (.bool (IC.sized i)) ∧ Below w.heap.size w w') := fun w => sized_any i w
  have kg : Hid (∀ w, Calls Tryz.prog 44 #[.agg i.cells.toArray] w fun e w' => e = .returned (.int .i64 (IC.greatest i)) ∧ Below w.heap.size w w') := fun w => greatest_any i w
  have hgl := greatest_le i
  have hchk : IC.chk i = if !IC.sized i then 1 else if 256 < i.cols.length ∨ 200 < i.cmds.length then 2
    else if IC.firstOf (IC.chkCmd (IC.greatest i) i.cols.length) i.cmds ≠ 0 then IC.firstOf (IC.chkCmd (IC.greatest i) i.cols.length) i.cmds
    else if 4000 < IC.points i then 2
    else if IC.twinsFrom [] i.cols || !decide (IC.usedFrom 0 i.cmds = some (i.cols.length : Int)) then 3 else 0 := rfl
  have HI : Hid (IconOk w i) := hi
  have HE : Hid (Errs3 w A) := hE
  have e0 := hE.c0
  have s0 := hE.s0
  have p0 := hE.pos
  have e1 := hE.c1
  have s1 := hE.s1
  have e2 := hE.c2
  have s2 := hE.s2
  generalize IC.greatest i = far at kg hchk hgl
  rw [hchk]; clear hchk hi hE
  obtain ⟨P, hP⟩ : ∃ P, IC.points i = P := ⟨_, rfl⟩
  obtain ⟨iw, ih, is, vc, cols, vm, cmds⟩ := i
  obtain ⟨ad, cap, hv, hl1, hl2⟩ := Many.len HI.out.2.1
  obtain ⟨adc, capc, hvc, hc1, hc2⟩ := Many.len HI.out.1
  unfold maxLen at hl2 hc2
  simp only [IC.Icon.cells] at ks kg ⊢
  replace hv : vm = .slice ad cmds.length cap := hv
  replace hl1 : cmds.length ≤ cap := hl1
  replace hvc : vc = .slice adc cols.length capc := hvc
  replace hc1 : cols.length ≤ capc := hc1
  obtain ⟨L, hL⟩ : ∃ L, cmds.length = L := ⟨_, rfl⟩
  have HL : Hid (cmds.length = L) := hL
  obtain ⟨C, hC⟩ : ∃ C, cols.length = C := ⟨_, rfl⟩
  have HC : Hid (cols.length = C) := hC
  rw [hL] at hv hl1
  rw [hC] at hvc hc1
  subst hv
  subst hvc
  rw [hL, hC]
  clear hL hC
  have B0 : Hid (∀ o, Below w.heap.size w (w.alloc o)) := fun o => (Below.refl _ _).alloc (by omega) _
  cases hs : IC.sized ⟨iw, ih, is, .slice adc C capc, cols, .slice ad L cap, cmds⟩
  · rw [hs] at ks
    go_enter Tryz.func27, Tryz.ntmps27
    go_wp2_with (go_at_call 43; refine (ks.out _).mono ?_; rintro e w1 ⟨rfl, hb1⟩; have B1 : Hid (Below _ _ w1) := hb1; obtain ⟨p1, r1⟩ := boxes1 hb1; clear hb1)
    go_ret
    exact ⟨ret_v (by simp [errv]), chain (B0.out _) B1.out⟩
  rw [hs] at ks
  clear hs
  by_cases h1 : 256 < C
  · have hx : (256 : Int) < C := by omega
    go_enter Tryz.func27, Tryz.ntmps27
    go_wp2_with (go_at_call 43; refine (ks.out _).mono ?_; rintro e w1 ⟨rfl, hb1⟩; have B1 : Hid (Below _ _ w1) := hb1; obtain ⟨p1, r1⟩ := boxes1 hb1; clear hb1)
    go_ret
    exact ⟨ret_v (by simp [errv]), chain (B0.out _) B1.out⟩
  have hx : ¬ (256 : Int) < C := by omega
  by_cases h2 : 200 < L
  · have hy : (200 : Int) < L := by omega
    go_enter Tryz.func27, Tryz.ntmps27
    go_wp2_with (go_at_call 43; refine (ks.out _).mono ?_; rintro e w1 ⟨rfl, hb1⟩; have B1 : Hid (Below _ _ w1) := hb1; obtain ⟨p1, r1⟩ := boxes1 hb1; clear hb1)
    go_ret
    exact ⟨ret_v (by simp [errv]), chain (B0.out _) B1.out⟩
  have hy : ¬ (200 : Int) < L := by omega
  have hif : (if (!true) = true then 1 else if 256 < C ∨ 200 < L then 2
    else if IC.firstOf (IC.chkCmd far C) cmds ≠ 0 then IC.firstOf (IC.chkCmd far C) cmds
    else if 4000 < IC.points ⟨iw, ih, is, .slice adc C capc, cols, .slice ad L cap, cmds⟩ then 2
    else if IC.twinsFrom [] cols || !decide (IC.usedFrom 0 cmds = some (C : Int)) then 3 else 0) = if IC.firstOf (IC.chkCmd far C) cmds ≠ 0 then IC.firstOf (IC.chkCmd far C) cmds
    else if 4000 < P then 2
    else if IC.twinsFrom [] cols || !decide (IC.usedFrom 0 cmds = some (C : Int)) then 3 else 0 := by rw [← hP]; simp [h1, h2]
  rw [hif]; clear hif
  obtain ⟨R, hR⟩ : ∃ R, IC.firstOf (IC.chkCmd far C) cmds = R := ⟨_, rfl⟩
  rw [hR]
  have HP : Hid (IC.points ⟨iw, ih, is, .slice adc C capc, cols, .slice ad L cap, cmds⟩ = P) := hP
  have HR : Hid (IC.firstOf (IC.chkCmd far C) (cmds.drop 0) = R) := by rw [List.drop_zero]; exact hR
  clear hR hP
  obtain ⟨Z, hZ⟩ : ∃ Z, (if R ≠ 0 then R else if 4000 < P then 2 else if IC.twinsFrom [] cols || !decide (IC.usedFrom 0 cmds = some (C : Int)) then 3 else 0) = Z := ⟨_, rfl⟩
  rw [hZ]
  have HZ : Hid (Z = if R ≠ 0 then R else if 4000 < P then 2 else if IC.twinsFrom [] cols || !decide (IC.usedFrom 0 cmds = some (C : Int)) then 3 else 0) := hZ.symm
  clear hZ
  go_enter Tryz.func27, Tryz.ntmps27
  go_wp2_with (go_at_call 43; refine (ks.out _).mono ?_; rintro e w1 ⟨rfl, hb1⟩; have B1 : Hid (Below _ _ w1) := hb1; obtain ⟨p1, r1⟩ := boxes1 hb1; have z1 := sizes1 hb1; clear hb1)
  go_cut [3] from 22 (fun s x => BoundsAt w1 far C s x)
  case first =>
    clear r1
    have q0 := p1 0
    have q1 := p1 1
    have q2 := p1 2
    have q3 := p1 3
    have q4 := p1 4
    simp at q0 q1 q2 q3 q4
    have H1 : Hid (_ ∧ _ ∧ _ ∧ _ ∧ _) := ⟨q0, q1, q2, q3, q4⟩
    clear p1 q0 q1 q2 q3 q4
    go_region_held3 (fun W => W.cell? ⟨w.heap.size, 0, none⟩ = some (.int .i64 iw) ∧ W.cell? ⟨w.heap.size, 1, none⟩ = some (.int .i64 ih) ∧ W.cell? ⟨w.heap.size, 2, none⟩ = some (.int .i64 is) ∧ W.cell? ⟨w.heap.size, 3, none⟩ = some (.slice adc C capc) ∧ W.cell? ⟨w.heap.size, 4, none⟩ = some (.slice ad L cap))
      (first
        | exact five_below H2.out ((Below.refl _ _).alloc (Nat.le_refl _) _) z2
        | exact five_below H2.out (((Below.refl (w.heap.size + 1) _).setCell (by simp; omega) _).setCell (by simp; omega) _) (by omega)
        | exact H2.out
        | exact five_below H1.out (((Below.refl _ _).drew).alloc (Nat.le_refl _) _) z1
        | exact five_below H1.out ((Below.refl _ _).drew) z1)
      (first
      | (go_at_call 44; refine (kg.out _).mono ?_; rintro e w2 ⟨rfl, hb2⟩; have B2 : Hid (Below _ _ w2) := hb2; have z2 : w.heap.size < w2.heap.size := by { have := hb2.size; simp at this; omega }; have H2 : Hid (_ ∧ _ ∧ _ ∧ _ ∧ _) := five_below ‹_› hb2 (by simp; omega); obtain ⟨hc2', hf2⟩ := bcell hb2))
    · go_wp2
      go_meet
      case rel => exact bounds_a B2.out
    · go_wp2
      go_meet
      case rel => exact bounds_b B2.out
  case rest =>
    obtain ⟨b, rfl, hb1, hb2, cb0, cb1, hbw⟩ := hcut
    have H1 : Hid (_ ∧ _ ∧ _ ∧ _ ∧ _) := five_below ⟨(p1 0).trans rfl, (p1 1).trans rfl, (p1 2).trans rfl, (p1 3).trans rfl, (p1 4).trans rfl⟩ hbw z1
    have BW : Hid (Below w.heap.size w wc) := chain (chain (B0.out _) B1.out) hbw
    have zc : w.heap.size < wc.heap.size := Nat.lt_of_lt_of_le z1 hbw.size
    clear p1 r1 hbw
    have e0 := (BW.out.cell (p := ⟨1, 0, none⟩) s0).trans e0
    have e1 := (BW.out.cell (p := ⟨0, 0, none⟩) s1).trans e1
    have e2 := (BW.out.cell (p := ⟨2, 0, none⟩) s2).trans e2
    obtain ⟨i0, i1, i2, i3, i4⟩ := H1.out
    go_wp2
    go_loopw [31] (fun i wr => ∃ k : Nat, k ≤ L ∧ i = .int .i64 k ∧ Hid (IC.firstOf (IC.chkCmd far C) (cmds.drop k) = R) ∧ Hid (Below wc.heap.size wc wr)) (fun i _ => L - (intOf i).toNat)
    case atStart => exact ⟨0, by omega, rfl, HR, Below.refl _ _⟩
    case round =>
      obtain ⟨k, hk, rfl, HK, HB⟩ := hrel
      clear i0 i1 i2 i3 i4
      have HS := HB.out.size
      have g0 := (HB.out.cell (p := ⟨1, 0, none⟩) (by show 1 < _; omega)).trans e0
      have g1 := (HB.out.cell (p := ⟨0, 0, none⟩) (by show 0 < _; omega)).trans e1
      have g2 := (HB.out.cell (p := ⟨2, 0, none⟩) (by show 2 < _; omega)).trans e2
      have gb0 := (HB.out.cell (p := ⟨b, 0, none⟩) hb2).trans cb0
      have gb1 := (HB.out.cell (p := ⟨b, 1, none⟩) hb2).trans cb1
      obtain ⟨i0, i1, i2, i3, i4⟩ := five_below H1.out HB.out zc
      clear e0 e1 e2 cb0 cb1
      have BR : Hid (Below w.heap.size w wr) := chain BW.out HB.out
      by_cases hkL : k < L
      · have hks : k < cmds.length := by rw [HL.out]; exact hkL
        obtain ⟨g, o, cap', hv', hg, -, -, hc⟩ := HI.out.2.1.at cmd_len k hks
        obtain ⟨rfl, -⟩ : ad = some ⟨g, o, none⟩ ∧ _ := by simpa using hv'
        clear hv'
        have hok := HI.out.2.2 cmds[k] (List.getElem_mem hks)
        obtain ⟨s, hs⟩ : ∃ s, cmds[k] = s := ⟨_, rfl⟩
        obtain ⟨ads, lens, caps, hvs⟩ : ∃ ads lens caps, s.vp = .slice ads lens caps := by rw [← hs]; obtain ⟨ads, caps, h, -, -⟩ := Many.len hok.1; exact ⟨_, _, _, h⟩
        have HK2 : Hid (R = if IC.chkCmd far C s = 0 then IC.firstOf (IC.chkCmd far C) (cmds.drop (k + 1)) else IC.chkCmd far C s) := by rw [← HK.out, IC.firstOf_drop _ _ _ hks, hs]; exact rfl
        replace hc : ∀ (j : Nat) (u : Value), (IC.Cmd.cells cmds[k])[j]? = some u → w.cell? ⟨g, o + (k * 11 + j), none⟩ = some u := hc
        rw [hs] at hc hok
        have kS : Hid (∀ W, Below w.heap.size w W → Calls Tryz.prog 45 #[.agg #[.int .i64 far, .int .i64 C], .agg s.cells.toArray] W fun e w' => e = .returned (errv A (IC.chkCmd far C s)) ∧ Below W.heap.size W w') := fun W hb => cmd_any A far C s W (HE.out.below hb) (by omega) (by omega) (hok.below hb)
        generalize IC.chkCmd far C s = X at kS HK2
        obtain ⟨ck, cr, cw, ⟨pk, pa, pb, ⟨px, py⟩, ⟨qx, qy⟩⟩, vp, paths⟩ := s
        obtain rfl : vp = .slice ads lens caps := hvs
        have c0 : wr.cell? ⟨g, o + k * 11, none⟩ = some (.int .i64 ck) := by rw [BR.out.cell (p := ⟨g, _, none⟩) hg]; exact hc 0 _ rfl
        have c1 : wr.cell? ⟨g, o + k * 11 + 1, none⟩ = some (.int .i64 cr) := by rw [BR.out.cell (p := ⟨g, _, none⟩) hg]; exact hc 1 _ rfl
        have c2 : wr.cell? ⟨g, o + k * 11 + 2, none⟩ = some (.int .i64 cw) := by rw [BR.out.cell (p := ⟨g, _, none⟩) hg]; exact hc 2 _ rfl
        have c3 : wr.cell? ⟨g, o + k * 11 + 3, none⟩ = some (.int .i64 pk) := by rw [BR.out.cell (p := ⟨g, _, none⟩) hg]; exact hc 3 _ rfl
        have c4 : wr.cell? ⟨g, o + k * 11 + 4, none⟩ = some (.int .i64 pa) := by rw [BR.out.cell (p := ⟨g, _, none⟩) hg]; exact hc 4 _ rfl
        have c5 : wr.cell? ⟨g, o + k * 11 + 5, none⟩ = some (.int .i64 pb) := by rw [BR.out.cell (p := ⟨g, _, none⟩) hg]; exact hc 5 _ rfl
        have c6 : wr.cell? ⟨g, o + k * 11 + 6, none⟩ = some (.int .i64 px) := by rw [BR.out.cell (p := ⟨g, _, none⟩) hg]; exact hc 6 _ rfl
        have c7 : wr.cell? ⟨g, o + k * 11 + 7, none⟩ = some (.int .i64 py) := by rw [BR.out.cell (p := ⟨g, _, none⟩) hg]; exact hc 7 _ rfl
        have c8 : wr.cell? ⟨g, o + k * 11 + 8, none⟩ = some (.int .i64 qx) := by rw [BR.out.cell (p := ⟨g, _, none⟩) hg]; exact hc 8 _ rfl
        have c9 : wr.cell? ⟨g, o + k * 11 + 9, none⟩ = some (.int .i64 qy) := by rw [BR.out.cell (p := ⟨g, _, none⟩) hg]; exact hc 9 _ rfl
        have c10 : wr.cell? ⟨g, o + k * 11 + 10, none⟩ = some (.slice ads lens caps) := by rw [BR.out.cell (p := ⟨g, _, none⟩) hg]; exact hc 10 _ rfl
        simp only [IC.Cmd.cells] at kS
        have zb : b < wr.heap.size := by omega
        have BX : Hid (∀ o, Below w.heap.size w (wr.alloc o)) := fun o => chain BR.out ((Below.refl _ _).alloc (by omega) _)
        clear hc hs hok
        by_cases hX : X = 0
        · subst hX
          go_wp2_with (go_at_call 45; refine (kS.out _ (BX.out _)).mono ?_; rintro e w3 ⟨rfl, hb3⟩; rw [errv0])
          go_roundw
          case rel => exact ⟨k + 1, by omega, by go_num, (HK2.out.trans (if_pos (by simp))).symm, chain (chain HB.out ((Below.refl _ _).alloc (by omega) _)) hb3⟩
          case measure => simp [intOf]; omega
        · rw [errv_pos A hX] at kS
          go_wp2_with (go_at_call 45; refine (kS.out _ (BX.out _)).mono ?_; rintro e w3 ⟨rfl, hb3⟩)
          go_ret
          exact ⟨ret_v (by have e := HK2.out.trans (if_neg hX); rw [HZ.out, e, if_pos hX, errv_pos A hX]; rfl), chain (BX.out _) hb3⟩
      · obtain rfl : k = L := by omega
        obtain rfl : R = 0 := by rw [← HK.out, List.drop_of_length_le (by rw [HL.out]; omega)]; exact rfl
        have HY : Hid (∀ c ∈ cmds, c.paths.length ≤ 200 ∧ ∀ p ∈ c.paths, p.segs.length ≤ 400) := fun c hc => cmd_zero (firstOf_zero _ _ HR.out c (by simpa using hc))
        have kP : Hid (∀ W, Below w.heap.size w W → Calls Tryz.prog 46 #[.agg #[.int .i64 iw, .int .i64 ih, .int .i64 is, .slice adc C capc, .slice ad k cap]] W fun e w' => e = .returned (.int .i64 P) ∧ Below W.heap.size W w') := fun W hb => by
          have := points_any ⟨iw, ih, is, .slice adc C capc, cols, .slice ad k cap, cmds⟩ W (HI.out.below hb) (by show cmds.length ≤ 1000; rw [HL.out]; omega) (fun c hc => Nat.le_trans (HY.out c hc).1 (by omega)) (fun c hc p hp => Nat.le_trans ((HY.out c hc).2 p hp) (by omega))
          rw [HP.out] at this
          exact this
        have kT : Hid (∀ W, Below w.heap.size w W → Calls Tryz.prog 47 #[.slice adc C capc] W fun e w' => e = .returned (.bool (IC.twinsFrom [] cols)) ∧ Below W.heap.size W w') := fun W hb => twins_any cols _ W (Row.below HI.out.1 hb)
        have kU : Hid (∀ W, Below w.heap.size w W → Calls Tryz.prog 48 #[.agg #[.int .i64 iw, .int .i64 ih, .int .i64 is, .slice adc C capc, .slice ad k cap]] W fun e w' => e = .returned (.bool (decide (IC.usedFrom 0 cmds = some (C : Int)))) ∧ Below W.heap.size W w') := fun W hb => by
          have := used_any ⟨iw, ih, is, .slice adc C capc, cols, .slice ad k cap, cmds⟩ W (HI.out.below hb) (by show cmds.length ≤ 1000000; rw [HL.out]; omega)
          have e : decide (IC.usedFrom 0 cmds = some (cols.length : Int)) = decide (IC.usedFrom 0 cmds = some (C : Int)) := by rw [HC.out]
          rw [← e]
          exact this
        generalize IC.twinsFrom [] cols = T at kT HZ
        generalize decide (IC.usedFrom 0 cmds = some (C : Int)) = U at kU HZ
        by_cases hP4 : 4000 < P
        · go_wp2_with (go_at_call 46; refine (kP.out _ BR.out).mono ?_; rintro e w3 ⟨rfl, hb3⟩; have B3 : Hid (Below w.heap.size w w3) := chain BR.out hb3; have j1 := (hb3.cell (p := ⟨0, 0, none⟩) (by show 0 < _; omega)).trans g1; clear hb3)
          all_goals
            go_ret
            exact ⟨ret_v (by rw [HZ.out]; simp [errv, hP4]), B3.out⟩
        · have HP5 : Hid (¬ 4000 < P) := hP4
          cases T <;> cases U <;>
          · go_wp2_with (first
              | (go_at_call 46; refine (kP.out _ BR.out).mono ?_; rintro e w3 ⟨rfl, hb3⟩; have B3 : Hid (Below w.heap.size w w3) := chain BR.out hb3; have HS3 := hb3.size; obtain ⟨j0, j1, j2, j3, j4⟩ := five_below ⟨i0, i1, i2, i3, i4⟩ hb3 (by omega); have m2 := (hb3.cell (p := ⟨2, 0, none⟩) (by show 2 < _; omega)).trans g2; clear hb3)
              | (go_at_call 47; refine (kT.out _ B3.out).mono ?_; rintro e w4 ⟨rfl, hb4⟩; have B4 : Hid (Below w.heap.size w w4) := chain B3.out hb4; have HS4 := hb4.size; obtain ⟨k0, k1, k2, k3, k4⟩ := five_below ⟨j0, j1, j2, j3, j4⟩ hb4 (by omega); have n2 := (hb4.cell (p := ⟨2, 0, none⟩) (by show 2 < _; omega)).trans m2; clear hb4)
              | (go_at_call 48; refine (kU.out _ B4.out).mono ?_; rintro e w5 ⟨rfl, hb5⟩; have B5 : Hid (Below w.heap.size w w5) := chain B4.out hb5; have o2 := (hb5.cell (p := ⟨2, 0, none⟩) (by show 2 < _; omega)).trans n2; clear hb5))
            all_goals
              go_ret
              exact ⟨ret_v (by rw [HZ.out, if_neg (by simp), if_neg (by have := HP5.out; omega)]; simp [errv]), by first | exact B5.out | exact B4.out⟩

theorem many_nil {α : Type} (w : World) (t : TypeId) (size : Nat) (f : α → List Value) : Many w t size f (.slice none 0 0) [] := ⟨by simp, .inl ⟨rfl, rfl⟩⟩

theorem icon_bare (w : World) (a b c : Int) : IconOk w ⟨a, b, c, .slice none 0 0, [], .slice none 0 0, []⟩ := ⟨many_nil _ _ _ _, many_nil _ _ _ _, fun _ h => absurd h (by simp)⟩

end Go.Proofs.YtcnlkdoifogkbaaGreatDoor

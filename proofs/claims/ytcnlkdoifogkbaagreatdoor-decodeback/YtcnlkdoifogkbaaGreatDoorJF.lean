import Derived.Test.YtcnlkdoifogkbaaGreatDoorEncNum
import Derived.Test.YtcnlkdoifogkbaaGreatDoorEncMem
import Derived.Test.YtcnlkdoifogkbaaGreatDoorIconCheck
/-
  A writer writes counts and points: walked over the program.
-/
namespace Go.Proofs.YtcnlkdoifogkbaaGreatDoor
open Go.RowKit

/-- A part of a point as it may be. -/
def PtB (p : IC.Pt) : Prop := (-1099511627776 ≤ p.x ∧ p.x ≤ 1099511627776) ∧ (-1099511627776 ≤ p.y ∧ p.y ≤ 1099511627776)

theorem len_l {a b : List Nat} {M : Nat} (h : (a ++ b).length ≤ M) : a.length ≤ M := by rw [List.length_append] at h; omega

theorem seven_cells {w : World} {b : Nat} {t : TypeId} {v0 v1 v2 v3 v4 v5 v6 : Value} (h : Blk w b t #[v0, v1, v2, v3, v4, v5, v6]) : w.cell? ⟨b, 0, none⟩ = some v0 ∧ w.cell? ⟨b, 1, none⟩ = some v1 ∧ w.cell? ⟨b, 2, none⟩ = some v2 ∧ w.cell? ⟨b, 3, none⟩ = some v3 ∧ w.cell? ⟨b, 4, none⟩ = some v4 ∧ w.cell? ⟨b, 5, none⟩ = some v5 ∧ w.cell? ⟨b, 6, none⟩ = some v6 :=
  ⟨h.cell 0, h.cell 1, h.cell 2, h.cell 3, h.cell 4, h.cell 5, h.cell 6⟩

theorem wcount_any (q : Nat) (bs : List Nat) (n : Nat) (w : World) (h : Wr w q bs) (hn : n ≤ 9223372036854775807) (hl : bs.length ≤ 100000000000000) :
    Calls Tryz.prog 49 #[.pointer (some ⟨q, 0, none⟩), .int .i64 n] w fun e w' => e = .returned (.tuple #[]) ∧ Wr w' q (bs ++ EP.num n) ∧ Wk q w w' := by
  have k := wnum_any q bs n w h (by omega) hl
  go_enter Tryz.func49, Tryz.ntmps49
  go_wp2_with (go_at_call 77; refine k.mono ?_; rintro e w1 ⟨rfl, h1, h2⟩)
  go_end0
  exact ⟨rfl, h1, h2⟩

set_option maxRecDepth 20000 in
theorem wpt_any (q : Nat) (bs : List Nat) (p : IC.Pt) (w : World) (h : Wr w q bs) (hp : PtB p ∨ (∃ o p', PtB o ∧ PtB p' ∧ p = ⟨p'.x - o.x, p'.y - o.y⟩)) (hl : (bs ++ EP.pt p).length ≤ 100000000000000) :
    Calls Tryz.prog 104 #[.pointer (some ⟨q, 0, none⟩), .agg p.cells.toArray] w fun e w' => e = .returned (.tuple #[]) ∧ Wr w' q (bs ++ EP.pt p) ∧ Wk q w w' := by
  obtain ⟨x, y⟩ := p
  have hb : (-9223372036854775808 ≤ x ∧ x ≤ 9223372036854775807) ∧ (-9223372036854775808 ≤ y ∧ y ≤ 9223372036854775807) := by
    rcases hp with hp | ⟨o, p', h1, h2, h3⟩
    · unfold PtB at hp; simp only at hp; omega
    · unfold PtB at h1 h2; simp at h3; omega
  have hq := h.lt
  have HW : Hid (Wr w q bs) := h
  have kx : Hid (∀ W, Calls Tryz.prog 116 #[.int .i64 x] W fun e w' => e = .returned (.int .u64 (EP.zig x)) ∧ ∃ m, w' = W.drewN m) := fun W => by have := zig_any x W hb.1.1 hb.1.2; rw [zig_nat] at this; exact this
  have ky : Hid (∀ W, Calls Tryz.prog 116 #[.int .i64 y] W fun e w' => e = .returned (.int .u64 (EP.zig y)) ∧ ∃ m, w' = W.drewN m) := fun W => by have := zig_any y W hb.2.1 hb.2.2; rw [zig_nat] at this; exact this
  have hl' : (bs ++ EP.zg x).length ≤ 100000000000000 := by unfold EP.pt at hl; rw [← List.append_assoc] at hl; exact len_l hl
  have kn : Hid (∀ W, Wr W q bs → Calls Tryz.prog 77 #[.pointer (some ⟨q, 0, none⟩), .int .u64 (EP.zig x)] W fun e w' => e = .returned (.tuple #[]) ∧ Wr w' q (bs ++ EP.zg x) ∧ Wk q W w') := fun W hW => wnum_any q bs _ W hW (zig_lt hb.1.1 hb.1.2) (len_l hl')
  have km : Hid (∀ W, Wr W q (bs ++ EP.zg x) → Calls Tryz.prog 77 #[.pointer (some ⟨q, 0, none⟩), .int .u64 (EP.zig y)] W fun e w' => e = .returned (.tuple #[]) ∧ Wr w' q (bs ++ EP.zg x ++ EP.zg y) ∧ Wk q W w') := fun W hW => wnum_any q _ _ W hW (zig_lt hb.2.1 hb.2.2) hl'
  have HE : Hid (bs ++ EP.pt ⟨x, y⟩ = bs ++ EP.zg x ++ EP.zg y) := by show _ = _; unfold EP.pt; rw [List.append_assoc]
  rw [HE.out]
  clear hl hl' HE h hp hb
  simp only [IC.Pt.cells]
  go_enter Tryz.func104, Tryz.ntmps104
  generalize EP.zig x = zx at kx kn
  generalize EP.zig y = zy at ky km
  go_wp2_with (first
    | (go_at_call 116; (with_reducible refine (kx.out _).mono ?_); rintro e w1 ⟨rfl, m1, rfl⟩)
    | (go_at_call 77; (with_reducible refine (kn.out _ ?_).mono ?_); (first | exact (HW.out.alloc _) | exact ((HW.out.alloc _).keep (below_drewN (Below.refl _ _) _))); rintro e w2 ⟨rfl, h2, hk2⟩
       have HW2 : Hid (Wr w2 q (bs ++ EP.zg x)) := h2
       have HK2 : Hid (Wk q w w2) := (((Wk.refl q w).alloc _).drewN _).trans hk2
       have hB2 : Blk w2 w.heap.size 57 #[.int .i64 x, .int .i64 y] := Blk.wk (show Blk ((w.alloc (.cells #[.int .i64 x, .int .i64 y] 57)).drewN m1) w.heap.size 57 #[.int .i64 x, .int .i64 y] from blk_new w 57 #[.int .i64 x, .int .i64 y]) hk2 (by omega) (by decide)
       obtain ⟨⟨d0, d1⟩, -⟩ := cells_two hB2
       have z2 := hB2.lt
       clear h2 hk2 hB2)
    | (go_at_call 116; (with_reducible refine (ky.out _).mono ?_); rintro e w3 ⟨rfl, m3, rfl⟩)
    | (go_at_call 77; (with_reducible refine (km.out _ ?_).mono ?_); (first | exact HW2.out | exact (HW2.out.keep (below_drewN (Below.refl _ _) _))); rintro e w4 ⟨rfl, h4, hk4⟩))
  go_end0
  exact ⟨rfl, h4, (HK2.out.drewN _).trans hk4⟩

end Go.Proofs.YtcnlkdoifogkbaaGreatDoor

/-
  A writer writes a segment's points, each told from the one ahead: walked over the program.
-/
namespace Go.Proofs.YtcnlkdoifogkbaaGreatDoor
open Go.RowKit

def SegB (s : IC.Seg) : Prop := (1 ≤ s.k ∧ s.k ≤ 3) ∧ PtB s.a ∧ PtB s.b ∧ PtB s.c

theorem way_drop {P : List IC.Pt} {k : Nat} {p : IC.Pt} (h : P[k]? = some p) (l : IC.Pt) : EP.way l (P.drop k) = EP.dpt l p ++ EP.way p (P.drop (k + 1)) ∧ EP.lastOf l (P.drop k) = EP.lastOf p (P.drop (k + 1)) := by
  obtain ⟨hk, rfl⟩ := List.getElem?_eq_some_iff.1 h
  rw [List.drop_eq_getElem_cons hk]
  exact ⟨rfl, rfl⟩

theorem prefix_len {cs x full : List Nat} {M : Nat} (h : cs ++ x = full) (hl : full.length ≤ M) : cs.length ≤ M := by rw [← h] at hl; exact len_l hl

theorem slice_pts (K : Nat) (hK : K ≤ 3) (b : Nat) (W : World) : (Instr.sliceAt 101 (.pointer (some ⟨b, 1, none⟩)) none (some (.int .i64 (K : Int))) none).run Tryz.prog W = .ok (.slice (some ⟨b, 1, none⟩) K 3) W := by
  have e : Tryz.prog.arrayLen 101 = 3 := by kernel_rfl
  have h := run_sliceAt_array_h (P := Tryz.prog) W 101 ⟨b, 1, none⟩ (by kernel_rfl) .i64 (K : Int) (by omega) (by rw [e]; omega)
  rw [h, e]
  simp [go_sem, slicedAt, Addr.add]

/-- What stands while a segment is written. -/
structure SgSt (w : World) (q : Nat) (full : List Nat) (P : List IC.Pt) (sb : Nat) (sv : Array Value) (e : IC.Pt) (k : Nat) (l : IC.Pt) (cs : List Nat) (W : World) : Prop where
  wr : Wr W q cs
  way : cs ++ EP.way l (P.drop k) = full
  last : EP.lastOf l (P.drop k) = e
  box : Blk W sb 103 sv
  at' : Blk W (sb + 1) 57 #[.int .i64 l.x, .int .i64 l.y]
  res : Blk W (sb + 1 + 1) 57 #[.int .i64 0, .int .i64 0]
  wk : Wk q w W

/-- A new point's box, a point written, its place kept. -/
theorem SgSt.step {w W w2 : World} {q : Nat} {full : List Nat} {P : List IC.Pt} {sb : Nat} {sv : Array Value} {e : IC.Pt} {k : Nat} {l p : IC.Pt} {cs : List Nat} (h : SgSt w q full P sb sv e k l cs W) (hp : P[k]? = some p) (hq : q < w.heap.size) (hsb : w.heap.size ≤ sb)
    (h2 : Wr w2 q (cs ++ EP.dpt l p)) (hk2 : Wk q (W.alloc (.cells #[.int .i64 p.x, .int .i64 p.y] 57)) w2) :
    SgSt w q full P sb sv e (k + 1) p (cs ++ EP.dpt l p) ((w2.setCell ⟨sb + 1, 0, none⟩ (.int .i64 p.x)).setCell ⟨sb + 1, 1, none⟩ (.int .i64 p.y)) := by
  obtain ⟨d1, d2⟩ := way_drop hp l
  have hw : Wk q w w2 := (h.wk.alloc _).trans hk2
  have e1 : Blk w2 sb 103 sv := (h.box.alloc _).wk hk2 (by omega) (by decide)
  have e2 : Blk w2 (sb + 1) 57 #[.int .i64 l.x, .int .i64 l.y] := (h.at'.alloc _).wk hk2 (by omega) (by decide)
  have e3 : Blk w2 (sb + 1 + 1) 57 #[.int .i64 0, .int .i64 0] := (h.res.alloc _).wk hk2 (by omega) (by decide)
  refine ⟨?_, ?_, ?_, ?_, ?_, ?_, ?_⟩
  · exact (h2.far (by show sb + 1 ≠ q; omega) (e2.cellsNot (by decide))).far (by show sb + 1 ≠ q; omega) ((e2.set (j := 0) _).cellsNot (by decide))
  · rw [← h.way, d1, List.append_assoc]
  · rw [← h.last, d2]
  · exact (e1.far (by show sb ≠ sb + 1; omega) _).far (by show sb ≠ sb + 1; omega) _
  · exact (e2.set (j := 0) _).set (j := 1) _
  · exact (e3.far (by show sb + 1 + 1 ≠ sb + 1; omega) _).far (by show sb + 1 + 1 ≠ sb + 1; omega) _
  · exact (hw.set (by show _ ≤ sb + 1; omega) _).set (by show _ ≤ sb + 1; omega) _

set_option maxRecDepth 20000 in
set_option maxHeartbeats 1000000 in
theorem wseg_any (q : Nat) (bs : List Nat) (s : IC.Seg) (o : IC.Pt) (w : World) (h : Wr w q bs) (hs : SegB s) (ho : PtB o) (hl : (bs ++ EP.way o (EP.ptsOf s)).length ≤ 100000000000000) :
    Calls Tryz.prog 106 #[.pointer (some ⟨q, 0, none⟩), .agg s.cells.toArray, .agg o.cells.toArray] w fun e w' => e = .returned (.agg (EP.lastOf o (EP.ptsOf s)).cells.toArray) ∧ Wr w' q (bs ++ EP.way o (EP.ptsOf s)) ∧ Wk q w w' := by
  obtain ⟨full, hF⟩ : ∃ f, bs ++ EP.way o (EP.ptsOf s) = f := ⟨_, rfl⟩
  obtain ⟨en, hE⟩ : ∃ f, EP.lastOf o (EP.ptsOf s) = f := ⟨_, rfl⟩
  obtain ⟨P, hP⟩ : ∃ P, EP.ptsOf s = P := ⟨_, rfl⟩
  rw [hF, hE]
  rw [hF] at hl
  rw [hP] at hF hE
  have kp : Hid (∀ W cs l p r, PtB l → PtB p → Wr W q cs → cs ++ (EP.dpt l p ++ r) = full → Calls Tryz.prog 104 #[.pointer (some ⟨q, 0, none⟩), .agg #[.int .i64 (p.x - l.x), .int .i64 (p.y - l.y)]] W fun e w' => e = .returned (.tuple #[]) ∧ Wr w' q (cs ++ EP.dpt l p) ∧ Wk q W w') := fun W cs l p r h1 h2 hW hf =>
    wpt_any q cs ⟨p.x - l.x, p.y - l.y⟩ W hW (.inr ⟨l, p, h1, h2, rfl⟩) (by rw [← hf, ← List.append_assoc] at hl; exact len_l hl)
  obtain ⟨⟨k1, k3⟩, pa, pb, pc⟩ := hs
  obtain ⟨sk, ⟨ax, ay⟩, ⟨bx, b_y⟩, ⟨cx, cy⟩⟩ := s
  simp only at k1 k3 pa pb pc
  obtain ⟨K, rfl⟩ : ∃ K : Nat, sk = (K : Int) := ⟨sk.toNat, by omega⟩
  have hK1 : 1 ≤ K := by omega
  have hK3 : K ≤ 3 := by omega
  have HP : Hid (∀ j : Nat, j < K → ∃ p : IC.Pt, P[j]? = some p ∧ PtB p ∧ ((j = 0 ∧ p = ⟨ax, ay⟩) ∨ (j = 1 ∧ p = ⟨bx, b_y⟩) ∨ (j = 2 ∧ p = ⟨cx, cy⟩))) := fun j hj => by
    have e : P = [⟨ax, ay⟩, ⟨bx, b_y⟩, ⟨cx, cy⟩].take K := by rw [← hP]; rfl
    have : j = 0 ∨ j = 1 ∨ j = 2 := by omega
    rw [e, List.getElem?_take, if_pos hj]
    rcases this with rfl | rfl | rfl
    · exact ⟨_, rfl, pa, .inl ⟨rfl, rfl⟩⟩
    · exact ⟨_, rfl, pb, .inr (.inl ⟨rfl, rfl⟩)⟩
    · exact ⟨_, rfl, pc, .inr (.inr ⟨rfl, rfl⟩)⟩
  have hPl : P.length = K := by rw [← hP]; show (List.take _ _).length = _; rw [List.length_take]; simp [IC.Seg.pts]; omega
  have HPd : Hid (P.drop K = []) := List.drop_eq_nil_of_le (by omega)
  have hq := h.lt
  obtain ⟨ox, oy⟩ := o
  have H0 : Hid (SgSt w q full P w.heap.size #[.int .i64 K, .int .i64 ax, .int .i64 ay, .int .i64 bx, .int .i64 b_y, .int .i64 cx, .int .i64 cy] en 0 ⟨ox, oy⟩ bs (((w.alloc (.cells #[.int .i64 K, .int .i64 ax, .int .i64 ay, .int .i64 bx, .int .i64 b_y, .int .i64 cx, .int .i64 cy] 103)).alloc (.cells #[.int .i64 ox, .int .i64 oy] 57)).alloc (.cells #[.int .i64 0, .int .i64 0] 57))) := by
    refine ⟨((h.alloc _).alloc _).alloc _, hF, hE, ((blk_new w 103 _).alloc _).alloc _, ?_, ?_, (((Wk.refl q w).alloc _).alloc _).alloc _⟩
    · have hb := (blk_new (w.alloc (.cells #[.int .i64 K, .int .i64 ax, .int .i64 ay, .int .i64 bx, .int .i64 b_y, .int .i64 cx, .int .i64 cy] 103)) 57 #[.int .i64 ox, .int .i64 oy]).alloc (.cells #[.int .i64 0, .int .i64 0] 57)
      rw [size_alloc] at hb
      exact hb
    · have hb := blk_new ((w.alloc (.cells #[.int .i64 K, .int .i64 ax, .int .i64 ay, .int .i64 bx, .int .i64 b_y, .int .i64 cx, .int .i64 cy] 103)).alloc (.cells #[.int .i64 ox, .int .i64 oy] 57)) 57 #[.int .i64 0, .int .i64 0]
      rw [size_alloc, size_alloc] at hb
      exact hb
  have HO : Hid (PtB ⟨ox, oy⟩) := ho
  have hsl : ∀ W, (Instr.sliceAt 101 (.pointer (some ⟨w.heap.size, 1, none⟩)) none (some (.int .i64 (K : Int))) none).run Tryz.prog W = .ok (.slice (some ⟨w.heap.size, 1, none⟩) K 3) W := fun W => slice_pts K hK3 _ W
  clear h ho hl hF hE hP hPl pa pb pc k1 k3
  simp only [IC.Seg.cells, IC.Pt.cells]
  go_enter Tryz.func106, Tryz.ntmps106
  go_wp2
  go_loopw [14] (fun i wr => ∃ (k : Nat) (l : IC.Pt) (cs : List Nat), k ≤ K ∧ i = .int .i64 k ∧ Hid (PtB l) ∧ Hid (SgSt w q full P w.heap.size #[.int .i64 K, .int .i64 ax, .int .i64 ay, .int .i64 bx, .int .i64 b_y, .int .i64 cx, .int .i64 cy] en k l cs wr)) (fun i _ => K - (intOf i).toNat)
  case atStart => exact ⟨0, _, bs, by omega, rfl, HO, H0⟩
  case round =>
    obtain ⟨k, ⟨lx, ly⟩, cs, hk, rfl, HL, HS⟩ := hrel
    obtain ⟨c0, c1, c2, c3, c4, c5, c6⟩ := seven_cells HS.out.box
    obtain ⟨⟨l0, l1⟩, l2, l3⟩ := cells_two HS.out.at'
    obtain ⟨⟨r0, r1⟩, r2, r3⟩ := cells_two HS.out.res
    have z2 := HS.out.res.lt
    have z1 := HS.out.at'.lt
    have z0 := HS.out.box.lt
    simp only at l0 l1
    by_cases hkK : k < K
    · obtain ⟨⟨px, py⟩, hp, hpb, hcase⟩ := HP.out k hkK
      have HPB : Hid (PtB ⟨px, py⟩) := hpb
      have HPK : Hid (P[k]? = some ⟨px, py⟩) := hp
      have b1 := hpb.1.1
      have b2 := hpb.1.2
      have b3 := hpb.2.1
      have b4 := hpb.2.2
      have m1 := HL.out.1.1
      have m2 := HL.out.1.2
      have m3 := HL.out.2.1
      have m4 := HL.out.2.2
      simp only at b1 b2 b3 b4 m1 m2 m3 m4
      have kq : Hid (∀ W, Wr W q cs → Calls Tryz.prog 104 #[.pointer (some ⟨q, 0, none⟩), .agg #[.int .i64 (px - lx), .int .i64 (py - ly)]] W fun e w' => e = .returned (.tuple #[]) ∧ Wr w' q (cs ++ EP.dpt ⟨lx, ly⟩ ⟨px, py⟩) ∧ Wk q W w') := fun W hW => kp.out W cs ⟨lx, ly⟩ ⟨px, py⟩ _ HL.out hpb hW (by rw [← (way_drop hp ⟨lx, ly⟩).1]; exact HS.out.way)
      clear hp hpb kp
      rcases hcase with ⟨rfl, e⟩ | ⟨rfl, e⟩ | ⟨rfl, e⟩ <;>
      · obtain ⟨rfl, rfl⟩ : px = _ ∧ py = _ := by simpa using e
        clear e
        go_wp2_with (go_at_call 104; refine (kq.out _ (HS.out.wr.alloc _)).mono ?_; rintro e w2 ⟨rfl, h2, hk2⟩
                     have HN := hid' (HS.out.step HPK.out hq (Nat.le_refl _) h2 hk2)
                     have e2 : Blk w2 (w.heap.size + 1) 57 #[.int .i64 lx, .int .i64 ly] := (HS.out.at'.alloc _).wk hk2 (by omega) (by decide)
                     have e3 := (blk_new wr 57 #[.int .i64 px, .int .i64 py]).wk hk2 (by omega) (by decide)
                     obtain ⟨⟨n0, n1⟩, n2, n3⟩ := cells_two e2
                     obtain ⟨⟨o0, o1⟩, -, -⟩ := cells_two e3
                     have z3 := e2.lt
                     have z4 := e3.lt
                     clear h2 hk2 e2 e3)
        go_roundw
        case rel => exact ⟨_, _, _, by omega, by go_num, HPB, HN⟩
        case measure => simp [intOf]; omega
    · obtain rfl : k = K := by omega
      go_wp2
      have HX : Hid (en = ⟨lx, ly⟩) := by have := HS.out.last; rw [HPd.out] at this; exact this.symm
      refine bodyPost_ret (v := .agg #[.int .i64 lx, .int .i64 ly]) (by simp [results, Tryz.results106, go_sem, r0, r1]) rfl ⟨?_, ?_, ?_⟩
      · rw [HX.out]
      · have hw := HS.out.way
        rw [HPd.out] at hw
        have hw' : cs = full := by rw [← hw]; exact (List.append_nil cs).symm
        rw [← hw']
        exact (HS.out.wr.far (by show w.heap.size + 1 + 1 ≠ q; omega) (HS.out.res.cellsNot (by decide))).far (by show w.heap.size + 1 + 1 ≠ q; omega) ((HS.out.res.set (j := 0) _).cellsNot (by decide))
      · exact (HS.out.wk.set (by show _ ≤ w.heap.size + 1 + 1; omega) _).set (by show _ ≤ w.heap.size + 1 + 1; omega) _

end Go.Proofs.YtcnlkdoifogkbaaGreatDoor

/-
  Runs of segments: walked over the program.
-/
namespace Go.Proofs.YtcnlkdoifogkbaaGreatDoor
open Go.RowKit

def prCells (r : Int × Nat) : List Value := [.int .i64 r.1, .int .i64 (r.2 : Int)]
theorem pr_len (r : Int × Nat) : (prCells r).length = 2 := rfl
theorem pr_one (r : Int × Nat) : ∀ u ∈ prCells r, u.oneCell' = true := by
  intro u hu; simp [prCells] at hu; rcases hu with rfl | rfl <;> rfl
theorem infoTwo : (Tryz.prog.info? 137).map (fun i => (i.zero, i.size, i.bytes)) = some (some (.agg #[.int .i64 0, .int .i64 0]), 2, 16) := by kernel_rfl

theorem own_some {w : World} {B : Nat} {ad : Option Addr} {cap : Nat} {l : List (Int × Nat)} (h : Own w B 137 2 prCells ad cap l) (hl : l ≠ []) : ∃ g, ad = some ⟨g, 0, none⟩ ∧ B ≤ g ∧ g < w.heap.size ∧ l.length ≤ cap ∧ cap ≤ maxLen := by
  rcases h.2 with ⟨_, h2⟩ | ⟨g, c, cur, h1, h2, h3, h4, h5, _⟩
  · exact absurd (List.eq_nil_of_length_eq_zero h2) hl
  · cases h1
    exact ⟨g, rfl, h2, (Array.getElem?_eq_some_iff.1 h3).1, h4, h5⟩

theorem own_last {w : World} {B g cap : Nat} {o : List (Int × Nat)} {k : Int} {c : Nat} (h : Own w B 137 2 prCells (some ⟨g, 0, none⟩) cap (o ++ [(k, c)])) :
    w.cell? ⟨g, o.length * 2, none⟩ = some (.int .i64 k) ∧ w.cell? ⟨g, o.length * 2 + 1, none⟩ = some (.int .i64 (c : Int)) ∧ w.frozen? ⟨g, o.length * 2 + 1, none⟩ = false ∧
      ∀ c' : Nat, Own (w.setCell ⟨g, o.length * 2 + 1, none⟩ (.int .i64 (c' : Int))) B 137 2 prCells (some ⟨g, 0, none⟩) cap (o ++ [(k, c')]) := by
  have hf : (o.flatMap prCells).length = o.length * 2 := flat_len prCells 2 pr_len o
  have e : (o ++ [(k, c)]).flatMap prCells = o.flatMap prCells ++ [.int .i64 k, .int .i64 (c : Int)] := by simp [prCells]
  have hl : (o ++ [(k, c)]).length = o.length + 1 := by simp
  refine ⟨?_, ?_, World.ownsRow.frozenAt h _, fun c' => ?_⟩
  · rw [World.ownsRow.cellAt h _ (by rw [hl]; omega), e, List.getElem?_append_right (by omega), hf]; simp
  · rw [World.ownsRow.cellAt h _ (by rw [hl]; omega), e, List.getElem?_append_right (by omega), hf]; simp
  · have hs := (World.ownsRow.stored h (o.length * 2 + 1) (.int .i64 (c' : Int))).1
    have e' : ((o ++ [(k, c)]).flatMap prCells).set (o.length * 2 + 1) (.int .i64 (c' : Int)) = (o ++ [(k, c')]).flatMap prCells := by
      rw [e, List.set_append_right _ _ (by omega), hf]
      simp [prCells]
    rw [e'] at hs
    unfold Own
    rw [show (o ++ [(k, c')]).length = (o ++ [(k, c)]).length by simp]
    exact hs

theorem Own.drewN {α : Type} {w : World} {B : Nat} {t : TypeId} {size : Nat} {f : α → List Value} {ad : Option Addr} {cap : Nat} {l : List α} (h : Own w B t size f ad cap l) (n : Nat) : Own (w.drewN n) B t size f ad cap l := h

theorem new_cells' (w : World) (b : Nat) (hb : w.heap.size = b) (e : TypeId) (l : List Value) : ∀ (j : Nat) (u : Value), l[j]? = some u → (w.alloc (Obj.cells l.toArray e)).cell? ((⟨b, 0, none⟩ : Addr).add j) = some u := by
  subst hb
  exact new_cells w e l

theorem count_le {rs : List (Int × Nat)} {x : Int × Nat} (h : x ∈ rs) : x.2 ≤ (EP.kindsOf rs).length := by
  induction rs with
  | nil => simp at h
  | cons y r ih =>
    unfold EP.kindsOf
    rw [List.flatMap_cons, List.length_append, List.length_replicate]
    rcases List.mem_cons.1 h with rfl | h
    · omega
    · have := ih h
      unfold EP.kindsOf at this
      omega

theorem runs_count {l : List IC.Seg} {x : Int × Nat} (h : x ∈ EP.runs l) : x.2 ≤ l.length := by
  have h1 := count_le h
  have h2 := (EP.runsOf_is (l.map IC.Seg.k)).2.2
  unfold EP.runs at h1
  rw [h2, List.length_map] at h1
  exact h1

theorem runs_take (l : List IC.Seg) (k : Nat) (hk : k < l.length) : EP.runs (l.take (k + 1)) = EP.addRun (EP.runs (l.take k)) l[k].k := by
  unfold EP.runs
  rw [← EP.runsOf_snoc, List.take_succ_eq_append_getElem hk, List.map_append]
  rfl

theorem runs_last (l : List IC.Seg) (k : Nat) (hk : k < l.length) : ∃ o n, EP.runs (l.take (k + 1)) = o ++ [(l[k].k, n + 1)] := by
  unfold EP.runs
  rw [List.take_succ_eq_append_getElem hk, List.map_append]
  exact EP.runsOf_last _ _

theorem addRun_len (o : List (Int × Nat)) (k : Int) : (EP.addRun o k).length ≤ o.length + 1 := by
  unfold EP.addRun
  split
  · simp
  · split <;> simp

set_option maxRecDepth 20000 in
set_option maxHeartbeats 2000000 in
theorem runs_any (vs : Value) (l : List IC.Seg) (w : World) (hm : Many w 103 7 IC.Seg.cells vs l) (hl : l.length ≤ 1000000) :
    Calls Tryz.prog 105 #[vs] w fun e w' => (∃ ad cap, e = .returned (.slice ad (EP.runs l).length cap) ∧ Own w' w.heap.size 137 2 prCells ad cap (EP.runs l)) ∧ Below w.heap.size w w' := by
  have HM : Hid (Many w 103 7 IC.Seg.cells vs l) := hm
  obtain ⟨ad, cap, hv, hl1, hl2⟩ := HM.out.len
  unfold maxLen at hl2
  obtain ⟨L, hL⟩ : ∃ L, l.length = L := ⟨_, rfl⟩
  have HL : Hid (l.length = L) := hL
  rw [hL] at hv hl1 hl
  subst hv
  clear hm hL
  obtain ⟨B, hB⟩ : ∃ B, w.heap.size = B := ⟨_, rfl⟩
  have HB0 : Hid (w.heap.size = B) := hB
  rw [hB]
  go_enter Tryz.func105, Tryz.ntmps105
  go_wp2
  go_loopw [3, 8] (fun out i wr => ∃ (k m : Nat) (ad' : Option Addr) (cap' : Nat) (rs : List (Int × Nat)), k ≤ L ∧ i = .int .i64 k ∧ Hid (rs = EP.runs (l.take k)) ∧ Hid (rs.length = m) ∧ m ≤ k ∧ out = .slice ad' m cap' ∧ Hid (Own wr B 137 2 prCells ad' cap' rs) ∧ Hid (Below B w wr) ∧ B ≤ wr.heap.size) (fun _ i _ => L - (intOf i).toNat)
  case atStart => exact ⟨0, 0, none, 0, [], by omega, rfl, rfl, rfl, by omega, rfl, own_nil _ _ _ _ _, by rw [← hB]; exact Below.refl _ _, by omega⟩
  case round =>
    obtain ⟨k, m, ad', cap', rs, hk, rfl, HR, HRm, hmk, rfl, HO, HB, hBw⟩ := hrel
    by_cases hkL : k < L
    · have hks : k < l.length := by rw [HL.out]; exact hkL
      obtain ⟨g, o, cap2, hv', hg, -, -, hc⟩ := HM.out.at seg_len k hks
      obtain ⟨rfl, -⟩ : ad = some ⟨g, o, none⟩ ∧ _ := by simpa using hv'
      clear hv'
      have hgB : g < B := by omega
      have r : ∀ j, wr.cell? ⟨g, j, none⟩ = w.cell? ⟨g, j, none⟩ := fun j => HB.out.cell (p := ⟨g, j, none⟩) hgB
      obtain ⟨s, hs⟩ : ∃ s, l[k] = s := ⟨_, rfl⟩
      have HT : Hid (EP.runs (l.take (k + 1)) = EP.addRun rs s.k) := by show _ = _; rw [runs_take l k hks, hs, HR.out]
      rw [hs] at hc
      obtain ⟨sk, ⟨ax, ay⟩, ⟨bx, b_y⟩, ⟨cx, cy⟩⟩ := s
      have c0 : wr.cell? ⟨g, o + k * 7, none⟩ = some (.int .i64 sk) := by rw [r]; exact hc 0 _ rfl
      have c1 : wr.cell? ⟨g, o + k * 7 + 1, none⟩ = some (.int .i64 ax) := by rw [r]; exact hc 1 _ rfl
      have c2 : wr.cell? ⟨g, o + k * 7 + 2, none⟩ = some (.int .i64 ay) := by rw [r]; exact hc 2 _ rfl
      have c3 : wr.cell? ⟨g, o + k * 7 + 3, none⟩ = some (.int .i64 bx) := by rw [r]; exact hc 3 _ rfl
      have c4 : wr.cell? ⟨g, o + k * 7 + 4, none⟩ = some (.int .i64 b_y) := by rw [r]; exact hc 4 _ rfl
      have c5 : wr.cell? ⟨g, o + k * 7 + 5, none⟩ = some (.int .i64 cx) := by rw [r]; exact hc 5 _ rfl
      have c6 : wr.cell? ⟨g, o + k * 7 + 6, none⟩ = some (.int .i64 cy) := by rw [r]; exact hc 6 _ rfl
      have hgw : g < wr.heap.size := by omega
      clear hc hs
      have HX : Hid (Below B w (wr.alloc (.cells #[.int .i64 sk, .int .i64 ax, .int .i64 ay, .int .i64 bx, .int .i64 b_y, .int .i64 cx, .int .i64 cy] 103))) := HB.out.alloc hBw _
      rcases Nat.eq_zero_or_pos k with hk0 | hkp
      · obtain rfl : m = 0 := by omega
        have hkz : ((k : Int) == 0) = true := by simp; omega
        have hrs : rs = [] := List.eq_nil_of_length_eq_zero HRm.out
        subst hrs
        have HN : Hid (EP.runs (l.take (k + 1)) = [] ++ [(sk, 0 + 1)]) := HT.out
        clear r hk0
        go_wp2
        go_quiet (fail)
        go_wp2_with (at_builtin; refine wpList_push _ rfl (.tmp 26) (.tmp 30) 150 rfl B 137 _ 2 16 Tryz.underlying150 infoTwo rfl (by decide) prCells pr_len ([]) (sk, 0) (0) HRm.out rfl (((HO.out.alloc _).drewN _).alloc _) _ rfl (new_cells' _ _ (by simp) _ _) (pr_one _) (by omega) (by omega) (by simp; omega) ?_
                     intro ad2 cap2 w2 hown2 hg2
                     have HB2 : Hid (Below B w w2) := below_grown ((below_drewN HX.out _).alloc (by simp; omega) _) hg2 (by simp; omega) (fun x hx => (HO.out.lt x hx).1)
                     obtain ⟨g2, rfl, hg3, hg4, hcap2, hcap3⟩ := own_some hown2 (by simp)
                     unfold maxLen at hcap3
                     have hcapm : (0) + 1 ≤ cap2 := by have := HRm.out; simp at this hcap2; omega
                     obtain ⟨-, e1, e2, -⟩ := own_last hown2
                     rw [HRm.out] at e1 e2
                     have HO2 := hid' hown2
                     have hB2 : B ≤ w2.heap.size := by omega
                     clear hown2 hg2)
        go_region
        all_goals
          go_wp2
          go_roundw
          case rel =>
            refine ⟨k + 1, 0 + 1, _, _, _, by omega, by go_num, HN.out.symm, by show _ = _; rw [List.length_append, HRm.out]; rfl, by omega, rfl, ?_, ?_, ?_⟩
            · have h3 := (own_last HO2.out).2.2.2 (0 + 1)
              rw [HRm.out] at h3
              exact h3
            · first | exact HB2.out.setCell (p := ⟨g2, _, none⟩) (by show B ≤ g2; omega) _ | exact HB2.out.drew.setCell (p := ⟨g2, _, none⟩) (by show B ≤ g2; omega) _ | exact (below_drewN HB2.out _).setCell (p := ⟨g2, _, none⟩) (by show B ≤ g2; omega) _
            · simp; omega
          case measure => simp [intOf]; omega
      · obtain ⟨j, rfl⟩ : ∃ j, k = j + 1 := ⟨k - 1, by omega⟩
        have hjs : j < l.length := by omega
        obtain ⟨o1, n1, hlast⟩ := runs_last l j hjs
        have hrs : rs = o1 ++ [(l[j].k, n1 + 1)] := by rw [HR.out, hlast]
        obtain ⟨g', o', cap3, hv', hg', -, -, hc'⟩ := HM.out.at seg_len j hjs
        obtain ⟨rfl, rfl⟩ : g' = g ∧ o' = o := by simp at hv'; omega
        clear hv' hlast
        obtain ⟨pk, hpk⟩ : ∃ pk, l[j].k = pk := ⟨_, rfl⟩
        have d0 : wr.cell? ⟨g', o' + j * 7, none⟩ = some (.int .i64 pk) := by rw [r]; exact hc' 0 _ (by rw [← hpk]; rfl)
        rw [hpk] at hrs
        have hn1 : n1 + 1 ≤ j + 1 := by
          have h1 : (pk, n1 + 1) ∈ EP.runs (l.take (j + 1)) := by rw [← HR.out, hrs]; simp
          have h2 := runs_count h1
          rw [List.length_take] at h2
          simp only at h2
          omega
        subst hrs
        clear hc' hpk r hg'
        have hz' : ((j : Int) + 1 == 0) = false := by simp; omega
        have hjL : j < L := by omega
        obtain ⟨m1, hm1⟩ : ∃ m1, o1.length = m1 := ⟨_, rfl⟩
        have HM1 : Hid (o1.length = m1) := hm1
        obtain rfl : m = m1 + 1 := by have := HRm.out; simp at this; omega
        clear hm1
        by_cases he : sk = pk
        · subst he
          have HN : Hid (EP.runs (l.take (j + 1 + 1)) = o1 ++ [(sk, n1 + 1 + 1)]) := by show _ = _; rw [HT.out]; exact EP.add_same _ _ _
          obtain ⟨g2, rfl, hg2, hg2', hcap2, hcap3⟩ := own_some HO.out (by simp)
          unfold maxLen at hcap3
          have hcapm : m1 + 1 ≤ cap' := by have := HRm.out; simp at this hcap2; omega
          have HO2 := hid' (fun n => (HO.out.alloc (.cells #[.int .i64 sk, .int .i64 ax, .int .i64 ay, .int .i64 bx, .int .i64 b_y, .int .i64 cx, .int .i64 cy] 103)).drewN n)
          obtain ⟨-, e1, e2, e3⟩ := own_last HO.out
          rw [HM1.out] at e1 e2
          clear e3
          go_wp2
          go_quiet (fail)
          go_wp2
          go_region
          all_goals
            go_wp2
            go_roundw
            case rel =>
              refine ⟨j + 1 + 1, m1 + 1, _, _, _, by omega, by go_num, HN.out.symm, by show _ = _; simp [HM1.out], by omega, rfl, ?_, ?_, ?_⟩
              · have h3 := fun d => (own_last (HO2.out d)).2.2.2 (n1 + 1 + 1)
                simp only [HM1.out] at h3
                exact h3 _
              · exact (below_drewN HX.out _).setCell (p := ⟨g2, m1 * 2 + 1, none⟩) (by show B ≤ g2; omega) _
              · simp; omega
            case measure => simp [intOf]; omega
        · have HN : Hid (EP.runs (l.take (j + 1 + 1)) = (o1 ++ [(pk, n1 + 1)]) ++ [(sk, 0 + 1)]) := by show _ = _; rw [HT.out]; exact EP.add_other _ _ _ _ (fun e => he e.symm)
          have hne : (sk != pk) = true := by simp [he]
          have he' : (sk == pk) = false := by simp [he]
          go_wp2
          go_quiet (fail)
          go_wp2_with (at_builtin; refine wpList_push _ rfl (.tmp 26) (.tmp 30) 150 rfl B 137 _ 2 16 Tryz.underlying150 infoTwo rfl (by decide) prCells pr_len (o1 ++ [(pk, n1 + 1)]) (sk, 0) (m1 + 1) HRm.out rfl (((HO.out.alloc _).drewN _).alloc _) _ rfl (new_cells' _ _ (by simp) _ _) (pr_one _) (by omega) (by omega) (by simp; omega) ?_
                       intro ad2 cap2 w2 hown2 hg2
                       have HB2 : Hid (Below B w w2) := below_grown ((below_drewN HX.out _).alloc (by simp; omega) _) hg2 (by simp; omega) (fun x hx => (HO.out.lt x hx).1)
                       obtain ⟨g2, rfl, hg3, hg4, hcap2, hcap3⟩ := own_some hown2 (by simp)
                       unfold maxLen at hcap3
                       have hcapm : (m1 + 1) + 1 ≤ cap2 := by have := HRm.out; simp at this hcap2; omega
                       obtain ⟨-, e1, e2, -⟩ := own_last hown2
                       rw [HRm.out] at e1 e2
                       have HO2 := hid' hown2
                       have hB2 : B ≤ w2.heap.size := by omega
                       clear hown2 hg2)
          go_region
          all_goals
            go_wp2
            go_roundw
            case rel =>
              refine ⟨j + 1 + 1, m1 + 1 + 1, _, _, _, by omega, by go_num, HN.out.symm, by show _ = _; rw [List.length_append, HRm.out]; rfl, by omega, rfl, ?_, ?_, ?_⟩
              · have h3 := (own_last HO2.out).2.2.2 (0 + 1)
                rw [HRm.out] at h3
                exact h3
              · first | exact HB2.out.setCell (p := ⟨g2, _, none⟩) (by show B ≤ g2; omega) _ | exact HB2.out.drew.setCell (p := ⟨g2, _, none⟩) (by show B ≤ g2; omega) _ | exact (below_drewN HB2.out _).setCell (p := ⟨g2, _, none⟩) (by show B ≤ g2; omega) _
              · simp; omega
            case measure => simp [intOf]; omega
    · obtain rfl : k = L := by omega
      go_wp2
      go_ret
      have e : rs = EP.runs l := by rw [HR.out, List.take_of_length_le (by rw [HL.out]; omega)]
      subst e
      rw [HRm.out]
      exact ⟨⟨ad', cap', rfl, HO.out⟩, HB.out⟩

end Go.Proofs.YtcnlkdoifogkbaaGreatDoor

/-
  What a path's writing leans on: lists cut in two, what stands while runs are written.
-/
namespace Go.Proofs.YtcnlkdoifogkbaaGreatDoor
open Go.RowKit

theorem way_append : ∀ (a b : List IC.Pt) (q : IC.Pt), EP.way q (a ++ b) = EP.way q a ++ EP.way (EP.lastOf q a) b ∧ EP.lastOf q (a ++ b) = EP.lastOf (EP.lastOf q a) b := by
  intro a
  induction a with
  | nil => intro b q; exact ⟨rfl, rfl⟩
  | cons p r ih =>
    intro b q
    refine ⟨?_, (ih b p).2⟩
    show EP.dpt q p ++ EP.way p (r ++ b) = EP.dpt q p ++ EP.way p r ++ EP.way (EP.lastOf p r) b
    rw [(ih b p).1, List.append_assoc]

theorem last_b {s : IC.Seg} {l : IC.Pt} (hs : SegB s) (hl : PtB l) : PtB (EP.lastOf l (EP.ptsOf s)) := by
  have h : ∀ (P : List IC.Pt) (l : IC.Pt), (∀ p ∈ P, PtB p) → PtB l → PtB (EP.lastOf l P) := by
    intro P
    induction P with
    | nil => intro l _ h; exact h
    | cons p r ih => intro l h1 _; exact ih p (fun x hx => h1 x (by simp [hx])) (h1 p (by simp))
  refine h _ _ (fun p hp => ?_) hl
  have := List.mem_of_mem_take hp
  simp [IC.Seg.pts] at this
  rcases this with rfl | rfl | rfl
  · exact hs.2.1
  · exact hs.2.2.1
  · exact hs.2.2.2

theorem Row.far {w : World} {t tb : TypeId} {size n : Nat} {v : Value} {xs : List Value} {b : Nat} {a : Array Value} (h : Row w t size v n xs) (hb : Blk w b tb a) (ht : tb ≠ t) (j : Nat) (u : Value) : Row (w.setCell ⟨b, j, none⟩ u) t size v n xs :=
  h.kept (row := some b) ⟨rfl, rfl, rfl, by simp, fun k hk hn => Below.heap_setCell _ _ _ _ (fun e => hn (by rw [e]))⟩ (fun b' e cur h' => by cases e; unfold Blk at hb; rw [hb] at h'; cases h'; exact ht rfl)

def dropA (a : Option Addr) (cap k : Nat) : Option Addr := if cap = k then a else a.map (·.add (k * 7))

theorem slice_drop (a : Option Addr) (n cap k : Nat) (hk : k ≤ n) (W : World) : (Instr.slice 70 (.slice a n cap) (some (.int .i64 (k : Int))) none none).run Tryz.prog W = .ok (.slice (dropA a cap k) (n - k) (cap - k)) W := by
  rw [run_slice_l (P := Tryz.prog) W 70 a n cap (by kernel_rfl) .i64 (k : Int) (by omega) (by omega)]
  have e : (sizeOf (Tryz.prog.elem 70)).run Tryz.prog W = .ok 7 W := by simp [go_sem]
  rw [e]
  simp [Result.andThen, sliced, dropA]

/-- A list of segments, from some place on. -/
theorem many_drop {w : World} {a : Option Addr} {n cap : Nat} {l : List IC.Seg} (h : Many w 103 7 IC.Seg.cells (.slice a n cap) l) (hn : l.length = n) (k : Nat) (hk : k ≤ n) :
    Many w 103 7 IC.Seg.cells (.slice (dropA a cap k) (n - k) (cap - k)) (l.drop k) := by
  unfold dropA
  have hd : (l.drop k).length = n - k := by rw [List.length_drop, hn]
  unfold Many
  rw [hd]
  have hfl : ((l.drop k).flatMap IC.Seg.cells).length = (n - k) * 7 := by rw [flat_len IC.Seg.cells 7 seg_len, hd]
  refine ⟨hfl, ?_⟩
  rcases h.2 with ⟨h1, h2⟩ | ⟨g, o, c, h1, h2, h3, h4, h5, h6⟩
  · cases h1
    obtain rfl : k = 0 := by omega
    exact .inl ⟨by simp, by omega⟩
  · cases h1
    by_cases hc : cap = k
    · rw [if_pos hc]
      refine .inr ⟨g, o, cap - k, rfl, by omega, by omega, h4, h5, fun j u hj => ?_⟩
      have hlt := (List.getElem?_eq_some_iff.1 hj).1
      rw [hfl] at hlt
      omega
    · rw [if_neg hc]
      refine .inr ⟨g, o + k * 7, cap - k, by simp [Addr.add], by omega, by omega, h4, h5, fun j u hj => ?_⟩
      have hlt := (List.getElem?_eq_some_iff.1 hj).1
      rw [hfl] at hlt
      have e1 : k * 7 + j = (k + j / 7) * 7 + j % 7 := by omega
      have hk1 : k + j / 7 < l.length := by omega
      have hk2 : j / 7 < (l.drop k).length := by omega
      have hj' : j = (j / 7) * 7 + j % 7 := by omega
      have e2 := flat_at IC.Seg.cells 7 seg_len (l.drop k) (j / 7) hk2 (j % 7) (Nat.mod_lt _ (by decide))
      rw [← hj', hj, List.getElem_drop] at e2
      rw [Nat.add_assoc]
      refine h6 _ _ ?_
      rw [e1, flat_at IC.Seg.cells 7 seg_len l (k + j / 7) hk1 (j % 7) (Nat.mod_lt _ (by decide))]
      exact e2.symm

theorem slice_take (a : Option Addr) (n cap k : Nat) (hk : k ≤ cap) (W : World) : (Instr.slice 70 (.slice a n cap) none (some (.int .i64 (k : Int))) none).run Tryz.prog W = .ok (.slice a k cap) W := by
  rw [run_slice_h (P := Tryz.prog) W 70 a n cap (by kernel_rfl) .i64 (k : Int) (by omega) (by omega)]
  have e : (sizeOf (Tryz.prog.elem 70)).run Tryz.prog W = .ok 7 W := by simp [go_sem]
  have e2 : (a.map fun x => x.add 0) = a := by cases a <;> simp [Addr.add]
  rw [e]
  simp [Result.andThen, sliced, e2]

/-- What stands while runs are written: the writer, the runs, the segments that are left, the last point. -/
structure Ph (w : World) (q lb : Nat) (vr : Value) (rs : List (Int × Nat)) (va : Value) (sg : List IC.Seg) (l : IC.Pt) (cs : List Nat) (W : World) : Prop where
  wr : Wr W q cs
  wk : Wk q w W
  rr : Many W 137 2 prCells vr rs
  ss : Many W 103 7 IC.Seg.cells va sg
  at' : Blk W lb 57 #[.int .i64 l.x, .int .i64 l.y]

theorem Ph.alloc {w W : World} {q lb : Nat} {vr va : Value} {rs : List (Int × Nat)} {sg : List IC.Seg} {l : IC.Pt} {cs : List Nat} (h : Ph w q lb vr rs va sg l cs W) (o : Obj) : Ph w q lb vr rs va sg l cs (W.alloc o) :=
  ⟨h.wr.alloc o, h.wk.alloc o, Row.below h.rr ((Below.refl _ _).alloc (Nat.le_refl _) _), Row.below h.ss ((Below.refl _ _).alloc (Nat.le_refl _) _), h.at'.alloc o⟩
theorem Ph.drew {w W : World} {q lb : Nat} {vr va : Value} {rs : List (Int × Nat)} {sg : List IC.Seg} {l : IC.Pt} {cs : List Nat} (h : Ph w q lb vr rs va sg l cs W) (n : Nat) : Ph w q lb vr rs va sg l cs (W.drewN n) :=
  ⟨h.wr.keep (below_drewN (Below.refl _ _) _), h.wk.drewN n, Row.below h.rr (below_drewN (Below.refl _ _) _), Row.below h.ss (below_drewN (Below.refl _ _) _), h.at'⟩
theorem Ph.drew1 {w W : World} {q lb : Nat} {vr va : Value} {rs : List (Int × Nat)} {sg : List IC.Seg} {l : IC.Pt} {cs : List Nat} (h : Ph w q lb vr rs va sg l cs W) : Ph w q lb vr rs va sg l cs W.drew :=
  ⟨h.wr.keep (Below.refl _ _).drew, h.wk.drew, Row.below h.rr (Below.refl _ _).drew, Row.below h.ss (Below.refl _ _).drew, h.at'⟩
theorem Ph.call {w W w2 : World} {q lb : Nat} {vr va : Value} {rs : List (Int × Nat)} {sg : List IC.Seg} {l : IC.Pt} {cs cs' : List Nat} (h : Ph w q lb vr rs va sg l cs W) (hq : lb ≠ q) (h2 : Wr w2 q cs' ∧ Wk q W w2) : Ph w q lb vr rs va sg l cs' w2 :=
  ⟨h2.1, h.wk.trans h2.2, Row.wk h.rr h.wr h2.2 (by decide) (by decide), Row.wk h.ss h.wr h2.2 (by decide) (by decide), h.at'.wk h2.2 hq (by decide)⟩
theorem Ph.set {w W : World} {q lb : Nat} {vr va : Value} {rs : List (Int × Nat)} {sg : List IC.Seg} {l : IC.Pt} {cs : List Nat} (h : Ph w q lb vr rs va sg l cs W) (hq : lb ≠ q) (hw : w.heap.size ≤ lb) (l' : IC.Pt) :
    Ph w q lb vr rs va sg l' cs ((W.setCell ⟨lb, 0, none⟩ (.int .i64 l'.x)).setCell ⟨lb, 1, none⟩ (.int .i64 l'.y)) := by
  have b1 := h.at'.set (j := 0) (.int .i64 l'.x)
  refine ⟨?_, ?_, ?_, ?_, ?_⟩
  · exact (h.wr.far (by show lb ≠ q; exact hq) (h.at'.cellsNot (by decide))).far (by show lb ≠ q; exact hq) (b1.cellsNot (by decide))
  · exact (h.wk.set (by show _ ≤ lb; exact hw) _).set (by show _ ≤ lb; exact hw) _
  · exact (Row.far h.rr h.at' (by decide) 0 _).far b1 (by decide) 1 _
  · exact (Row.far h.ss h.at' (by decide) 0 _).far b1 (by decide) 1 _
  · exact b1.set (j := 1) _
theorem Ph.cut {w W : World} {q lb : Nat} {vr va va' : Value} {rs : List (Int × Nat)} {sg sg' : List IC.Seg} {l : IC.Pt} {cs : List Nat} (h : Ph w q lb vr rs va sg l cs W) (hs : Many W 103 7 IC.Seg.cells va' sg') : Ph w q lb vr rs va' sg' l cs W := ⟨h.wr, h.wk, h.rr, hs, h.at'⟩

def PathB (p : IC.Path) : Prop := PtB p.st ∧ (∀ s ∈ p.segs, SegB s) ∧ p.segs.length ≤ 1000000

end Go.Proofs.YtcnlkdoifogkbaaGreatDoor

/-
  A writer writes a paint: walked over the program.
-/
namespace Go.Proofs.YtcnlkdoifogkbaaGreatDoor
open Go.RowKit

/-- A writer, and a box of the call's own that stays. -/
structure Bx (w : World) (q : Nat) (b : Nat) (t : TypeId) (a : Array Value) (cs : List Nat) (W : World) : Prop where
  wr : Wr W q cs
  wk : Wk q w W
  box : Blk W b t a

theorem Bx.new {w : World} {q : Nat} {cs : List Nat} (h : Wr w q cs) (t : TypeId) (a : Array Value) : Bx w q w.heap.size t a cs (w.alloc (.cells a t)) := ⟨h.alloc _, (Wk.refl q w).alloc _, blk_new w t a⟩
theorem Bx.step {w W w2 : World} {q b : Nat} {t : TypeId} {a : Array Value} {cs cs' : List Nat} (h : Bx w q b t a cs W) (ht : t ≠ 5) (hb : b ≠ q) (h2 : Wr w2 q cs' ∧ Wk q W w2) : Bx w q b t a cs' w2 := ⟨h2.1, h.wk.trans h2.2, h.box.wk h2.2 hb ht⟩

def NumB (n : Int) : Prop := 0 ≤ n ∧ n ≤ 9223372036854775807
structure PaintB (p : IC.Paint) : Prop where
  na : NumB p.a
  nb : NumB p.b
  pp : PtB p.p
  pq : PtB p.q
  px : p.k ≠ 0 → p.k ≠ 1 → NumB p.q.x

set_option maxRecDepth 20000 in
set_option maxHeartbeats 1000000 in
theorem wpaint_any (q : Nat) (bs : List Nat) (p : IC.Paint) (w : World) (h : Wr w q bs) (hp : PaintB p) (hl : (bs ++ EP.paint p).length ≤ 100000000000000) :
    Calls Tryz.prog 78 #[.pointer (some ⟨q, 0, none⟩), .agg p.cells.toArray] w fun e w' => e = .returned (.tuple #[]) ∧ Wr w' q (bs ++ EP.paint p) ∧ Wk q w w' := by
  obtain ⟨k, a, b, ⟨px, py⟩, ⟨qx, qy⟩⟩ := p
  obtain ⟨⟨a0, a1⟩, ⟨b0, b1⟩, hpp, hpq, hx⟩ := hp
  simp only at a0 a1 b0 b1 hpp hpq hx
  have hq := h.lt
  have H0 : Hid (Bx w q w.heap.size 59 #[.int .i64 k, .int .i64 a, .int .i64 b, .int .i64 px, .int .i64 py, .int .i64 qx, .int .i64 qy] bs (w.alloc (.cells #[.int .i64 k, .int .i64 a, .int .i64 b, .int .i64 px, .int .i64 py, .int .i64 qx, .int .i64 qy] 59))) := Bx.new h _ _
  have HQ : Hid (w.heap.size ≠ q) := by show _ ≠ _; omega
  obtain ⟨A, rfl⟩ : ∃ A : Nat, a = (A : Int) := ⟨a.toNat, by omega⟩
  obtain ⟨B, rfl⟩ : ∃ B : Nat, b = (B : Int) := ⟨b.toNat, by omega⟩
  have ka : Hid (∀ W, Wr W q bs → Calls Tryz.prog 49 #[.pointer (some ⟨q, 0, none⟩), .int .i64 A] W fun e w' => e = .returned (.tuple #[]) ∧ Wr w' q (bs ++ EP.num A) ∧ Wk q W w') := fun W hW => wcount_any q bs A W hW (by omega) (len_l hl)
  unfold EP.paint at hl ⊢
  simp only at hl ⊢
  by_cases hk0 : k = 0
  · have hk : (k == 0) = true := by simp [hk0]
    rw [hk] at hl ⊢
    simp only [if_pos, List.append_nil] at hl ⊢
    clear h hl hk0 hx hpp hpq
    simp only [IC.Paint.cells]
    go_enter Tryz.func78, Tryz.ntmps78
    go_wp2_with (go_at_call 49; refine (ka.out _ H0.out.wr).mono ?_; rintro e w1 ⟨rfl, h1⟩
                 have H1 := hid' (H0.out.step (by decide) HQ.out h1)
                 obtain ⟨c0, -⟩ := seven_cells H1.out.box
                 clear h1)
    refine bodyPost_ret (v := .tuple #[]) (results_none (by rfl) _ _ _) rfl ?_
    exact ⟨rfl, H1.out.wr, H1.out.wk⟩
  · have hk : (k == 0) = false := by simp [hk0]
    rw [hk] at hl ⊢
    simp only [Bool.false_eq_true, if_false, ← List.append_assoc] at hl ⊢
    have l3 := len_l hl
    have l2 := len_l l3
    have l1 := len_l l2
    have kb : Hid (∀ W, Wr W q (bs ++ EP.num A) → Calls Tryz.prog 49 #[.pointer (some ⟨q, 0, none⟩), .int .i64 B] W fun e w' => e = .returned (.tuple #[]) ∧ Wr w' q (bs ++ EP.num A ++ EP.num B) ∧ Wk q W w') := fun W hW => wcount_any q _ B W hW (by omega) l1
    have kp : Hid (∀ W, Wr W q (bs ++ EP.num A ++ EP.num B) → Calls Tryz.prog 104 #[.pointer (some ⟨q, 0, none⟩), .agg #[.int .i64 px, .int .i64 py]] W fun e w' => e = .returned (.tuple #[]) ∧ Wr w' q (bs ++ EP.num A ++ EP.num B ++ EP.pt ⟨px, py⟩) ∧ Wk q W w') := fun W hW => wpt_any q _ ⟨px, py⟩ W hW (.inl hpp) l3
    by_cases hk1' : k = 1
    · have hk1 : (k == 1) = true := by simp [hk1']
      rw [hk1] at hl ⊢
      simp only [if_true] at hl ⊢
      have kq : Hid (∀ W, Wr W q (bs ++ EP.num A ++ EP.num B ++ EP.pt ⟨px, py⟩) → Calls Tryz.prog 104 #[.pointer (some ⟨q, 0, none⟩), .agg #[.int .i64 qx, .int .i64 qy]] W fun e w' => e = .returned (.tuple #[]) ∧ Wr w' q (bs ++ EP.num A ++ EP.num B ++ EP.pt ⟨px, py⟩ ++ EP.pt ⟨qx, qy⟩) ∧ Wk q W w') := fun W hW => wpt_any q _ ⟨qx, qy⟩ W hW (.inl hpq) hl
      clear h hl l1 l2 l3 hk0 hk1' hx hpp hpq
      simp only [IC.Paint.cells]
      go_enter Tryz.func78, Tryz.ntmps78
      go_wp2_with (first
        | (go_at_call 104; (with_reducible refine (kq.out _ H3.out.wr).mono ?_); rintro e w4 ⟨rfl, h4⟩
           have H4 := hid' (H3.out.step (by decide) HQ.out h4)
           clear h4)
        | (go_at_call 104; (with_reducible refine (kp.out _ H2.out.wr).mono ?_); rintro e w3 ⟨rfl, h3⟩
           have H3 := hid' (H2.out.step (by decide) HQ.out h3)
           obtain ⟨e0, e1, e2, e3, e4, e5, e6⟩ := seven_cells H3.out.box
           clear h3)
        | (go_at_call 49; (with_reducible refine (kb.out _ H1.out.wr).mono ?_); rintro e w2 ⟨rfl, h2⟩
           have H2 := hid' (H1.out.step (by decide) HQ.out h2)
           obtain ⟨d0, d1, d2, d3, d4, d5, d6⟩ := seven_cells H2.out.box
           clear h2)
        | (go_at_call 49; (with_reducible refine (ka.out _ H0.out.wr).mono ?_); rintro e w1 ⟨rfl, h1⟩
           have H1 := hid' (H0.out.step (by decide) HQ.out h1)
           obtain ⟨c0, c1, c2, c3, c4, c5, c6⟩ := seven_cells H1.out.box
           clear h1))
      go_end0
      exact ⟨rfl, H4.out.wr, H4.out.wk⟩
    · have hk1 : (k == 1) = false := by simp [hk1']
      rw [hk1] at hl ⊢
      simp only [Bool.false_eq_true, if_false] at hl ⊢
      obtain ⟨x0, x1⟩ := hx hk0 hk1'
      obtain ⟨X, rfl⟩ : ∃ X : Nat, qx = (X : Int) := ⟨qx.toNat, by omega⟩
      have hX : X ≤ 9223372036854775807 := by omega
      have kq : Hid (∀ W, Wr W q (bs ++ EP.num A ++ EP.num B ++ EP.pt ⟨px, py⟩) → Calls Tryz.prog 77 #[.pointer (some ⟨q, 0, none⟩), .int .u64 X] W fun e w' => e = .returned (.tuple #[]) ∧ Wr w' q (bs ++ EP.num A ++ EP.num B ++ EP.pt ⟨px, py⟩ ++ EP.num X) ∧ Wk q W w') := fun W hW => wnum_any q _ X W hW (by omega) (len_l hl)
      clear h hl l1 l2 l3 hk0 hk1' hx hpp hpq
      simp only [IC.Paint.cells]
      go_enter Tryz.func78, Tryz.ntmps78
      go_wp2_with (first
        | (go_at_call 77; (with_reducible refine (kq.out _ H3.out.wr).mono ?_); rintro e w4 ⟨rfl, h4⟩
           have H4 := hid' (H3.out.step (by decide) HQ.out h4)
           clear h4)
        | (go_at_call 104; (with_reducible refine (kp.out _ H2.out.wr).mono ?_); rintro e w3 ⟨rfl, h3⟩
           have H3 := hid' (H2.out.step (by decide) HQ.out h3)
           obtain ⟨e0, e1, e2, e3, e4, e5, e6⟩ := seven_cells H3.out.box
           clear h3)
        | (go_at_call 49; (with_reducible refine (kb.out _ H1.out.wr).mono ?_); rintro e w2 ⟨rfl, h2⟩
           have H2 := hid' (H1.out.step (by decide) HQ.out h2)
           obtain ⟨d0, d1, d2, d3, d4, d5, d6⟩ := seven_cells H2.out.box
           clear h2)
        | (go_at_call 49; (with_reducible refine (ka.out _ H0.out.wr).mono ?_); rintro e w1 ⟨rfl, h1⟩
           have H1 := hid' (H0.out.step (by decide) HQ.out h1)
           obtain ⟨c0, c1, c2, c3, c4, c5, c6⟩ := seven_cells H1.out.box
           clear h1))
      go_end0
      exact ⟨rfl, H4.out.wr, H4.out.wk⟩

end Go.Proofs.YtcnlkdoifogkbaaGreatDoor

/-
  A writer writes a path: walked over the program.
-/
namespace Go.Proofs.YtcnlkdoifogkbaaGreatDoor
open Go.RowKit

theorem runs_bound (l : List IC.Seg) : (EP.runs l).length ≤ l.length := by
  have h1 := EP.runsOf_is (l.map IC.Seg.k)
  have h2 : (EP.runs l).length ≤ (EP.kindsOf (EP.runs l)).length := by
    have : ∀ rs : List (Int × Nat), (∀ r ∈ rs, 1 ≤ r.2) → rs.length ≤ (EP.kindsOf rs).length := by
      intro rs
      induction rs with
      | nil => intro _; simp
      | cons y r ih =>
        intro h
        have h1 := ih fun x hx => h x (by simp [hx])
        have h2 := h y (by simp)
        unfold EP.kindsOf at h1 ⊢
        rw [List.flatMap_cons, List.length_append, List.length_replicate, List.length_cons]
        omega
    exact this _ h1.2.1
  unfold EP.runs at h2
  rw [h1.2.2, List.length_map] at h2
  exact h2

/-- What a run, met, tells. -/
theorem runs_at {rs : List (Int × Nat)} {sg : List IC.Seg} {k : Int} {n j : Nat} {l : IC.Pt} (hj : rs[j]? = some (k, n)) (hk : EP.kindsOf (rs.drop j) = sg.map IC.Seg.k) (hs : ∀ s ∈ sg, SegB s) (h1 : ∀ r ∈ rs, 1 ≤ r.2) :
    (1 ≤ k ∧ k ≤ 3) ∧ (1 ≤ n ∧ n ≤ sg.length) ∧ EP.kindsOf (rs.drop (j + 1)) = (sg.drop n).map IC.Seg.k ∧
      EP.runsB l (rs.drop j) sg = EP.num (n * 4 + k) ++ (EP.way l ((sg.take n).flatMap EP.ptsOf) ++ EP.runsB (EP.lastOf l ((sg.take n).flatMap EP.ptsOf)) (rs.drop (j + 1)) (sg.drop n)) := by
  obtain ⟨hlt, e⟩ := List.getElem?_eq_some_iff.1 hj
  have hd : rs.drop j = (k, n) :: rs.drop (j + 1) := by rw [List.drop_eq_getElem_cons hlt, e]
  have hn : 1 ≤ n := h1 (k, n) (by rw [← e]; exact List.getElem_mem hlt)
  rw [hd] at hk ⊢
  have hk : List.replicate n k ++ EP.kindsOf (rs.drop (j + 1)) = sg.map IC.Seg.k := hk
  have ht : (sg.take n).map IC.Seg.k = List.replicate n k ∧ (sg.drop n).map IC.Seg.k = EP.kindsOf (rs.drop (j + 1)) := by
    rw [List.map_take, List.map_drop, ← hk]; simp
  have hlen : n ≤ sg.length := by
    have := congrArg List.length hk
    simp at this
    omega
  have hkk : 1 ≤ k ∧ k ≤ 3 := by
    have hm : k ∈ (sg.take n).map IC.Seg.k := by rw [ht.1]; simp; omega
    obtain ⟨s, hs', rfl⟩ := List.mem_map.1 hm
    exact (hs s (List.mem_of_mem_take hs')).1
  refine ⟨hkk, ⟨hn, hlen⟩, ht.2.symm, ?_⟩
  show EP.num (n * 4 + k) ++ EP.way l ((sg.take n).flatMap EP.ptsOf) ++ EP.runsB _ _ _ = _
  rw [List.append_assoc]

set_option maxRecDepth 20000 in
set_option maxHeartbeats 4000000 in
theorem wpath_any (q : Nat) (bs : List Nat) (p : IC.Path) (w : World) (h : Wr w q bs) (hp : PathOk w p) (hb : PathB p) (hl : (bs ++ EP.path p).length ≤ 100000000000000) :
    Calls Tryz.prog 80 #[.pointer (some ⟨q, 0, none⟩), .agg p.cells.toArray] w fun e w' => e = .returned (.tuple #[]) ∧ Wr w' q (bs ++ EP.path p) ∧ Wk q w w' := by
  obtain ⟨⟨sx, sy⟩, vs, segs, cl⟩ := p
  have HM : Hid (Many w 103 7 IC.Seg.cells vs segs) := hp
  obtain ⟨ad, cap, hv, hl1, hl2⟩ := HM.out.len
  unfold maxLen at hl2
  obtain ⟨L, hL⟩ : ∃ L, segs.length = L := ⟨_, rfl⟩
  have HL : Hid (segs.length = L) := hL
  obtain ⟨hst, hsb, hln⟩ := hb
  simp only at hst hsb hln
  rw [hL] at hv hl1 hln
  subst hv
  have HSB : Hid (∀ s ∈ segs, SegB s) := hsb
  have hq := h.lt
  obtain ⟨R, hR⟩ : ∃ R, (EP.runs segs).length = R := ⟨_, rfl⟩
  have HR : Hid ((EP.runs segs).length = R) := hR
  have hRL : R ≤ L := by rw [← hR, ← hL]; exact runs_bound segs
  obtain ⟨c0, hc⟩ : ∃ c : Nat, (if cl then 1 else 0) = c := ⟨_, rfl⟩
  obtain ⟨full, hF⟩ : ∃ f, bs ++ EP.path ⟨⟨sx, sy⟩, .slice ad L cap, segs, cl⟩ = f := ⟨_, rfl⟩
  rw [hF] at hl ⊢
  have hF' : bs ++ EP.num ((R * 2 + c0 : Nat) : Int) ++ EP.pt ⟨sx, sy⟩ ++ EP.runsB ⟨sx, sy⟩ (EP.runs segs) segs = full := by
    rw [← hF]
    unfold EP.path
    simp only [← List.append_assoc]
    rw [hR]
    congr 4
    rw [← hc]
    cases cl <;> simp
  have l2 : (bs ++ EP.num ((R * 2 + c0 : Nat) : Int) ++ EP.pt ⟨sx, sy⟩).length ≤ 100000000000000 := by rw [← hF'] at hl; exact len_l hl
  have l1 := len_l l2
  have kr : Hid (∀ W, Many W 103 7 IC.Seg.cells (.slice ad L cap) segs → Calls Tryz.prog 105 #[.slice ad L cap] W fun e w' => (∃ ad cap, e = .returned (.slice ad R cap) ∧ Own w' W.heap.size 137 2 prCells ad cap (EP.runs segs)) ∧ Below W.heap.size W w') := fun W hW => by
    have := runs_any (.slice ad L cap) segs W hW (by omega)
    rw [hR] at this
    exact this
  have kc : Hid (∀ W, Wr W q bs → Calls Tryz.prog 49 #[.pointer (some ⟨q, 0, none⟩), .int .i64 ((R * 2 + c0 : Nat) : Int)] W fun e w' => e = .returned (.tuple #[]) ∧ Wr w' q (bs ++ EP.num ((R * 2 + c0 : Nat) : Int)) ∧ Wk q W w') := fun W hW => wcount_any q bs _ W hW (by rw [← hc]; split <;> omega) (len_l l1)
  have kp : Hid (∀ W, Wr W q (bs ++ EP.num ((R * 2 + c0 : Nat) : Int)) → Calls Tryz.prog 104 #[.pointer (some ⟨q, 0, none⟩), .agg #[.int .i64 sx, .int .i64 sy]] W fun e w' => e = .returned (.tuple #[]) ∧ Wr w' q (bs ++ EP.num ((R * 2 + c0 : Nat) : Int) ++ EP.pt ⟨sx, sy⟩) ∧ Wk q W w') := fun W hW => wpt_any q _ ⟨sx, sy⟩ W hW (.inl hst) l2
  have H0 : Hid (Bx w q w.heap.size 72 #[.int .i64 sx, .int .i64 sy, .slice ad L cap, .bool cl] bs (w.alloc (.cells #[.int .i64 sx, .int .i64 sy, .slice ad L cap, .bool cl] 72))) := Bx.new h _ _
  have HM0 : Hid (Many (w.alloc (.cells #[.int .i64 sx, .int .i64 sy, .slice ad L cap, .bool cl] 72)) 103 7 IC.Seg.cells (.slice ad L cap) segs) := Row.below HM.out ((Below.refl _ _).alloc (Nat.le_refl _) _)
  have HQ : Hid (w.heap.size ≠ q) := by show _ ≠ _; omega
  have HF : Hid (bs ++ EP.num ((R * 2 + c0 : Nat) : Int) ++ EP.pt ⟨sx, sy⟩ ++ EP.runsB ⟨sx, sy⟩ (EP.runs segs) segs = full) := hF'
  have HFL : Hid (full.length ≤ 100000000000000) := hl
  have HST : Hid (PtB ⟨sx, sy⟩) := hst
  have hRM : R ≤ 1000000 := by omega
  clear h hp hl l1 l2 hF hF' hst hsb HM hR hL hRL
  simp only [IC.Path.cells]
  go_enter Tryz.func80, Tryz.ntmps80
  go_upto_if 18 with (go_at_call 105; refine (kr.out _ HM0.out).mono ?_; rintro e w1 ⟨⟨adr, capr, rfl, hown1⟩, hb1⟩
                      have H1 : Hid (Bx w q w.heap.size 72 #[.int .i64 sx, .int .i64 sy, .slice ad L cap, .bool cl] bs w1) := H0.out.step (by decide) HQ.out ⟨H0.out.wr.keep hb1, Wk.below hb1⟩
                      have HM1 : Hid (Many w1 103 7 IC.Seg.cells (.slice ad L cap) segs ∧ Many w1 137 2 prCells (.slice adr R capr) (EP.runs segs)) := ⟨Row.below HM0.out hb1, by have := Own.many hown1; rw [HR.out] at this; exact this⟩
                      have hcr : capr ≤ 9223372036854775807 := by obtain ⟨_, _, h1, _, h2⟩ := HM1.out.2.len; cases h1; exact h2
                      obtain ⟨⟨b0, b1, b2, b3⟩, -⟩ := cells_four H1.out.box
                      clear hown1 hb1)
  go_cut [5] from 19 (fun s x => s = .int .i64 c0 ∧ w1 = x)
  case first =>
    cases cl
    all_goals
      go_wp2
      go_meet
      case rel => exact ⟨by rw [← hc]; rfl, rfl⟩
  case rest =>
    obtain ⟨rfl, rfl⟩ := hcut
    have hc1 : c0 ≤ 1 := by rw [← hc]; split <;> omega
    clear hc
    go_wp2_with (first
      | (go_at_call 49; refine (kc.out _ H1.out.wr).mono ?_; rintro e w2 ⟨rfl, h2⟩
         have HM2 : Hid (Many w2 103 7 IC.Seg.cells (.slice ad L cap) segs ∧ Many w2 137 2 prCells (.slice adr R capr) (EP.runs segs)) := ⟨Row.wk HM1.out.1 H1.out.wr h2.2 (by decide) (by decide), Row.wk HM1.out.2 H1.out.wr h2.2 (by decide) (by decide)⟩
         have H2 := hid' (H1.out.step (by decide) HQ.out h2)
         obtain ⟨⟨d0, d1, d2, d3⟩, -⟩ := cells_four H2.out.box
         clear h2)
      | (go_at_call 104; refine (kp.out _ H2.out.wr).mono ?_; rintro e w3 ⟨rfl, h3⟩
         have HM3 : Hid (Many w3 103 7 IC.Seg.cells (.slice ad L cap) segs ∧ Many w3 137 2 prCells (.slice adr R capr) (EP.runs segs)) := ⟨Row.wk HM2.out.1 H2.out.wr h3.2 (by decide) (by decide), Row.wk HM2.out.2 H2.out.wr h3.2 (by decide) (by decide)⟩
         have H3 := hid' (H2.out.step (by decide) HQ.out h3)
         obtain ⟨⟨e0, e1, e2, e3⟩, -⟩ := cells_four H3.out.box
         have z3 := H3.out.box.lt
         clear h3))
    go_cut [6, 7] from 34 (fun b c x => b = .slice ad L cap ∧ c = .pointer (some ⟨w3.heap.size, 0, none⟩) ∧ Hid (Ph w q w3.heap.size (.slice adr R capr) (EP.runs segs) (.slice ad L cap) segs ⟨sx, sy⟩ (bs ++ EP.num ((R * 2 + c0 : Nat) : Int) ++ EP.pt ⟨sx, sy⟩) x))
    case first =>
      have HP0 := hid' (Ph.mk (lb := w3.heap.size) (l := ⟨sx, sy⟩) (H3.out.wr.alloc (.cells #[.int .i64 sx, .int .i64 sy] 57)) (H3.out.wk.alloc _) (Row.below HM3.out.2 ((Below.refl _ _).alloc (Nat.le_refl _) _)) (Row.below HM3.out.1 ((Below.refl _ _).alloc (Nat.le_refl _) _)) (blk_new w3 57 #[.int .i64 sx, .int .i64 sy]))
      go_region
      all_goals
        go_wp2
        go_meet
        case rel => exact ⟨rfl, rfl, by first | exact HP0.out.drew1 | exact HP0.out.drew 1 | exact HP0.out⟩
    case rest =>
      obtain ⟨rfl, rfl, HP⟩ := hcut
      have hlw : w.heap.size ≤ w3.heap.size := H3.out.wk.size
      obtain ⟨lb, hlb⟩ : ∃ lb, w3.heap.size = lb := ⟨_, rfl⟩
      rw [hlb] at HP hlw ⊢
      have HLQ : Hid (lb ≠ q) := by show _ ≠ _; omega
      clear hlb H0 H1 H2 H3 HM0 HM1 HM2 HM3 kr kc kp b0 b1 b2 b3 d0 d1 d2 d3 e0 e1 e2 e3 z3
      go_wp2
      go_loopw [6, 36] (fun sv i wr => ∃ (j m n2 cap2 : Nat) (a2 : Option Addr) (l : IC.Pt) (cs : List Nat), j ≤ R ∧ i = .int .i64 j ∧ sv = .slice a2 n2 cap2 ∧ n2 + m = L ∧ n2 ≤ cap2 ∧ cap2 ≤ 9223372036854775807 ∧ Hid (PtB l) ∧ Hid (EP.kindsOf ((EP.runs segs).drop j) = (segs.drop m).map IC.Seg.k) ∧ Hid (cs ++ EP.runsB l ((EP.runs segs).drop j) (segs.drop m) = full) ∧ Hid (Ph w q lb (.slice adr R capr) (EP.runs segs) (.slice a2 n2 cap2) (segs.drop m) l cs wr)) (fun _ i _ => R - (intOf i).toNat)
      case atStart => exact ⟨0, 0, L, cap, ad, ⟨sx, sy⟩, _, by omega, rfl, rfl, by omega, hl1, by omega, HST, (EP.runsOf_is _).2.2, HF, HP⟩
      case round =>
        clear HP
        obtain ⟨j, m, n2, cap2, a2, ⟨lx, ly⟩, cs, hj, rfl, rfl, hnm, hnc, hcc, HPL, HK, HE, HP⟩ := hrel
        by_cases hjR : j < R
        · have hjr : j < (EP.runs segs).length := by rw [HR.out]; exact hjR
          obtain ⟨gr, or, capr', hv', hgr, -, -, hcr'⟩ := HP.out.rr.at pr_len j hjr
          obtain ⟨rfl, -⟩ : adr = some ⟨gr, or, none⟩ ∧ _ := by simpa using hv'
          clear hv'
          obtain ⟨⟨k, n⟩, hx⟩ : ∃ x, (EP.runs segs)[j] = x := ⟨_, rfl⟩
          rw [hx] at hcr'
          have hsd : ∀ s ∈ segs.drop m, SegB s := fun s hs => HSB.out s (List.mem_of_mem_drop hs)
          obtain ⟨⟨hk1, hk3⟩, ⟨hn1, hn2⟩, hkn, hrB⟩ := runs_at (l := ⟨lx, ly⟩) (List.getElem?_eq_some_iff.2 ⟨hjr, hx⟩) HK.out hsd (EP.runsOf_is _).2.1
          have hdl : (segs.drop m).length = n2 := by rw [List.length_drop, HL.out]; omega
          rw [hdl] at hn2
          obtain ⟨K, rfl⟩ : ∃ K : Nat, k = (K : Int) := ⟨k.toNat, by omega⟩
          have c0 : wr.cell? ⟨gr, or + j * 2, none⟩ = some (.int .i64 (K : Int)) := hcr' 0 _ rfl
          have c1 : wr.cell? ⟨gr, or + j * 2 + 1, none⟩ = some (.int .i64 (n : Int)) := hcr' 1 _ rfl
          obtain ⟨sg, hsg⟩ : ∃ sg, segs.drop m = sg := ⟨_, rfl⟩
          have HSG : Hid (segs.drop m = sg) := hsg
          have HDR : Hid (segs.drop (m + n) = sg.drop n) := by show _ = _; rw [← hsg, List.drop_drop]
          rw [hsg] at hrB hkn hsd hdl
          have HP' : Hid (Ph w q lb (.slice (some ⟨gr, or, none⟩) R capr) (EP.runs segs) (.slice a2 n2 cap2) sg ⟨lx, ly⟩ cs wr) := by rw [← hsg]; exact HP.out
          have hE := HE.out
          rw [hsg, hrB] at hE
          obtain ⟨en, hen⟩ : ∃ en, EP.lastOf ⟨lx, ly⟩ ((sg.take n).flatMap EP.ptsOf) = en := ⟨_, rfl⟩
          rw [hen] at hE
          obtain ⟨tail, htl⟩ : ∃ tail, EP.runsB en ((EP.runs segs).drop (j + 1)) (sg.drop n) = tail := ⟨_, rfl⟩
          rw [htl] at hE
          have HT : Hid (EP.runsB en ((EP.runs segs).drop (j + 1)) (sg.drop n) = tail) := htl
          have HE2 : Hid (cs ++ EP.num ((n * 4 + K : Nat) : Int) ++ EP.way ⟨lx, ly⟩ ((sg.take n).flatMap EP.ptsOf) ++ tail = full) := by show _ = _; rw [← hE]; simp only [List.append_assoc]; rfl
          have HKN : Hid (EP.kindsOf ((EP.runs segs).drop (j + 1)) = (sg.drop n).map IC.Seg.k) := hkn
          have HSD : Hid (∀ s ∈ sg, SegB s) := hsd
          have HDL : Hid (sg.length = n2) := hdl
          have HEN : Hid (EP.lastOf ⟨lx, ly⟩ ((sg.take n).flatMap EP.ptsOf) = en) := hen
          have kc2 : Hid (∀ W, Wr W q cs → Calls Tryz.prog 49 #[.pointer (some ⟨q, 0, none⟩), .int .i64 ((n * 4 + K : Nat) : Int)] W fun e w' => e = .returned (.tuple #[]) ∧ Wr w' q (cs ++ EP.num ((n * 4 + K : Nat) : Int)) ∧ Wk q W w') := fun W hW => wcount_any q cs _ W hW (by omega) (prefix_len hE HFL.out)
          have hsl : ∀ W, (Instr.slice 70 (.slice a2 n2 cap2) none (some (.int .i64 (n : Int))) none).run Tryz.prog W = .ok (.slice a2 n cap2) W := slice_take a2 n2 cap2 n (by omega)
          obtain ⟨a3, ha3⟩ : ∃ a3, dropA a2 cap2 n = a3 := ⟨_, rfl⟩
          have HA3 : Hid (dropA a2 cap2 n = a3) := ha3
          have hsd2 : ∀ W, (Instr.slice 70 (.slice a2 n2 cap2) (some (.int .i64 (n : Int))) none none).run Tryz.prog W = .ok (.slice a3 (n2 - n) (cap2 - n)) W := fun W => by rw [← ha3]; exact slice_drop a2 n2 cap2 n hn2 W
          have zr := HP'.out.wr.lt
          clear hcr' hx HP hE hrB hkn hsd hdl hen htl ha3 hsg HE HK
          go_wp2
          go_quiet (fail)
          go_wp2_with (go_at_call 49; refine (kc2.out _ (by first | exact (HP'.out.alloc _).wr | exact ((HP'.out.alloc _).drew _).wr | exact (HP'.out.alloc _).drew1.wr)).mono ?_; rintro e w5 ⟨rfl, h5⟩
                       have H5 : Hid (Ph w q lb (.slice (some ⟨gr, or, none⟩) R capr) (EP.runs segs) (.slice a2 n2 cap2) sg ⟨lx, ly⟩ (cs ++ EP.num ((n * 4 + K : Nat) : Int)) w5) := (by first | exact ((HP'.out.alloc _).drew _).call HLQ.out h5 | exact (HP'.out.alloc _).call HLQ.out h5 | exact (HP'.out.alloc _).drew1.call HLQ.out h5)
                       clear h5)
          rename World => wa
          go_loopw [54] (fun i wr => ∃ (t : Nat) (l' : IC.Pt) (cs' : List Nat), t ≤ n ∧ i = .int .i64 t ∧ Hid (PtB l') ∧ Hid (EP.lastOf l' (((sg.take n).drop t).flatMap EP.ptsOf) = en) ∧ Hid (cs' ++ EP.way l' (((sg.take n).drop t).flatMap EP.ptsOf) ++ tail = full) ∧ Hid (Ph w q lb (.slice (some ⟨gr, or, none⟩) R capr) (EP.runs segs) (.slice a2 n2 cap2) sg l' cs' wr)) (fun i _ => n - (intOf i).toNat)
          case atStart => exact ⟨0, ⟨lx, ly⟩, _, by omega, rfl, HPL, HEN, HE2, H5⟩
          case round =>
            clear H5 HP' HE2 HEN kc2 c0 c1
            obtain ⟨t, ⟨mx, my⟩, cs', ht, rfl, HPM, HEN, HE2, HP⟩ := hrel
            by_cases htn : t < n
            · have hts : t < sg.length := by rw [HDL.out]; omega
              obtain ⟨gs, os, cap3, hv', hgs, -, -, hcs⟩ := HP.out.ss.at seg_len t hts
              obtain ⟨rfl, -⟩ : a2 = some ⟨gs, os, none⟩ ∧ _ := by simpa using hv'
              clear hv'
              have hsb := HSD.out sg[t] (List.getElem_mem hts)
              have hdr : (sg.take n).drop t = sg[t] :: (sg.take n).drop (t + 1) := by
                rw [List.drop_eq_getElem_cons (by rw [List.length_take, HDL.out]; omega), List.getElem_take]
              obtain ⟨s, hs⟩ : ∃ s, sg[t] = s := ⟨_, rfl⟩
              rw [hs] at hcs hsb hdr
              have hwa := way_append (EP.ptsOf s) (((sg.take n).drop (t + 1)).flatMap EP.ptsOf) ⟨mx, my⟩
              have hE := HE2.out
              have hN := HEN.out
              rw [hdr, List.flatMap_cons] at hE hN
              rw [hwa.1] at hE
              rw [hwa.2] at hN
              have hlb' := last_b hsb HPM.out
              have hE' : cs' ++ EP.way ⟨mx, my⟩ (EP.ptsOf s) ++ EP.way (EP.lastOf ⟨mx, my⟩ (EP.ptsOf s)) (((sg.take n).drop (t + 1)).flatMap EP.ptsOf) ++ tail = full := by rw [← hE]; simp only [List.append_assoc]
              have ks0 := fun W hW => wseg_any q cs' s ⟨mx, my⟩ W hW hsb HPM.out (by rw [← hE', List.append_assoc] at HFL; exact len_l HFL.out)
              obtain ⟨⟨nx, ny⟩, hnl⟩ : ∃ z, EP.lastOf ⟨mx, my⟩ (EP.ptsOf s) = z := ⟨_, rfl⟩
              rw [hnl] at hN hE' hlb' ks0
              have HNB : Hid (PtB ⟨nx, ny⟩) := hlb'
              have HNN : Hid (EP.lastOf ⟨nx, ny⟩ (((sg.take n).drop (t + 1)).flatMap EP.ptsOf) = en) := hN
              have HNE : Hid (cs' ++ EP.way ⟨mx, my⟩ (EP.ptsOf s) ++ EP.way ⟨nx, ny⟩ (((sg.take n).drop (t + 1)).flatMap EP.ptsOf) ++ tail = full) := hE'
              obtain ⟨sk, ⟨ax, ay⟩, ⟨bx, b_y⟩, ⟨cx, cy⟩⟩ := s
              have ks : Hid (∀ W, Wr W q cs' → Calls Tryz.prog 106 #[.pointer (some ⟨q, 0, none⟩), .agg #[.int .i64 sk, .int .i64 ax, .int .i64 ay, .int .i64 bx, .int .i64 b_y, .int .i64 cx, .int .i64 cy], .agg #[.int .i64 mx, .int .i64 my]] W fun e w' => e = .returned (.agg #[.int .i64 nx, .int .i64 ny]) ∧ Wr w' q (cs' ++ EP.way ⟨mx, my⟩ (EP.ptsOf ⟨sk, ⟨ax, ay⟩, ⟨bx, b_y⟩, ⟨cx, cy⟩⟩)) ∧ Wk q W w') := ks0
              generalize EP.way ⟨mx, my⟩ (EP.ptsOf ⟨sk, ⟨ax, ay⟩, ⟨bx, b_y⟩, ⟨cx, cy⟩⟩) = wy at ks HNE
              have c0 : wr.cell? ⟨gs, os + t * 7, none⟩ = some (.int .i64 sk) := hcs 0 _ rfl
              have c1 : wr.cell? ⟨gs, os + t * 7 + 1, none⟩ = some (.int .i64 ax) := hcs 1 _ rfl
              have c2 : wr.cell? ⟨gs, os + t * 7 + 2, none⟩ = some (.int .i64 ay) := hcs 2 _ rfl
              have c3 : wr.cell? ⟨gs, os + t * 7 + 3, none⟩ = some (.int .i64 bx) := hcs 3 _ rfl
              have c4 : wr.cell? ⟨gs, os + t * 7 + 4, none⟩ = some (.int .i64 b_y) := hcs 4 _ rfl
              have c5 : wr.cell? ⟨gs, os + t * 7 + 5, none⟩ = some (.int .i64 cx) := hcs 5 _ rfl
              have c6 : wr.cell? ⟨gs, os + t * 7 + 6, none⟩ = some (.int .i64 cy) := hcs 6 _ rfl
              obtain ⟨⟨p0, p1⟩, -, -⟩ := cells_two HP.out.at'
              simp only at p0 p1
              have zl := HP.out.at'.lt
              clear hcs hs hE hN hE' hlb' hwa hdr ks0 hsb hnl
              go_wp2_with (go_at_call 106; refine (ks.out _ (HP.out.alloc _).wr).mono ?_; rintro e w6 ⟨rfl, h6⟩
                           have H6 := hid' ((HP.out.alloc _).call HLQ.out h6)
                           obtain ⟨⟨r0, r1⟩, r2, r3⟩ := cells_two H6.out.at'
                           have z6 := H6.out.at'.lt
                           clear h6)
              go_roundw
              case rel => exact ⟨t + 1, ⟨nx, ny⟩, _, by omega, by go_num, HNB, HNN, HNE, H6.out.set HLQ.out hlw ⟨nx, ny⟩⟩
              case measure => simp [intOf]; omega
            · obtain rfl : t = n := by omega
              have hnil : (sg.take t).drop t = [] := List.drop_eq_nil_of_le (by rw [List.length_take]; omega)
              have hE := HE2.out
              have hN := HEN.out
              rw [hnil] at hE hN
              have hN' : (⟨mx, my⟩ : IC.Pt) = en := hN
              have HX : Hid (cs' ++ EP.runsB ⟨mx, my⟩ ((EP.runs segs).drop (j + 1)) (segs.drop (m + t)) = full) := by show _ = _; rw [HDR.out, hN', HT.out, ← hE]; simp [EP.way]
              clear hE hN hN' hnil
              go_wp2
              go_roundw
              case rel =>
                refine ⟨j + 1, m + t, n2 - t, cap2 - t, a3, ⟨mx, my⟩, cs', by omega, by go_num, rfl, by omega, by omega, by omega, HPM, ?_, HX, ?_⟩
                · rw [HDR.out]; exact HKN
                · rw [HDR.out, ← HA3.out]
                  exact HP.out.cut (many_drop HP.out.ss HDL.out t hn2)
              case measure => simp [intOf]; omega
        · obtain rfl : j = R := by omega
          go_wp2
          go_end0
          have hE := HE.out
          rw [List.drop_eq_nil_of_le (by rw [HR.out]; omega)] at hE
          have hE' : cs = full := by rw [← hE]; exact (List.append_nil cs).symm
          rw [← hE']
          exact ⟨rfl, HP.out.wr, HP.out.wk⟩

end Go.Proofs.YtcnlkdoifogkbaaGreatDoor

/-
  A writer writes a list of paths: walked over the program.
-/
namespace Go.Proofs.YtcnlkdoifogkbaaGreatDoor
open Go.RowKit

set_option maxRecDepth 20000 in
set_option maxHeartbeats 1000000 in
theorem wlist_path (q : Nat) (bs : List Nat) (v : Value) (l : List IC.Path) (w : World) (h : Wr w q bs) (hm : Many w 72 4 IC.Path.cells v l) (hok : ∀ x ∈ l, PathOk w x) (hb : ∀ x ∈ l, PathB x) (hn : l.length ≤ 1000000) (hl : (bs ++ (EP.num l.length ++ l.flatMap EP.path)).length ≤ 100000000000000) :
    Calls Tryz.prog 79 #[.pointer (some ⟨q, 0, none⟩), v, .func (.func 80) #[.pointer (some ⟨q, 0, none⟩)] #[]] w fun e w' => e = .returned (.tuple #[]) ∧ Wr w' q (bs ++ (EP.num l.length ++ l.flatMap EP.path)) ∧ Wk q w w' := by
  obtain ⟨ad, cap, hv, hl1, hl2⟩ := hm.len
  unfold maxLen at hl2
  obtain ⟨L, hL⟩ : ∃ L, l.length = L := ⟨_, rfl⟩
  have HL : Hid (l.length = L) := hL
  rw [hL] at hv hl1 hn hl ⊢
  subst hv
  obtain ⟨full, hF⟩ : ∃ f, bs ++ (EP.num (L : Int) ++ l.flatMap EP.path) = f := ⟨_, rfl⟩
  rw [hF] at hl ⊢
  have HF : Hid (bs ++ EP.num (L : Int) ++ l.flatMap EP.path = full) := by show _ = _; rw [← hF, List.append_assoc]
  have HFL : Hid (full.length ≤ 100000000000000) := hl
  have kc : Hid (∀ W, Wr W q bs → Calls Tryz.prog 49 #[.pointer (some ⟨q, 0, none⟩), .int .i64 L] W fun e w' => e = .returned (.tuple #[]) ∧ Wr w' q (bs ++ EP.num L) ∧ Wk q W w') := fun W hW => wcount_any q bs L W hW (by omega) (prefix_len hF hl)
  have HB : Hid (∀ x ∈ l, PathB x) := hb
  have HW : Hid (Wr w q bs) := h
  have HM : Hid (Many w 72 4 IC.Path.cells (.slice ad L cap) l ∧ ∀ x ∈ l, PathOk w x) := ⟨hm, hok⟩
  clear h hm hok hb hl hF hL
  go_enter Tryz.func79, Tryz.ntmps79
  go_wp2_with (go_at_call 49; refine (kc.out _ HW.out).mono ?_; rintro e w1 ⟨rfl, h1⟩
               have HW1 := hid' h1.1
               have HK1 := hid' h1.2
               have HM1 : Hid (Many w1 72 4 IC.Path.cells (.slice ad L cap) l ∧ ∀ x ∈ l, PathOk w1 x) := ⟨Row.wk HM.out.1 HW.out h1.2 (by decide) (by decide), fun x hx => (HM.out.2 x hx).wk HW.out h1.2⟩
               clear h1)
  go_loopw [14] (fun i wr => ∃ (k : Nat) (cs : List Nat), k ≤ L ∧ i = .int .i64 k ∧ Hid (Wr wr q cs) ∧ Hid (cs ++ (l.drop k).flatMap EP.path = full) ∧ Hid (Many wr 72 4 IC.Path.cells (.slice ad L cap) l ∧ ∀ x ∈ l, PathOk wr x) ∧ Hid (Wk q w wr)) (fun i _ => L - (intOf i).toNat)
  case atStart => exact ⟨0, _, by omega, rfl, HW1, HF, HM1, HK1⟩
  case round =>
    clear HW1 HM1 HK1 HM HW
    obtain ⟨k, cs, hk, rfl, HW, HE, HM, HK⟩ := hrel
    by_cases hkL : k < L
    · have hks : k < l.length := by rw [HL.out]; exact hkL
      obtain ⟨g, o, cap2, hv', hg, -, -, hc⟩ := HM.out.1.at path_len k hks
      obtain ⟨rfl, -⟩ : ad = some ⟨g, o, none⟩ ∧ _ := by simpa using hv'
      clear hv'
      have hok := HM.out.2 l[k] (List.getElem_mem hks)
      have hbx := HB.out l[k] (List.getElem_mem hks)
      have hE := HE.out
      rw [List.drop_eq_getElem_cons hks, List.flatMap_cons, ← List.append_assoc] at hE
      obtain ⟨x, hx⟩ : ∃ x, l[k] = x := ⟨_, rfl⟩
      rw [hx] at hc hok hbx hE
      have HNE : Hid (cs ++ EP.path x ++ (l.drop (k + 1)).flatMap EP.path = full) := hE
      have hlen : (cs ++ EP.path x).length ≤ 100000000000000 := prefix_len hE HFL.out
      obtain ⟨⟨sx, sy⟩, vs, segs, cl⟩ := x
      obtain ⟨ad2, cap3, hv2, -, -⟩ := Many.len hok
      replace hv2 : vs = .slice ad2 segs.length cap3 := hv2
      generalize segs.length = n2 at hv2
      subst hv2
      have kk : Hid (∀ W, Below wr.heap.size wr W → Wr W q cs → Calls Tryz.prog 80 #[.pointer (some ⟨q, 0, none⟩), .agg #[.int .i64 sx, .int .i64 sy, (.slice ad2 n2 cap3), .bool cl]] W fun e w' => e = .returned (.tuple #[]) ∧ Wr w' q (cs ++ EP.path ⟨⟨sx, sy⟩, (.slice ad2 n2 cap3), segs, cl⟩) ∧ Wk q W w') := fun W hbw hW => wpath_any q cs ⟨⟨sx, sy⟩, (.slice ad2 n2 cap3), segs, cl⟩ W hW (hok.below hbw) hbx hlen
      generalize EP.path ⟨⟨sx, sy⟩, (.slice ad2 n2 cap3), segs, cl⟩ = wy at kk HNE
      have c0 : wr.cell? ⟨g, o + k * 4, none⟩ = some (.int .i64 sx) := hc 0 _ rfl
      have c1 : wr.cell? ⟨g, o + k * 4 + 1, none⟩ = some (.int .i64 sy) := hc 1 _ rfl
      have c2 : wr.cell? ⟨g, o + k * 4 + 2, none⟩ = some ((.slice ad2 n2 cap3)) := hc 2 _ rfl
      have c3 : wr.cell? ⟨g, o + k * 4 + 3, none⟩ = some (.bool cl) := hc 3 _ rfl
      clear hc hx hE hlen hok hbx
      go_wp2_with (go_at_call 80; refine (kk.out _ ((Below.refl _ _).alloc (Nat.le_refl _) _) (HW.out.alloc _)).mono ?_; rintro e w2 ⟨rfl, h2⟩
                   have HW2 := hid' h2.1
                   have HM2 : Hid (Many w2 72 4 IC.Path.cells (.slice (some ⟨g, o, none⟩) L cap) l ∧ ∀ x ∈ l, PathOk w2 x) := ⟨Row.wk (Row.below HM.out.1 ((Below.refl _ _).alloc (Nat.le_refl _) _)) (HW.out.alloc _) h2.2 (by decide) (by decide), fun x hx => ((HM.out.2 x hx).below ((Below.refl _ _).alloc (Nat.le_refl _) _)).wk (HW.out.alloc _) h2.2⟩
                   have HK2 : Hid (Wk q w w2) := (HK.out.alloc _).trans h2.2
                   clear h2)
      go_roundw
      case rel => exact ⟨k + 1, _, by omega, by go_num, HW2, HNE, HM2, HK2⟩
      case measure => simp [intOf]; omega
    · obtain rfl : k = L := by omega
      go_wp2
      go_end0
      have hE := HE.out
      rw [List.drop_eq_nil_of_le (by rw [HL.out]; omega)] at hE
      have hE' : cs = full := by rw [← hE]; simp
      rw [← hE']
      exact ⟨rfl, HW.out, HK.out⟩

end Go.Proofs.YtcnlkdoifogkbaaGreatDoor

/-
  A writer writes a command, a list of commands: walked over the program.
-/
namespace Go.Proofs.YtcnlkdoifogkbaaGreatDoor
open Go.RowKit

theorem eleven_cells {w : World} {b : Nat} {t : TypeId} {v0 v1 v2 v3 v4 v5 v6 v7 v8 v9 v10 : Value} (h : Blk w b t #[v0, v1, v2, v3, v4, v5, v6, v7, v8, v9, v10]) : w.cell? ⟨b, 0, none⟩ = some v0 ∧ w.cell? ⟨b, 1, none⟩ = some v1 ∧ w.cell? ⟨b, 2, none⟩ = some v2 ∧ w.cell? ⟨b, 3, none⟩ = some v3 ∧ w.cell? ⟨b, 4, none⟩ = some v4 ∧ w.cell? ⟨b, 5, none⟩ = some v5 ∧ w.cell? ⟨b, 6, none⟩ = some v6 ∧ w.cell? ⟨b, 7, none⟩ = some v7 ∧ w.cell? ⟨b, 8, none⟩ = some v8 ∧ w.cell? ⟨b, 9, none⟩ = some v9 ∧ w.cell? ⟨b, 10, none⟩ = some v10 :=
  ⟨h.cell 0, h.cell 1, h.cell 2, h.cell 3, h.cell 4, h.cell 5, h.cell 6, h.cell 7, h.cell 8, h.cell 9, h.cell 10⟩

structure CmdB (c : IC.Cmd) : Prop where
  k : c.k = 1 ∨ c.k = 2
  r : 0 ≤ c.r ∧ c.r ≤ 1000
  wd : NumB c.wd
  pk : 0 ≤ c.pn.k ∧ c.pn.k ≤ 1000
  pn : PaintB c.pn
  few : c.paths.length ≤ 1000000
  paths : ∀ p ∈ c.paths, PathB p

set_option maxRecDepth 20000 in
set_option maxHeartbeats 1000000 in
theorem wcmd_any (q : Nat) (bs : List Nat) (c : IC.Cmd) (w : World) (h : Wr w q bs) (hc : CmdOk w c) (hb : CmdB c) (hl : (bs ++ EP.cmd c).length ≤ 100000000000000) :
    Calls Tryz.prog 53 #[.pointer (some ⟨q, 0, none⟩), .agg c.cells.toArray] w fun e w' => e = .returned (.tuple #[]) ∧ Wr w' q (bs ++ EP.cmd c) ∧ Wk q w w' := by
  obtain ⟨ck, cr, cw, ⟨pk, pa, pb, ⟨px, py⟩, ⟨qx, qy⟩⟩, vp, paths⟩ := c
  obtain ⟨hk, hr, hwd, hpk, hpn, hfew, hpaths⟩ := hb
  simp only at hk hr hwd hpk hpn hfew hpaths
  obtain ⟨ad, cap, hv, -, -⟩ := hc.1.len
  replace hv : vp = .slice ad paths.length cap := hv
  have HM : Hid (Many w 72 4 IC.Path.cells vp paths ∧ ∀ x ∈ paths, PathOk w x) := hc
  obtain ⟨F, hF⟩ : ∃ F : Nat, ck - 1 + cr * 2 + pk * 4 = (F : Int) := ⟨(ck - 1 + cr * 2 + pk * 4).toNat, by omega⟩
  have hFb : F ≤ 10000000 := by omega
  obtain ⟨D, rfl⟩ : ∃ D : Nat, cw = (D : Int) := ⟨cw.toNat, by have := hwd.1; omega⟩
  have hD : D ≤ 9223372036854775807 := by have := hwd.2; omega
  obtain ⟨full, hFu⟩ : ∃ f, bs ++ EP.cmd ⟨ck, cr, D, ⟨pk, pa, pb, ⟨px, py⟩, ⟨qx, qy⟩⟩, vp, paths⟩ = f := ⟨_, rfl⟩
  rw [hFu] at hl ⊢
  unfold EP.cmd at hFu
  simp only [hF] at hFu
  simp only [← List.append_assoc] at hFu
  have hq := h.lt
  have H0 : Hid (Bx w q w.heap.size 62 #[.int .i64 ck, .int .i64 cr, .int .i64 D, .int .i64 pk, .int .i64 pa, .int .i64 pb, .int .i64 px, .int .i64 py, .int .i64 qx, .int .i64 qy, vp] bs (w.alloc (.cells #[.int .i64 ck, .int .i64 cr, .int .i64 D, .int .i64 pk, .int .i64 pa, .int .i64 pb, .int .i64 px, .int .i64 py, .int .i64 qx, .int .i64 qy, vp] 62))) := Bx.new h _ _
  have HM0 : Hid (Many (w.alloc (.cells #[.int .i64 ck, .int .i64 cr, .int .i64 D, .int .i64 pk, .int .i64 pa, .int .i64 pb, .int .i64 px, .int .i64 py, .int .i64 qx, .int .i64 qy, vp] 62)) 72 4 IC.Path.cells vp paths ∧ ∀ x ∈ paths, PathOk (w.alloc (.cells #[.int .i64 ck, .int .i64 cr, .int .i64 D, .int .i64 pk, .int .i64 pa, .int .i64 pb, .int .i64 px, .int .i64 py, .int .i64 qx, .int .i64 qy, vp] 62)) x) := ⟨Row.below HM.out.1 ((Below.refl _ _).alloc (Nat.le_refl _) _), fun x hx => (HM.out.2 x hx).below ((Below.refl _ _).alloc (Nat.le_refl _) _)⟩
  have HQ : Hid (w.heap.size ≠ q) := by show _ ≠ _; omega
  have hfl := hl
  rw [← hFu] at hfl
  have l4 := len_l (len_l hfl)
  have l3 := len_l l4
  have l2 := len_l l3
  have l1 := len_l l2
  have kc : Hid (∀ W, Wr W q bs → Calls Tryz.prog 49 #[.pointer (some ⟨q, 0, none⟩), .int .i64 F] W fun e w' => e = .returned (.tuple #[]) ∧ Wr w' q (bs ++ EP.num F) ∧ Wk q W w') := fun W hW => wcount_any q bs F W hW (by omega) l1
  have kp : Hid (∀ W cs, cs ++ EP.paint ⟨pk, pa, pb, ⟨px, py⟩, ⟨qx, qy⟩⟩ ++ EP.num paths.length ++ paths.flatMap EP.path = full → Wr W q cs → Calls Tryz.prog 78 #[.pointer (some ⟨q, 0, none⟩), .agg #[.int .i64 pk, .int .i64 pa, .int .i64 pb, .int .i64 px, .int .i64 py, .int .i64 qx, .int .i64 qy]] W fun e w' => e = .returned (.tuple #[]) ∧ Wr w' q (cs ++ EP.paint ⟨pk, pa, pb, ⟨px, py⟩, ⟨qx, qy⟩⟩) ∧ Wk q W w') := fun W cs hcs hW => wpaint_any q cs _ W hW hpn (by have := hl; rw [← hcs] at this; exact len_l (len_l this))
  have kl : Hid (∀ W cs, cs ++ EP.num paths.length ++ paths.flatMap EP.path = full → Wr W q cs → Many W 72 4 IC.Path.cells vp paths → (∀ x ∈ paths, PathOk W x) → Calls Tryz.prog 79 #[.pointer (some ⟨q, 0, none⟩), vp, .func (.func 80) #[.pointer (some ⟨q, 0, none⟩)] #[]] W fun e w' => e = .returned (.tuple #[]) ∧ Wr w' q full ∧ Wk q W w') := fun W cs hcs hW h1 h2 => by
    have := wlist_path q cs vp paths W hW h1 h2 hpaths hfew (by rw [← List.append_assoc, hcs]; exact hl)
    rw [← List.append_assoc, hcs] at this
    exact this
  have hmf : ∀ (fn : Fn) (first cap : Array Value) (w : World), (Instr.makeFunc fn first cap).run Tryz.prog w = .ok (.func fn first cap) w := fun _ _ _ _ => rfl
  have hk1 : 1 ≤ ck ∧ ck ≤ 2 := by omega
  have hkk1 := hk1.1
  have hkk2 := hk1.2
  have r1 := hr.1
  have r2 := hr.2
  have p1 := hpk.1
  have p2 := hpk.2
  have HFF : Hid (ck - 1 + cr * 2 + pk * 4 = (F : Int)) := hF
  subst hv
  simp only [IC.Cmd.cells]
  rcases hk with hk | hk
  · have hk2 : (ck == 2) = false := by rw [hk]; rfl
    rw [hk2] at hFu
    have HFu : Hid (bs ++ EP.num F ++ EP.paint ⟨pk, pa, pb, ⟨px, py⟩, ⟨qx, qy⟩⟩ ++ EP.num paths.length ++ paths.flatMap EP.path = full) := by show _ = _; rw [← hFu]; simp
    clear h hc hl hfl l1 l2 l3 l4 hFu hk hpn hpaths HM hwd hk1 hr hpk hF
    go_enter Tryz.func53, Tryz.ntmps53
    go_wp2_with (first
      | (go_at_call 49; (try rw [HFF.out]); refine (kc.out _ H0.out.wr).mono ?_; rintro e w1 ⟨rfl, h1⟩
         have HM1 : Hid (Many w1 72 4 IC.Path.cells (.slice ad paths.length cap) paths ∧ ∀ x ∈ paths, PathOk w1 x) := ⟨Row.wk HM0.out.1 H0.out.wr h1.2 (by decide) (by decide), fun x hx => (HM0.out.2 x hx).wk H0.out.wr h1.2⟩
         have H1 := hid' (H0.out.step (by decide) HQ.out h1)
         obtain ⟨c0, c1, c2, c3, c4, c5, c6, c7, c8, c9, c10⟩ := eleven_cells H1.out.box
         clear h1)
      | (go_at_call 78; refine (kp.out _ _ HFu.out H1.out.wr).mono ?_; rintro e w3 ⟨rfl, h3⟩
         have HM3 : Hid (Many w3 72 4 IC.Path.cells (.slice ad paths.length cap) paths ∧ ∀ x ∈ paths, PathOk w3 x) := ⟨Row.wk HM1.out.1 H1.out.wr h3.2 (by decide) (by decide), fun x hx => (HM1.out.2 x hx).wk H1.out.wr h3.2⟩
         have H3 := hid' (H1.out.step (by decide) HQ.out h3)
         obtain ⟨e0, e1, e2, e3, e4, e5, e6, e7, e8, e9, e10⟩ := eleven_cells H3.out.box
         clear h3)
      | (go_at_call 79; refine (kl.out _ _ HFu.out H3.out.wr HM3.out.1 HM3.out.2).mono ?_; rintro e w4 ⟨rfl, h4⟩))
    go_end0
    exact ⟨rfl, h4.1, H3.out.wk.trans h4.2⟩
  · have hk2 : (ck == 2) = true := by rw [hk]; rfl
    rw [hk2] at hFu
    have HFu : Hid (bs ++ EP.num F ++ EP.num D ++ EP.paint ⟨pk, pa, pb, ⟨px, py⟩, ⟨qx, qy⟩⟩ ++ EP.num paths.length ++ paths.flatMap EP.path = full) := by show _ = _; rw [← hFu]; simp
    have kd : Hid (∀ W, Wr W q (bs ++ EP.num F) → Calls Tryz.prog 77 #[.pointer (some ⟨q, 0, none⟩), .int .u64 D] W fun e w' => e = .returned (.tuple #[]) ∧ Wr w' q (bs ++ EP.num F ++ EP.num D) ∧ Wk q W w') := fun W hW => wnum_any q _ D W hW (by omega) l2
    clear h hc hl hfl l1 l2 l3 l4 hFu hk hpn hpaths HM hwd hk1 hr hpk hF
    go_enter Tryz.func53, Tryz.ntmps53
    go_wp2_with (first
      | (go_at_call 49; (try rw [HFF.out]); refine (kc.out _ H0.out.wr).mono ?_; rintro e w1 ⟨rfl, h1⟩
         have HM1 : Hid (Many w1 72 4 IC.Path.cells (.slice ad paths.length cap) paths ∧ ∀ x ∈ paths, PathOk w1 x) := ⟨Row.wk HM0.out.1 H0.out.wr h1.2 (by decide) (by decide), fun x hx => (HM0.out.2 x hx).wk H0.out.wr h1.2⟩
         have H1 := hid' (H0.out.step (by decide) HQ.out h1)
         obtain ⟨c0, c1, c2, c3, c4, c5, c6, c7, c8, c9, c10⟩ := eleven_cells H1.out.box
         clear h1)
      | (go_at_call 77; refine (kd.out _ H1.out.wr).mono ?_; rintro e w2 ⟨rfl, h2⟩
         have HM2 : Hid (Many w2 72 4 IC.Path.cells (.slice ad paths.length cap) paths ∧ ∀ x ∈ paths, PathOk w2 x) := ⟨Row.wk HM1.out.1 H1.out.wr h2.2 (by decide) (by decide), fun x hx => (HM1.out.2 x hx).wk H1.out.wr h2.2⟩
         have H2 := hid' (H1.out.step (by decide) HQ.out h2)
         obtain ⟨d0, d1, d2, d3, d4, d5, d6, d7, d8, d9, d10⟩ := eleven_cells H2.out.box
         clear h2)
      | (go_at_call 78; refine (kp.out _ _ HFu.out H2.out.wr).mono ?_; rintro e w3 ⟨rfl, h3⟩
         have HM3 : Hid (Many w3 72 4 IC.Path.cells (.slice ad paths.length cap) paths ∧ ∀ x ∈ paths, PathOk w3 x) := ⟨Row.wk HM2.out.1 H2.out.wr h3.2 (by decide) (by decide), fun x hx => (HM2.out.2 x hx).wk H2.out.wr h3.2⟩
         have H3 := hid' (H2.out.step (by decide) HQ.out h3)
         obtain ⟨e0, e1, e2, e3, e4, e5, e6, e7, e8, e9, e10⟩ := eleven_cells H3.out.box
         clear h3)
      | (go_at_call 79; refine (kl.out _ _ HFu.out H3.out.wr HM3.out.1 HM3.out.2).mono ?_; rintro e w4 ⟨rfl, h4⟩))
    go_end0
    exact ⟨rfl, h4.1, H3.out.wk.trans h4.2⟩

set_option maxRecDepth 20000 in
set_option maxHeartbeats 1000000 in
theorem wlist_cmd (q : Nat) (bs : List Nat) (v : Value) (l : List IC.Cmd) (w : World) (h : Wr w q bs) (hm : Many w 62 11 IC.Cmd.cells v l) (hok : ∀ x ∈ l, CmdOk w x) (hb : ∀ x ∈ l, CmdB x) (hn : l.length ≤ 1000000) (hl : (bs ++ (EP.num l.length ++ l.flatMap EP.cmd)).length ≤ 100000000000000) :
    Calls Tryz.prog 52 #[.pointer (some ⟨q, 0, none⟩), v, .func (.func 53) #[.pointer (some ⟨q, 0, none⟩)] #[]] w fun e w' => e = .returned (.tuple #[]) ∧ Wr w' q (bs ++ (EP.num l.length ++ l.flatMap EP.cmd)) ∧ Wk q w w' := by
  obtain ⟨ad, cap, hv, hl1, hl2⟩ := hm.len
  unfold maxLen at hl2
  obtain ⟨L, hL⟩ : ∃ L, l.length = L := ⟨_, rfl⟩
  have HL : Hid (l.length = L) := hL
  rw [hL] at hv hl1 hn hl ⊢
  subst hv
  obtain ⟨full, hF⟩ : ∃ f, bs ++ (EP.num (L : Int) ++ l.flatMap EP.cmd) = f := ⟨_, rfl⟩
  rw [hF] at hl ⊢
  have HF : Hid (bs ++ EP.num (L : Int) ++ l.flatMap EP.cmd = full) := by show _ = _; rw [← hF, List.append_assoc]
  have HFL : Hid (full.length ≤ 100000000000000) := hl
  have kc : Hid (∀ W, Wr W q bs → Calls Tryz.prog 49 #[.pointer (some ⟨q, 0, none⟩), .int .i64 L] W fun e w' => e = .returned (.tuple #[]) ∧ Wr w' q (bs ++ EP.num L) ∧ Wk q W w') := fun W hW => wcount_any q bs L W hW (by omega) (prefix_len hF hl)
  have HB : Hid (∀ x ∈ l, CmdB x) := hb
  have HW : Hid (Wr w q bs) := h
  have HM : Hid (Many w 62 11 IC.Cmd.cells (.slice ad L cap) l ∧ ∀ x ∈ l, CmdOk w x) := ⟨hm, hok⟩
  clear h hm hok hb hl hF hL
  go_enter Tryz.func52, Tryz.ntmps52
  go_wp2_with (go_at_call 49; refine (kc.out _ HW.out).mono ?_; rintro e w1 ⟨rfl, h1⟩
               have HW1 := hid' h1.1
               have HK1 := hid' h1.2
               have HM1 : Hid (Many w1 62 11 IC.Cmd.cells (.slice ad L cap) l ∧ ∀ x ∈ l, CmdOk w1 x) := ⟨Row.wk HM.out.1 HW.out h1.2 (by decide) (by decide), fun x hx => (HM.out.2 x hx).wk HW.out h1.2⟩
               clear h1)
  go_loopw [14] (fun i wr => ∃ (k : Nat) (cs : List Nat), k ≤ L ∧ i = .int .i64 k ∧ Hid (Wr wr q cs) ∧ Hid (cs ++ (l.drop k).flatMap EP.cmd = full) ∧ Hid (Many wr 62 11 IC.Cmd.cells (.slice ad L cap) l ∧ ∀ x ∈ l, CmdOk wr x) ∧ Hid (Wk q w wr)) (fun i _ => L - (intOf i).toNat)
  case atStart => exact ⟨0, _, by omega, rfl, HW1, HF, HM1, HK1⟩
  case round =>
    clear HW1 HM1 HK1 HM HW
    obtain ⟨k, cs, hk, rfl, HW, HE, HM, HK⟩ := hrel
    by_cases hkL : k < L
    · have hks : k < l.length := by rw [HL.out]; exact hkL
      obtain ⟨g, o, cap2, hv', hg, -, -, hc⟩ := HM.out.1.at cmd_len k hks
      obtain ⟨rfl, -⟩ : ad = some ⟨g, o, none⟩ ∧ _ := by simpa using hv'
      clear hv'
      have hok := HM.out.2 l[k] (List.getElem_mem hks)
      have hbx := HB.out l[k] (List.getElem_mem hks)
      have hE := HE.out
      rw [List.drop_eq_getElem_cons hks, List.flatMap_cons, ← List.append_assoc] at hE
      obtain ⟨x, hx⟩ : ∃ x, l[k] = x := ⟨_, rfl⟩
      rw [hx] at hc hok hbx hE
      have HNE : Hid (cs ++ EP.cmd x ++ (l.drop (k + 1)).flatMap EP.cmd = full) := hE
      have hlen : (cs ++ EP.cmd x).length ≤ 100000000000000 := prefix_len hE HFL.out
      obtain ⟨ck, cr, cw, ⟨pk, pa, pb, ⟨px, py⟩, ⟨qx, qy⟩⟩, vp, paths⟩ := x
      obtain ⟨ad2, cap3, hv2, -, -⟩ := Many.len hok.1
      replace hv2 : vp = .slice ad2 paths.length cap3 := hv2
      generalize paths.length = n2 at hv2
      subst hv2
      have kk : Hid (∀ W, Below wr.heap.size wr W → Wr W q cs → Calls Tryz.prog 53 #[.pointer (some ⟨q, 0, none⟩), .agg #[.int .i64 ck, .int .i64 cr, .int .i64 cw, .int .i64 pk, .int .i64 pa, .int .i64 pb, .int .i64 px, .int .i64 py, .int .i64 qx, .int .i64 qy, (.slice ad2 n2 cap3)]] W fun e w' => e = .returned (.tuple #[]) ∧ Wr w' q (cs ++ EP.cmd ⟨ck, cr, cw, ⟨pk, pa, pb, ⟨px, py⟩, ⟨qx, qy⟩⟩, (.slice ad2 n2 cap3), paths⟩) ∧ Wk q W w') := fun W hbw hW => wcmd_any q cs ⟨ck, cr, cw, ⟨pk, pa, pb, ⟨px, py⟩, ⟨qx, qy⟩⟩, (.slice ad2 n2 cap3), paths⟩ W hW (hok.below hbw) hbx hlen
      generalize EP.cmd ⟨ck, cr, cw, ⟨pk, pa, pb, ⟨px, py⟩, ⟨qx, qy⟩⟩, (.slice ad2 n2 cap3), paths⟩ = wy at kk HNE
      have c0 : wr.cell? ⟨g, o + k * 11, none⟩ = some (.int .i64 ck) := hc 0 _ rfl
      have c1 : wr.cell? ⟨g, o + k * 11 + 1, none⟩ = some (.int .i64 cr) := hc 1 _ rfl
      have c2 : wr.cell? ⟨g, o + k * 11 + 2, none⟩ = some (.int .i64 cw) := hc 2 _ rfl
      have c3 : wr.cell? ⟨g, o + k * 11 + 3, none⟩ = some (.int .i64 pk) := hc 3 _ rfl
      have c4 : wr.cell? ⟨g, o + k * 11 + 4, none⟩ = some (.int .i64 pa) := hc 4 _ rfl
      have c5 : wr.cell? ⟨g, o + k * 11 + 5, none⟩ = some (.int .i64 pb) := hc 5 _ rfl
      have c6 : wr.cell? ⟨g, o + k * 11 + 6, none⟩ = some (.int .i64 px) := hc 6 _ rfl
      have c7 : wr.cell? ⟨g, o + k * 11 + 7, none⟩ = some (.int .i64 py) := hc 7 _ rfl
      have c8 : wr.cell? ⟨g, o + k * 11 + 8, none⟩ = some (.int .i64 qx) := hc 8 _ rfl
      have c9 : wr.cell? ⟨g, o + k * 11 + 9, none⟩ = some (.int .i64 qy) := hc 9 _ rfl
      have c10 : wr.cell? ⟨g, o + k * 11 + 10, none⟩ = some ((.slice ad2 n2 cap3)) := hc 10 _ rfl
      clear hc hx hE hlen hok hbx
      go_wp2_with (go_at_call 53; refine (kk.out _ ((Below.refl _ _).alloc (Nat.le_refl _) _) (HW.out.alloc _)).mono ?_; rintro e w2 ⟨rfl, h2⟩
                   have HW2 := hid' h2.1
                   have HM2 : Hid (Many w2 62 11 IC.Cmd.cells (.slice (some ⟨g, o, none⟩) L cap) l ∧ ∀ x ∈ l, CmdOk w2 x) := ⟨Row.wk (Row.below HM.out.1 ((Below.refl _ _).alloc (Nat.le_refl _) _)) (HW.out.alloc _) h2.2 (by decide) (by decide), fun x hx => ((HM.out.2 x hx).below ((Below.refl _ _).alloc (Nat.le_refl _) _)).wk (HW.out.alloc _) h2.2⟩
                   have HK2 : Hid (Wk q w w2) := (HK.out.alloc _).trans h2.2
                   clear h2)
      go_roundw
      case rel => exact ⟨k + 1, _, by omega, by go_num, HW2, HNE, HM2, HK2⟩
      case measure => simp [intOf]; omega
    · obtain rfl : k = L := by omega
      go_wp2
      go_end0
      have hE := HE.out
      rw [List.drop_eq_nil_of_le (by rw [HL.out]; omega)] at hE
      have hE' : cs = full := by rw [← hE]; simp
      rw [← hE']
      exact ⟨rfl, HW.out, HK.out⟩

end Go.Proofs.YtcnlkdoifogkbaaGreatDoor

/-
  What Check takes is within bounds: its numbers, and how long its bytes are.
-/
namespace Go.Proofs.YtcnlkdoifogkbaaGreatDoor
open Go.RowKit

theorem first_zero {α : Type} (f : α → Nat) : ∀ (l : List α), IC.firstOf f l = 0 → ∀ x ∈ l, f x = 0 := by
  intro l
  induction l with
  | nil => intro _ x hx; simp at hx
  | cons y r ih =>
    intro h x hx
    unfold IC.firstOf at h
    split at h
    · rcases List.mem_cons.1 hx with rfl | hx
      · assumption
      · exact ih h x hx
    · exact absurd h (by assumption)

theorem within_is {n lo hi : Int} (h : IC.within n lo hi = true) : lo ≤ n ∧ n ≤ hi := by
  unfold IC.within at h
  simpa using h
theorem reach_is {far : Int} {p : IC.Pt} (h : IC.reach far p = true) : (-far ≤ p.x ∧ p.x ≤ far) ∧ (-far ≤ p.y ∧ p.y ≤ far) := by
  unfold IC.reach at h
  rw [Bool.and_eq_true] at h
  exact ⟨within_is h.1, within_is h.2⟩
theorem zero_is {p : IC.Pt} (h : IC.zero p = true) : p.x = 0 ∧ p.y = 0 := by
  unfold IC.zero at h
  simpa using h

theorem ptb_reach {far : Int} {p : IC.Pt} (hf : 0 ≤ far ∧ far ≤ 1048576) (h : IC.reach far p = true) : PtB p := by
  have := reach_is h
  unfold PtB
  omega
theorem ptb_zero {p : IC.Pt} (h : IC.zero p = true) : PtB p := by
  have := zero_is h
  unfold PtB
  omega

theorem seg_chk {far : Int} {s : IC.Seg} (hf : 0 ≤ far ∧ far ≤ 1048576) (h : IC.chkSeg far s = 0) : SegB s ∧ (s.k < 2 → s.b.x = 0 ∧ s.b.y = 0) ∧ (s.k < 3 → s.c.x = 0 ∧ s.c.y = 0) := by
  obtain ⟨k, a, b, c⟩ := s
  unfold IC.chkSeg at h
  split at h
  · cases h
  rename_i h1
  split at h
  · cases h
  rename_i h2
  split at h
  · cases h
  rename_i h3
  simp only [Bool.not_eq_true, Bool.not_eq_false'] at h1 h2 h3
  obtain ⟨k1, k3⟩ := within_is h1
  have hk : k = 1 ∨ k = 2 ∨ k = 3 := by omega
  unfold SegB
  rcases hk with rfl | rfl | rfl
  · simp [IC.Seg.pts] at h2 h3
    exact ⟨⟨by simp, ptb_reach hf h2, ptb_zero h3.1, ptb_zero h3.2⟩, fun _ => zero_is h3.1, fun _ => zero_is h3.2⟩
  · simp [IC.Seg.pts] at h2 h3
    exact ⟨⟨by simp, ptb_reach hf h2.1, ptb_reach hf h2.2, ptb_zero h3⟩, fun h => absurd h (by simp), fun _ => zero_is h3⟩
  · simp [IC.Seg.pts] at h2 h3
    exact ⟨⟨by simp, ptb_reach hf h2.1, ptb_reach hf h2.2.1, ptb_reach hf h2.2.2⟩, fun h => absurd h (by simp), fun h => absurd h (by simp)⟩

theorem path_chk {far : Int} {p : IC.Path} (hf : 0 ≤ far ∧ far ≤ 1048576) (h : IC.chkPath far p = 0) : PathB p ∧ p.segs.length ≤ 400 ∧ 1 ≤ p.segs.length := by
  unfold IC.chkPath at h
  split at h
  · cases h
  rename_i h1
  split at h
  · cases h
  rename_i h2
  split at h
  · cases h
  rename_i h3
  simp only [Bool.not_eq_true, Bool.not_eq_false'] at h3
  exact ⟨⟨ptb_reach hf h3, fun s hs => (seg_chk hf (first_zero _ _ h s hs)).1, by omega⟩, by omega, by omega⟩

theorem paint_chk {far n : Int} {p : IC.Paint} (hf : 0 ≤ far ∧ far ≤ 1048576) (hn : n ≤ 256) (h : IC.chkPaint far n p = 0) : PaintB p ∧ (0 ≤ p.k ∧ p.k ≤ 2) := by
  unfold IC.chkPaint at h
  split at h
  · rename_i hk
    have hk : p.k = 0 := by simpa using hk
    unfold IC.chkFlat at h
    split at h
    · cases h
    rename_i h1
    split at h
    · cases h
    rename_i h2
    simp at h1 h2
    obtain ⟨a1, a2⟩ := within_is h1
    refine ⟨⟨⟨a1, by omega⟩, ⟨by omega, by omega⟩, ptb_zero h2.1.2, ptb_zero h2.2, fun h => absurd hk h⟩, by omega, by omega⟩
  · rename_i hk0
    split at h
    · rename_i hk
      have hk : p.k = 1 := by simpa using hk
      unfold IC.chkLinear at h
      split at h
      · cases h
      rename_i h1
      simp at h1
      obtain ⟨a1, a2⟩ := within_is h1.1.1.1.1
      obtain ⟨b1, b2⟩ := within_is h1.1.1.1.2
      exact ⟨⟨⟨a1, by omega⟩, ⟨b1, by omega⟩, ptb_reach hf h1.1.1.2, ptb_reach hf h1.1.2, fun _ h => absurd hk h⟩, by omega, by omega⟩
    · split at h
      · rename_i hk
        have hk : p.k = 2 := by simpa using hk
        unfold IC.chkRadial at h
        split at h
        · cases h
        rename_i h1
        split at h
        · cases h
        rename_i h2
        simp at h1 h2
        obtain ⟨a1, a2⟩ := within_is h1.1.1.1
        obtain ⟨b1, b2⟩ := within_is h1.1.1.2
        obtain ⟨c1, c2⟩ := within_is h1.2
        refine ⟨⟨⟨a1, by omega⟩, ⟨b1, by omega⟩, ptb_reach hf h1.1.2, ?_, fun _ _ => ⟨by omega, by omega⟩⟩, by omega, by omega⟩
        unfold PtB
        omega
      · cases h

theorem cmd_chk {far n : Int} {c : IC.Cmd} (hf : 0 ≤ far ∧ far ≤ 1048576) (hn : n ≤ 256) (h : IC.chkCmd far n c = 0) : CmdB c ∧ c.paths.length ≤ 200 ∧ ∀ p ∈ c.paths, p.segs.length ≤ 400 := by
  unfold IC.chkCmd at h
  split at h
  · cases h
  rename_i h1
  split at h
  · exact absurd h (by assumption)
  rename_i h2
  split at h
  · cases h
  rename_i h3
  split at h
  · cases h
  rename_i h4
  have h2' : IC.chkPaint far n c.pn = 0 := by omega
  have hp := paint_chk hf hn h2'
  have hps : ∀ p ∈ c.paths, IC.chkPath far p = 0 := fun p hp => by
    have := first_zero _ _ h p hp
    unfold IC.chkOne at this
    split at this
    · cases this
    · exact this
  have hh : (c.k = 1 ∧ (c.r = 0 ∨ c.r = 1) ∧ c.wd = 0) ∨ (c.k = 2 ∧ c.r = 0 ∧ 1 ≤ c.wd ∧ c.wd ≤ far) := by
    simp only [Bool.not_eq_true, Bool.not_eq_false'] at h1
    unfold IC.headed at h1
    split at h1
    · rename_i hk; simp at h1 hk; exact .inl ⟨hk, h1.1, h1.2⟩
    · split at h1
      · rename_i hk; simp at h1 hk; exact .inr ⟨hk, h1.1, within_is h1.2⟩
      · cases h1
  refine ⟨⟨by omega, by omega, ⟨by omega, by omega⟩, by omega, hp.1, by omega, fun p hp => (path_chk hf (hps p hp)).1⟩, by omega, fun p hp => (path_chk hf (hps p hp)).2.1⟩

structure IconB (i : IC.Icon) : Prop where
  w : 1 ≤ i.w ∧ i.w ≤ 4096
  h : 1 ≤ i.h ∧ i.h ≤ 4096
  s : 0 ≤ i.s ∧ i.s ≤ 6
  cols : i.cols.length ≤ 256
  cmds : i.cmds.length ≤ 200
  cmd : ∀ c ∈ i.cmds, CmdB c ∧ c.paths.length ≤ 200 ∧ ∀ p ∈ c.paths, p.segs.length ≤ 400

theorem greatest_in {i : IC.Icon} (h : IC.sized i = true) : 0 ≤ IC.greatest i ∧ IC.greatest i ≤ 1048576 := by
  unfold IC.greatest
  rw [if_pos h]
  unfold IC.sized at h
  rw [Bool.and_eq_true, Bool.and_eq_true] at h
  obtain ⟨h1, h2, h3⟩ := h
  have h1 := within_is h1
  have h2 := within_is h2
  have h3 := within_is h3
  have hm : 1 ≤ max i.w i.h ∧ max i.w i.h ≤ 4096 := by rw [Int.max_def]; split <;> omega
  generalize max i.w i.h = x at hm
  have hs : i.s.toNat = 0 ∨ i.s.toNat = 1 ∨ i.s.toNat = 2 ∨ i.s.toNat = 3 ∨ i.s.toNat = 4 ∨ i.s.toNat = 5 ∨ i.s.toNat = 6 := by omega
  rcases hs with e | e | e | e | e | e | e <;> rw [e] <;> simp only [Int.reducePow] <;> omega

theorem icon_chk {i : IC.Icon} (h : IC.chk i = 0) : IconB i := by
  unfold IC.chk at h
  split at h
  · cases h
  rename_i h1
  simp only [Bool.not_eq_true, Bool.not_eq_false'] at h1
  split at h
  · cases h
  rename_i h2
  split at h
  · exact absurd h (by assumption)
  rename_i h3
  have h3' : IC.firstOf (IC.chkCmd (IC.greatest i) i.cols.length) i.cmds = 0 := by omega
  have hg := greatest_in h1
  have h1' := h1
  unfold IC.sized at h1'
  rw [Bool.and_eq_true, Bool.and_eq_true] at h1'
  exact ⟨within_is h1'.1, within_is h1'.2.1, within_is h1'.2.2, by omega, by omega, fun c hc => cmd_chk hg (by omega) (first_zero _ _ h3' c hc)⟩

/-! ### How long the bytes are -/
theorem enc_len {n : Nat} (h : n < 18446744073709551616) : (WP.enc n).length ≤ 10 := WP.sz_le10 h
theorem num_len {n : Int} (h : n < 18446744073709551616) : (EP.num n).length ≤ 10 := enc_len (by omega)
theorem zg_len {z : Int} (h0 : -9223372036854775808 ≤ z) (h1 : z ≤ 9223372036854775807) : (EP.zg z).length ≤ 10 := enc_len (zig_lt h0 h1)
theorem pt_length {p : IC.Pt} (h : PtB p) : (EP.pt p).length ≤ 20 := by
  unfold EP.pt
  rw [List.length_append]
  have h1 := zg_len (z := p.x) (by have := h.1.1; omega) (by have := h.1.2; omega)
  have h2 := zg_len (z := p.y) (by have := h.2.1; omega) (by have := h.2.2; omega)
  omega
theorem dpt_length {q p : IC.Pt} (hq : PtB q) (h : PtB p) : (EP.dpt q p).length ≤ 20 := by
  unfold EP.dpt
  rw [List.length_append]
  have a := hq.1; have b := hq.2; have c := h.1; have d := h.2
  have h1 := zg_len (z := p.x - q.x) (by omega) (by omega)
  have h2 := zg_len (z := p.y - q.y) (by omega) (by omega)
  omega
theorem way_length : ∀ (P : List IC.Pt) (q : IC.Pt), PtB q → (∀ p ∈ P, PtB p) → (EP.way q P).length ≤ 20 * P.length ∧ PtB (EP.lastOf q P) := by
  intro P
  induction P with
  | nil => intro q hq _; exact ⟨by simp [EP.way], hq⟩
  | cons p r ih =>
    intro q hq h
    have hp := h p (by simp)
    have h1 := ih p hp fun x hx => h x (by simp [hx])
    refine ⟨?_, h1.2⟩
    show (EP.dpt q p ++ EP.way p r).length ≤ _
    rw [List.length_append, List.length_cons]
    have := dpt_length hq hp
    omega
theorem pts_b {l : List IC.Seg} (h : ∀ s ∈ l, SegB s) : ∀ p ∈ l.flatMap EP.ptsOf, PtB p := by
  intro p hp
  obtain ⟨s, hs, hp⟩ := List.mem_flatMap.1 hp
  have := List.mem_of_mem_take hp
  simp [IC.Seg.pts] at this
  have hb := h s hs
  rcases this with rfl | rfl | rfl
  · exact hb.2.1
  · exact hb.2.2.1
  · exact hb.2.2.2
theorem flat_le {α β : Type} (f : α → List β) (B : Nat) (l : List α) (h : ∀ x ∈ l, (f x).length ≤ B) : (l.flatMap f).length ≤ B * l.length := by
  induction l with
  | nil => simp
  | cons x r ih =>
    rw [List.flatMap_cons, List.length_append, List.length_cons, Nat.mul_succ]
    have h1 := h x (by simp)
    have h2 := ih fun y hy => h y (by simp [hy])
    omega
theorem runsB_length : ∀ (rs : List (Int × Nat)) (q : IC.Pt) (sg : List IC.Seg), PtB q → (∀ s ∈ sg, SegB s) → (∀ r ∈ rs, r.1 ≤ 1000 ∧ r.2 ≤ 1000000) → (EP.runsB q rs sg).length ≤ 10 * rs.length + 60 * sg.length := by
  intro rs
  induction rs with
  | nil => intro q sg _ _ _; simp [EP.runsB]
  | cons x r ih =>
    intro q sg hq hs hr
    obtain ⟨k, n⟩ := x
    have hx := hr (k, n) (by simp)
    simp only at hx
    have hb := pts_b fun s h => hs s (List.mem_of_mem_take (i := n) h)
    have hw := way_length ((sg.take n).flatMap EP.ptsOf) q hq hb
    have hf := flat_le EP.ptsOf 3 (sg.take n) fun s _ => by unfold EP.ptsOf IC.Seg.pts; rw [List.length_take]; simp; omega
    have hi := ih _ (sg.drop n) hw.2 (fun s h => hs s (List.mem_of_mem_drop h)) fun r hr' => hr r (by simp [hr'])
    have hn : (EP.num ((n : Int) * 4 + k)).length ≤ 10 := num_len (by omega)
    show (EP.num ((n : Int) * 4 + k) ++ EP.way q ((sg.take n).flatMap EP.ptsOf) ++ EP.runsB _ _ _).length ≤ _
    rw [List.length_append, List.length_append, List.length_cons]
    have hlen : (sg.take n).length + (sg.drop n).length = sg.length := by rw [← List.length_append, List.take_append_drop]
    omega
theorem path_length {p : IC.Path} (h : PathB p) (h4 : p.segs.length ≤ 400) : (EP.path p).length ≤ 30000 := by
  unfold EP.path
  rw [List.length_append, List.length_append]
  have h0 := runs_bound p.segs
  have h1 := num_len (n := ((EP.runs p.segs).length * 2 + if p.cl = true then 1 else 0)) (by split <;> omega)
  have h2 := pt_length h.1
  have h3 := runsB_length (EP.runs p.segs) p.st p.segs h.1 h.2.1 fun r hr => by
    refine ⟨?_, Nat.le_trans (runs_count hr) (by omega)⟩
    have hk := (EP.runsOf_is (p.segs.map IC.Seg.k)).2
    have hr1 := hk.1 r hr
    have hm : r.1 ∈ EP.kindsOf (EP.runs p.segs) := List.mem_flatMap.2 ⟨r, hr, by simp; omega⟩
    have hm' : r.1 ∈ p.segs.map IC.Seg.k := by rw [← hk.2]; exact hm
    obtain ⟨s, hs, e⟩ := List.mem_map.1 hm'
    have := (h.2.1 s hs).1
    omega
  omega
theorem paint_length {p : IC.Paint} (h : PaintB p) : (EP.paint p).length ≤ 100 := by
  unfold EP.paint
  have h1 := num_len (n := p.a) (by have := h.na.2; omega)
  have h2 := num_len (n := p.b) (by have := h.nb.2; omega)
  have h3 := pt_length h.pp
  have h4 := pt_length h.pq
  rw [List.length_append]
  by_cases hk : p.k = 0
  · simp [hk]; omega
  · by_cases hk1 : p.k = 1
    · simp [hk1]; omega
    · have h5 := num_len (n := p.q.x) (by have := (h.px hk hk1).2; omega)
      simp [hk, hk1]; omega
theorem cmd_length {c : IC.Cmd} (h : CmdB c) (h2 : c.paths.length ≤ 200) (h4 : ∀ p ∈ c.paths, p.segs.length ≤ 400) : (EP.cmd c).length ≤ 7000000 := by
  have hf := flat_le EP.path 30000 c.paths fun p hp => path_length (h.paths p hp) (h4 p hp)
  have h1 := num_len (n := c.k - 1 + c.r * 2 + c.pn.k * 4) (by have := h.k; have := h.r; have := h.pk; omega)
  have h3 := num_len (n := c.wd) (by have := h.wd.2; omega)
  have h5 := paint_length h.pn
  have h6 := num_len (n := (c.paths.length : Int)) (by omega)
  unfold EP.cmd
  rw [List.length_append, List.length_append, List.length_append, List.length_append]
  by_cases hk : c.k = 2
  · rw [if_pos (by simp [hk])]; omega
  · rw [if_neg (by simp [hk]), List.length_nil]; omega
theorem icon_length {i : IC.Icon} (h : IconB i) : (EP.icon i).length ≤ 10000000000 := by
  have hf := flat_le EP.cmd 7000000 i.cmds fun c hc => cmd_length (h.cmd c hc).1 (h.cmd c hc).2.1 (h.cmd c hc).2.2
  have hg := flat_le EP.col 4 i.cols fun c _ => by simp [EP.col]
  have h1 := num_len (n := i.w) (by have := h.w; omega)
  have h2 := num_len (n := i.h) (by have := h.h; omega)
  have h3 := num_len (n := i.s) (by have := h.s; omega)
  have h4 := num_len (n := (i.cols.length : Int)) (by have := h.cols; omega)
  have h5 := num_len (n := (i.cmds.length : Int)) (by have := h.cmds; omega)
  have h6 := h.cols
  have h7 := h.cmds
  unfold EP.icon
  simp only [List.length_append, List.length_cons, List.length_nil]
  omega

end Go.Proofs.YtcnlkdoifogkbaaGreatDoor

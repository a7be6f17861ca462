/-
  A writer writes a segment's points, each told from the one ahead: walked over the program.
-/
import Derived.Test.YtofmbedjbnbjlaaDoorEncPt
namespace Go.Proofs.YtofmbedjbnbjlaaDoor
open Go.RowKit

def SegB (s : IC.Seg) : Prop := (1 ≤ s.k ∧ s.k ≤ 3) ∧ PtB s.a ∧ PtB s.b ∧ PtB s.c

theorem way_drop {P : List IC.Pt} {k : Nat} {p : IC.Pt} (h : P[k]? = some p) (l : IC.Pt) : EP.way l (P.drop k) = EP.dpt l p ++ EP.way p (P.drop (k + 1)) ∧ EP.lastOf l (P.drop k) = EP.lastOf p (P.drop (k + 1)) := by
  obtain ⟨hk, rfl⟩ := List.getElem?_eq_some_iff.1 h
  rw [List.drop_eq_getElem_cons hk]
  exact ⟨rfl, rfl⟩

theorem prefix_len {cs x full : List Nat} {M : Nat} (h : cs ++ x = full) (hl : full.length ≤ M) : cs.length ≤ M := by rw [← h] at hl; exact len_l hl

theorem slice_pts (K : Nat) (hK : K ≤ 3) (b : Nat) (W : World) : (Instr.sliceAt 58 (.pointer (some ⟨b, 1, none⟩)) none (some (.int .i64 (K : Int))) none).run Tryd.prog W = .ok (.slice (some ⟨b, 1, none⟩) K 3) W := by
  have e : Tryd.prog.arrayLen 58 = 3 := by kernel_rfl
  have h := run_sliceAt_array_h (P := Tryd.prog) W 58 ⟨b, 1, none⟩ (by kernel_rfl) .i64 (K : Int) (by omega) (by rw [e]; omega)
  rw [h, e]
  simp [go_sem, slicedAt, Addr.add]

/-- What stands while a segment is written. -/
structure SgSt (w : World) (q : Nat) (full : List Nat) (P : List IC.Pt) (sb : Nat) (sv : Array Value) (e : IC.Pt) (k : Nat) (l : IC.Pt) (cs : List Nat) (W : World) : Prop where
  wr : Wr W q cs
  way : cs ++ EP.way l (P.drop k) = full
  last : EP.lastOf l (P.drop k) = e
  box : Blk W sb 60 sv
  at' : Blk W (sb + 1) 40 #[.int .i64 l.x, .int .i64 l.y]
  res : Blk W (sb + 1 + 1) 40 #[.int .i64 0, .int .i64 0]
  wk : Wk q w W

/-- A new point's box, a point written, its place kept. -/
theorem SgSt.step {w W w2 : World} {q : Nat} {full : List Nat} {P : List IC.Pt} {sb : Nat} {sv : Array Value} {e : IC.Pt} {k : Nat} {l p : IC.Pt} {cs : List Nat} (h : SgSt w q full P sb sv e k l cs W) (hp : P[k]? = some p) (hq : q < w.heap.size) (hsb : w.heap.size ≤ sb)
    (h2 : Wr w2 q (cs ++ EP.dpt l p)) (hk2 : Wk q (W.alloc (.cells #[.int .i64 p.x, .int .i64 p.y] 40)) w2) :
    SgSt w q full P sb sv e (k + 1) p (cs ++ EP.dpt l p) ((w2.setCell ⟨sb + 1, 0, none⟩ (.int .i64 p.x)).setCell ⟨sb + 1, 1, none⟩ (.int .i64 p.y)) := by
  obtain ⟨d1, d2⟩ := way_drop hp l
  have hw : Wk q w w2 := (h.wk.alloc _).trans hk2
  have e1 : Blk w2 sb 60 sv := (h.box.alloc _).wk hk2 (by omega) (by decide)
  have e2 : Blk w2 (sb + 1) 40 #[.int .i64 l.x, .int .i64 l.y] := (h.at'.alloc _).wk hk2 (by omega) (by decide)
  have e3 : Blk w2 (sb + 1 + 1) 40 #[.int .i64 0, .int .i64 0] := (h.res.alloc _).wk hk2 (by omega) (by decide)
  refine ⟨?_, ?_, ?_, ?_, ?_, ?_, ?_⟩
  · exact (h2.far (by show sb + 1 ≠ q; omega) (e2.cellsNot (by decide))).far (by show sb + 1 ≠ q; omega) ((e2.set (j := 0) _).cellsNot (by decide))
  · rw [← h.way, d1, List.append_assoc]
  · rw [← h.last, d2]
  · exact (e1.far (by show sb ≠ sb + 1; omega) _).far (by show sb ≠ sb + 1; omega) _
  · exact (e2.set (j := 0) _).set (j := 1) _
  · exact (e3.far (by show sb + 1 + 1 ≠ sb + 1; omega) _).far (by show sb + 1 + 1 ≠ sb + 1; omega) _
  · exact (hw.set (by show _ ≤ sb + 1; omega) _).set (by show _ ≤ sb + 1; omega) _

set_option maxRecDepth 20000 in
set_option maxHeartbeats 1000000 in
theorem wseg_any (q : Nat) (bs : List Nat) (s : IC.Seg) (o : IC.Pt) (w : World) (h : Wr w q bs) (hs : SegB s) (ho : PtB o) (hl : (bs ++ EP.way o (EP.ptsOf s)).length ≤ 100000000000000) :
    Calls Tryd.prog 94 #[.pointer (some ⟨q, 0, none⟩), .agg s.cells.toArray, .agg o.cells.toArray] w fun e w' => e = .returned (.agg (EP.lastOf o (EP.ptsOf s)).cells.toArray) ∧ Wr w' q (bs ++ EP.way o (EP.ptsOf s)) ∧ Wk q w w' := by
  obtain ⟨full, hF⟩ : ∃ f, bs ++ EP.way o (EP.ptsOf s) = f := ⟨_, rfl⟩
  obtain ⟨en, hE⟩ : ∃ f, EP.lastOf o (EP.ptsOf s) = f := ⟨_, rfl⟩
  obtain ⟨P, hP⟩ : ∃ P, EP.ptsOf s = P := ⟨_, rfl⟩
  rw [hF, hE]
  rw [hF] at hl
  rw [hP] at hF hE
  have kp : Hid (∀ W cs l p r, PtB l → PtB p → Wr W q cs → cs ++ (EP.dpt l p ++ r) = full → Calls Tryd.prog 93 #[.pointer (some ⟨q, 0, none⟩), .agg #[.int .i64 (p.x - l.x), .int .i64 (p.y - l.y)]] W fun e w' => e = .returned (.tuple #[]) ∧ Wr w' q (cs ++ EP.dpt l p) ∧ Wk q W w') := fun W cs l p r h1 h2 hW hf =>
    wpt_any q cs ⟨p.x - l.x, p.y - l.y⟩ W hW (.inr ⟨l, p, h1, h2, rfl⟩) (by rw [← hf, ← List.append_assoc] at hl; exact len_l hl)
  obtain ⟨⟨k1, k3⟩, pa, pb, pc⟩ := hs
  obtain ⟨sk, ⟨ax, ay⟩, ⟨bx, b_y⟩, ⟨cx, cy⟩⟩ := s
  simp only at k1 k3 pa pb pc
  obtain ⟨K, rfl⟩ : ∃ K : Nat, sk = (K : Int) := ⟨sk.toNat, by omega⟩
  have hK1 : 1 ≤ K := by omega
  have hK3 : K ≤ 3 := by omega
  have HP : Hid (∀ j : Nat, j < K → ∃ p : IC.Pt, P[j]? = some p ∧ PtB p ∧ ((j = 0 ∧ p = ⟨ax, ay⟩) ∨ (j = 1 ∧ p = ⟨bx, b_y⟩) ∨ (j = 2 ∧ p = ⟨cx, cy⟩))) := fun j hj => by
    have e : P = [⟨ax, ay⟩, ⟨bx, b_y⟩, ⟨cx, cy⟩].take K := by rw [← hP]; rfl
    have : j = 0 ∨ j = 1 ∨ j = 2 := by omega
    rw [e, List.getElem?_take, if_pos hj]
    rcases this with rfl | rfl | rfl
    · exact ⟨_, rfl, pa, .inl ⟨rfl, rfl⟩⟩
    · exact ⟨_, rfl, pb, .inr (.inl ⟨rfl, rfl⟩)⟩
    · exact ⟨_, rfl, pc, .inr (.inr ⟨rfl, rfl⟩)⟩
  have hPl : P.length = K := by rw [← hP]; show (List.take _ _).length = _; rw [List.length_take]; simp [IC.Seg.pts]; omega
  have HPd : Hid (P.drop K = []) := List.drop_eq_nil_of_le (by omega)
  have hq := h.lt
  obtain ⟨ox, oy⟩ := o
  have H0 : Hid (SgSt w q full P w.heap.size #[.int .i64 K, .int .i64 ax, .int .i64 ay, .int .i64 bx, .int .i64 b_y, .int .i64 cx, .int .i64 cy] en 0 ⟨ox, oy⟩ bs (((w.alloc (.cells #[.int .i64 K, .int .i64 ax, .int .i64 ay, .int .i64 bx, .int .i64 b_y, .int .i64 cx, .int .i64 cy] 60)).alloc (.cells #[.int .i64 ox, .int .i64 oy] 40)).alloc (.cells #[.int .i64 0, .int .i64 0] 40))) := by
    refine ⟨((h.alloc _).alloc _).alloc _, hF, hE, ((blk_new w 60 _).alloc _).alloc _, ?_, ?_, (((Wk.refl q w).alloc _).alloc _).alloc _⟩
    · have hb := (blk_new (w.alloc (.cells #[.int .i64 K, .int .i64 ax, .int .i64 ay, .int .i64 bx, .int .i64 b_y, .int .i64 cx, .int .i64 cy] 60)) 40 #[.int .i64 ox, .int .i64 oy]).alloc (.cells #[.int .i64 0, .int .i64 0] 40)
      rw [size_alloc] at hb
      exact hb
    · have hb := blk_new ((w.alloc (.cells #[.int .i64 K, .int .i64 ax, .int .i64 ay, .int .i64 bx, .int .i64 b_y, .int .i64 cx, .int .i64 cy] 60)).alloc (.cells #[.int .i64 ox, .int .i64 oy] 40)) 40 #[.int .i64 0, .int .i64 0]
      rw [size_alloc, size_alloc] at hb
      exact hb
  have HO : Hid (PtB ⟨ox, oy⟩) := ho
  have hsl : ∀ W, (Instr.sliceAt 58 (.pointer (some ⟨w.heap.size, 1, none⟩)) none (some (.int .i64 (K : Int))) none).run Tryd.prog W = .ok (.slice (some ⟨w.heap.size, 1, none⟩) K 3) W := fun W => slice_pts K hK3 _ W
  clear h ho hl hF hE hP hPl pa pb pc k1 k3
  simp only [IC.Seg.cells, IC.Pt.cells]
  go_enter Tryd.func94, Tryd.ntmps94
  go_wp2
  go_loopw [14] (fun i wr => ∃ (k : Nat) (l : IC.Pt) (cs : List Nat), k ≤ K ∧ i = .int .i64 k ∧ Hid (PtB l) ∧ Hid (SgSt w q full P w.heap.size #[.int .i64 K, .int .i64 ax, .int .i64 ay, .int .i64 bx, .int .i64 b_y, .int .i64 cx, .int .i64 cy] en k l cs wr)) (fun i _ => K - (intOf i).toNat)
  case atStart => exact ⟨0, _, bs, by omega, rfl, HO, H0⟩
  case round =>
    obtain ⟨k, ⟨lx, ly⟩, cs, hk, rfl, HL, HS⟩ := hrel
    obtain ⟨c0, c1, c2, c3, c4, c5, c6⟩ := seven_cells HS.out.box
    obtain ⟨⟨l0, l1⟩, l2, l3⟩ := cells_two HS.out.at'
    obtain ⟨⟨r0, r1⟩, r2, r3⟩ := cells_two HS.out.res
    have z2 := HS.out.res.lt
    have z1 := HS.out.at'.lt
    have z0 := HS.out.box.lt
    simp only at l0 l1
    by_cases hkK : k < K
    · obtain ⟨⟨px, py⟩, hp, hpb, hcase⟩ := HP.out k hkK
      have HPB : Hid (PtB ⟨px, py⟩) := hpb
      have HPK : Hid (P[k]? = some ⟨px, py⟩) := hp
      have b1 := hpb.1.1
      have b2 := hpb.1.2
      have b3 := hpb.2.1
      have b4 := hpb.2.2
      have m1 := HL.out.1.1
      have m2 := HL.out.1.2
      have m3 := HL.out.2.1
      have m4 := HL.out.2.2
      simp only at b1 b2 b3 b4 m1 m2 m3 m4
      have kq : Hid (∀ W, Wr W q cs → Calls Tryd.prog 93 #[.pointer (some ⟨q, 0, none⟩), .agg #[.int .i64 (px - lx), .int .i64 (py - ly)]] W fun e w' => e = .returned (.tuple #[]) ∧ Wr w' q (cs ++ EP.dpt ⟨lx, ly⟩ ⟨px, py⟩) ∧ Wk q W w') := fun W hW => kp.out W cs ⟨lx, ly⟩ ⟨px, py⟩ _ HL.out hpb hW (by rw [← (way_drop hp ⟨lx, ly⟩).1]; exact HS.out.way)
      clear hp hpb kp
      rcases hcase with ⟨rfl, e⟩ | ⟨rfl, e⟩ | ⟨rfl, e⟩ <;>
      · obtain ⟨rfl, rfl⟩ : px = _ ∧ py = _ := by simpa using e
        clear e
        go_wp2_with (go_at_call 93; refine (kq.out _ (HS.out.wr.alloc _)).mono ?_; rintro e w2 ⟨rfl, h2, hk2⟩
                     have HN := hid' (HS.out.step HPK.out hq (Nat.le_refl _) h2 hk2)
                     have e2 : Blk w2 (w.heap.size + 1) 40 #[.int .i64 lx, .int .i64 ly] := (HS.out.at'.alloc _).wk hk2 (by omega) (by decide)
                     have e3 := (blk_new wr 40 #[.int .i64 px, .int .i64 py]).wk hk2 (by omega) (by decide)
                     obtain ⟨⟨n0, n1⟩, n2, n3⟩ := cells_two e2
                     obtain ⟨⟨o0, o1⟩, -, -⟩ := cells_two e3
                     have z3 := e2.lt
                     have z4 := e3.lt
                     clear h2 hk2 e2 e3)
        go_roundw
        case rel => exact ⟨_, _, _, by omega, by go_num, HPB, HN⟩
        case measure => simp [intOf]; omega
    · obtain rfl : k = K := by omega
      go_wp2
      have HX : Hid (en = ⟨lx, ly⟩) := by have := HS.out.last; rw [HPd.out] at this; exact this.symm
      refine bodyPost_ret (v := .agg #[.int .i64 lx, .int .i64 ly]) (by simp [results, Tryd.results94, go_sem, r0, r1]) rfl ⟨?_, ?_, ?_⟩
      · rw [HX.out]
      · have hw := HS.out.way
        rw [HPd.out] at hw
        have hw' : cs = full := by rw [← hw]; exact (List.append_nil cs).symm
        rw [← hw']
        exact (HS.out.wr.far (by show w.heap.size + 1 + 1 ≠ q; omega) (HS.out.res.cellsNot (by decide))).far (by show w.heap.size + 1 + 1 ≠ q; omega) ((HS.out.res.set (j := 0) _).cellsNot (by decide))
      · exact (HS.out.wk.set (by show _ ≤ w.heap.size + 1 + 1; omega) _).set (by show _ ≤ w.heap.size + 1 + 1; omega) _

end Go.Proofs.YtofmbedjbnbjlaaDoor

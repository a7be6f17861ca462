import Derived.Test.YtenmkopiddmieabGreatDoorSaA
/-
  The document's own word on two commands that are the same but for places. (Written by tools/mksamecmd.py.)
-/
set_option linter.unusedVariables false
namespace Go.Proofs.YtenmkopiddmieabGreatDoor
open Go.RowKit

theorem wpList_load_piece {P : Program} {ops : Array Oper} {rest : List Oper} {o : Oper} {a : Act} {w : World} {Q : Exit → Act → World → Prop} (hgd : o.guard = none) (ty : TypeId) (x : Operand) (ho : o.op = .load ty x)
    (g off : Nat) (hx : a.eval x = .pointer (some ⟨g, off, none⟩)) (cs : Array Value) (d : TypeDesc) (hg : ∀ j u, cs[j]? = some u → w.cell? ⟨g, off + j, none⟩ = some u)
    (hu : P.underlying ty = some d) (hd : (match d with | .struct _ | .array _ _ => true | _ => false) = true) (hi : (P.info? ty).map (·.size) = some cs.size)
    (h : wpList P ops Q rest (a.put o.dst (.agg cs)) w) : wpList P ops Q (o :: rest) a w := by
  refine wpList_plain hgd fun K hK => ?_
  unfold Oper.wp execOp
  simp only [ho, hx, Instr.loadAt, Instr.sureAddr, Sem.run_bind, Sem.run_pure, Result.andThen_ok, run_loadVar_piece w g off ty cs d hg hu hd hi]
  exact hK _ _ h

theorem infoPaint25 : (Tryz.prog.info? 69).map (·.size) = some 25 := by kernel_rfl
theorem cmd_paint (x : PP.Cmd × Value) (j : Nat) (u : Value) (h : (paintL x.1.paint).toArray[j]? = some u) : (cmdL x).toArray[6 + j]? = some u := by
  have h' : (paintL x.1.paint)[j]? = some u := by simpa using h
  have hg : (cmdL x)[6 + j]? = some u := by
    unfold cmdL
    have hj : j < (paintL x.1.paint).length := by
      rcases Nat.lt_or_ge j (paintL x.1.paint).length with h | h
      · exact h
      · rw [List.getElem?_eq_none h] at h'; cases h'
    rw [List.append_assoc, List.getElem?_append_right (by simp), List.getElem?_append_left (by simpa using hj)]
    simpa using h'
  simpa using hg

/-- The boxes of two commands, of their paints. -/
structure Bx (w W : World) (b1 b2 b3 b4 : Nat) (Cx Cy Px Py : Array Value) : Prop where
  b : Below w.heap.size w W
  x : Blk W b1 71 Cx
  y : Blk W b2 71 Cy
  p : Blk W b3 69 Px
  q : Blk W b4 69 Py
theorem Bx.below {w W W' : World} {b1 b2 b3 b4 : Nat} {Cx Cy Px Py : Array Value} (h : Bx w W b1 b2 b3 b4 Cx Cy Px Py) (hb : Below W.heap.size W W') : Bx w W' b1 b2 b3 b4 Cx Cy Px Py :=
  ⟨chain h.b hb, h.x.below hb h.x.lt, h.y.below hb h.y.lt, h.p.below hb h.p.lt, h.q.below hb h.q.lt⟩
theorem Bx.cells {w W : World} {b1 b2 b3 b4 : Nat} {Cx Cy Px Py : Array Value} (h : Bx w W b1 b2 b3 b4 Cx Cy Px Py) :
    (∀ j, W.cell? ⟨b1, j, none⟩ = Cx[j]?) ∧ (∀ j, W.cell? ⟨b2, j, none⟩ = Cy[j]?) ∧ (∀ j, W.cell? ⟨b3, j, none⟩ = Px[j]?) ∧ (∀ j, W.cell? ⟨b4, j, none⟩ = Py[j]?) := ⟨h.x.cell, h.y.cell, h.p.cell, h.q.cell⟩

set_option maxRecDepth 100000 in
set_option maxHeartbeats 4000000 in
theorem same_cmd (x y : PP.Cmd × Value) (w : World) (h1 : CmdOk w x) (h2 : CmdOk w y) (he : x.1.z = y.1.z) :
    Calls Tryz.prog 18 #[.agg (cmdL x).toArray, .agg (cmdL y).toArray, .bool false] w fun e w' => e = .returned (.bool true) ∧ Below w.heap.size w w' := by
  have X6 := cmd_paint x
  have Y6 := cmd_paint y
  have X1 := paintL_one x.1.paint
  have Y1 := paintL_one y.1.paint
  have sx : (cmdL x).toArray.size = 32 := rfl
  have sy : (cmdL y).toArray.size = 32 := rfl
  have spx : (paintL x.1.paint).toArray.size = 25 := rfl
  have spy : (paintL y.1.paint).toArray.size = 25 := rfl
  obtain ⟨⟨ckx, crx, cpx, ⟨wnx, wix, wpx⟩, ⟨pkx, ⟨ranx, ⟨rarx, ragx, rabx, raax⟩, rapx⟩, ⟨rbnx, ⟨rbrx, rbgx, rbbx, rbax⟩, rbpx⟩, ⟨q0nx, q0ix, q0px⟩, ⟨q1nx, q1ix, q1px⟩, ⟨q2nx, q2ix, q2px⟩, ⟨q3nx, q3ix, q3px⟩⟩, itx⟩, v1⟩ := x
  obtain ⟨⟨cky, cry, cpy, ⟨wny, wiy, wpy⟩, ⟨pky, ⟨rany, ⟨rary, ragy, raby, raay⟩, rapy⟩, ⟨rbny, ⟨rbry, rbgy, rbby, rbay⟩, rbpy⟩, ⟨q0ny, q0iy, q0py⟩, ⟨q1ny, q1iy, q1py⟩, ⟨q2ny, q2iy, q2py⟩, ⟨q3ny, q3iy, q3py⟩⟩, ity⟩, v2⟩ := y
  unfold PP.Cmd.z PP.Paint.z PP.Ref.z PP.Val.z at he
  simp only [PP.Cmd.mk.injEq, PP.Paint.mk.injEq, PP.Ref.mk.injEq, PP.Col.mk.injEq, PP.Val.mk.injEq, and_true, true_and] at he
  obtain ⟨rfl, rfl, ⟨rfl, rfl⟩, ⟨rfl, ⟨rfl, rfl, rfl, rfl, rfl⟩, ⟨rfl, rfl, rfl, rfl, rfl⟩, ⟨rfl, rfl⟩, ⟨rfl, rfl⟩, ⟨rfl, rfl⟩, ⟨rfl, rfl⟩⟩, hit⟩ := he
  obtain ⟨ad1, n1, c1, hv1⟩ := CmdOk.slice h1
  obtain ⟨ad2, n2, c2, hv2⟩ := CmdOk.slice h2
  simp only at hv1 hv2
  subst hv1 hv2
  have kI : Hid (∀ W, Below w.heap.size w W → Calls Tryz.prog 17 #[.slice ad1 n1 c1, .slice ad2 n2 c2, .bool false] W fun e w' => e = .returned (.bool true) ∧ Below W.heap.size W w') :=
    fun W hW => same_items _ _ _ _ W (ItemsAt.below h1 hW) (ItemsAt.below h2 hW) hit
  clear h1 h2 hit
  obtain ⟨wS, hwS⟩ : ∃ S : ByteArray, (⟨wnx.toArray⟩ : ByteArray) = S := ⟨_, rfl⟩
  obtain ⟨raS, hraS⟩ : ∃ S : ByteArray, (⟨ranx.toArray⟩ : ByteArray) = S := ⟨_, rfl⟩
  obtain ⟨rbS, hrbS⟩ : ∃ S : ByteArray, (⟨rbnx.toArray⟩ : ByteArray) = S := ⟨_, rfl⟩
  obtain ⟨q0S, hq0S⟩ : ∃ S : ByteArray, (⟨q0nx.toArray⟩ : ByteArray) = S := ⟨_, rfl⟩
  obtain ⟨q1S, hq1S⟩ : ∃ S : ByteArray, (⟨q1nx.toArray⟩ : ByteArray) = S := ⟨_, rfl⟩
  obtain ⟨q2S, hq2S⟩ : ∃ S : ByteArray, (⟨q2nx.toArray⟩ : ByteArray) = S := ⟨_, rfl⟩
  obtain ⟨q3S, hq3S⟩ : ∃ S : ByteArray, (⟨q3nx.toArray⟩ : ByteArray) = S := ⟨_, rfl⟩
  obtain ⟨Cx, hCx⟩ : ∃ C : Array Value, (cmdL (⟨ckx, crx, cpx, ⟨wnx, wix, wpx⟩, ⟨pkx, ⟨ranx, ⟨rarx, ragx, rabx, raax⟩, rapx⟩, ⟨rbnx, ⟨rbrx, rbgx, rbbx, rbax⟩, rbpx⟩, ⟨q0nx, q0ix, q0px⟩, ⟨q1nx, q1ix, q1px⟩, ⟨q2nx, q2ix, q2px⟩, ⟨q3nx, q3ix, q3px⟩⟩, itx⟩, (.slice ad1 n1 c1 : Value))).toArray = C := ⟨_, rfl⟩
  obtain ⟨Px, hPx⟩ : ∃ C : Array Value, (paintL (⟨pkx, ⟨ranx, ⟨rarx, ragx, rabx, raax⟩, rapx⟩, ⟨rbnx, ⟨rbrx, rbgx, rbbx, rbax⟩, rbpx⟩, ⟨q0nx, q0ix, q0px⟩, ⟨q1nx, q1ix, q1px⟩, ⟨q2nx, q2ix, q2px⟩, ⟨q3nx, q3ix, q3px⟩⟩ : PP.Paint)).toArray = C := ⟨_, rfl⟩
  have Cx0 : Cx[0]? = some (.int .i64 (ckx : Nat)) := by rw [← hCx]; rfl
  have Cx1 : Cx[1]? = some (.int .i64 (crx : Nat)) := by rw [← hCx]; rfl
  have Cx3 : Cx[3]? = some (.string wS) := by rw [← hCx, ← hwS]; rfl
  have Cx4 : Cx[4]? = some (.int .i64 wix) := by rw [← hCx]; rfl
  have Cx5 : Cx[5]? = some (.int .i64 (wpx : Nat)) := by rw [← hCx]; rfl
  have Cx31 : Cx[31]? = some (.slice ad1 n1 c1) := by rw [← hCx]; rfl
  have Px0 : Px[0]? = some (.int .i64 (pkx : Nat)) := by rw [← hPx]; rfl
  have Px1 : Px[1]? = some (.string raS) := by rw [← hPx, ← hraS]; rfl
  have Px2 : Px[2]? = some (.int .u8 (rarx : Nat)) := by rw [← hPx]; rfl
  have Px3 : Px[3]? = some (.int .u8 (ragx : Nat)) := by rw [← hPx]; rfl
  have Px4 : Px[4]? = some (.int .u8 (rabx : Nat)) := by rw [← hPx]; rfl
  have Px5 : Px[5]? = some (.int .u8 (raax : Nat)) := by rw [← hPx]; rfl
  have Px6 : Px[6]? = some (.int .i64 (rapx : Nat)) := by rw [← hPx]; rfl
  have Px7 : Px[7]? = some (.string rbS) := by rw [← hPx, ← hrbS]; rfl
  have Px8 : Px[8]? = some (.int .u8 (rbrx : Nat)) := by rw [← hPx]; rfl
  have Px9 : Px[9]? = some (.int .u8 (rbgx : Nat)) := by rw [← hPx]; rfl
  have Px10 : Px[10]? = some (.int .u8 (rbbx : Nat)) := by rw [← hPx]; rfl
  have Px11 : Px[11]? = some (.int .u8 (rbax : Nat)) := by rw [← hPx]; rfl
  have Px12 : Px[12]? = some (.int .i64 (rbpx : Nat)) := by rw [← hPx]; rfl
  have Px13 : Px[13]? = some (.string q0S) := by rw [← hPx, ← hq0S]; rfl
  have Px14 : Px[14]? = some (.int .i64 q0ix) := by rw [← hPx]; rfl
  have Px15 : Px[15]? = some (.int .i64 (q0px : Nat)) := by rw [← hPx]; rfl
  have Px16 : Px[16]? = some (.string q1S) := by rw [← hPx, ← hq1S]; rfl
  have Px17 : Px[17]? = some (.int .i64 q1ix) := by rw [← hPx]; rfl
  have Px18 : Px[18]? = some (.int .i64 (q1px : Nat)) := by rw [← hPx]; rfl
  have Px19 : Px[19]? = some (.string q2S) := by rw [← hPx, ← hq2S]; rfl
  have Px20 : Px[20]? = some (.int .i64 q2ix) := by rw [← hPx]; rfl
  have Px21 : Px[21]? = some (.int .i64 (q2px : Nat)) := by rw [← hPx]; rfl
  have Px22 : Px[22]? = some (.string q3S) := by rw [← hPx, ← hq3S]; rfl
  have Px23 : Px[23]? = some (.int .i64 q3ix) := by rw [← hPx]; rfl
  have Px24 : Px[24]? = some (.int .i64 (q3px : Nat)) := by rw [← hPx]; rfl
  obtain ⟨Cy, hCy⟩ : ∃ C : Array Value, (cmdL (⟨ckx, crx, cpy, ⟨wnx, wix, wpy⟩, ⟨pkx, ⟨ranx, ⟨rarx, ragx, rabx, raax⟩, rapy⟩, ⟨rbnx, ⟨rbrx, rbgx, rbbx, rbax⟩, rbpy⟩, ⟨q0nx, q0ix, q0py⟩, ⟨q1nx, q1ix, q1py⟩, ⟨q2nx, q2ix, q2py⟩, ⟨q3nx, q3ix, q3py⟩⟩, ity⟩, (.slice ad2 n2 c2 : Value))).toArray = C := ⟨_, rfl⟩
  obtain ⟨Py, hPy⟩ : ∃ C : Array Value, (paintL (⟨pkx, ⟨ranx, ⟨rarx, ragx, rabx, raax⟩, rapy⟩, ⟨rbnx, ⟨rbrx, rbgx, rbbx, rbax⟩, rbpy⟩, ⟨q0nx, q0ix, q0py⟩, ⟨q1nx, q1ix, q1py⟩, ⟨q2nx, q2ix, q2py⟩, ⟨q3nx, q3ix, q3py⟩⟩ : PP.Paint)).toArray = C := ⟨_, rfl⟩
  have Cy0 : Cy[0]? = some (.int .i64 (ckx : Nat)) := by rw [← hCy]; rfl
  have Cy1 : Cy[1]? = some (.int .i64 (crx : Nat)) := by rw [← hCy]; rfl
  have Cy3 : Cy[3]? = some (.string wS) := by rw [← hCy, ← hwS]; rfl
  have Cy4 : Cy[4]? = some (.int .i64 wix) := by rw [← hCy]; rfl
  have Cy5 : Cy[5]? = some (.int .i64 (wpy : Nat)) := by rw [← hCy]; rfl
  have Cy31 : Cy[31]? = some (.slice ad2 n2 c2) := by rw [← hCy]; rfl
  have Py0 : Py[0]? = some (.int .i64 (pkx : Nat)) := by rw [← hPy]; rfl
  have Py1 : Py[1]? = some (.string raS) := by rw [← hPy, ← hraS]; rfl
  have Py2 : Py[2]? = some (.int .u8 (rarx : Nat)) := by rw [← hPy]; rfl
  have Py3 : Py[3]? = some (.int .u8 (ragx : Nat)) := by rw [← hPy]; rfl
  have Py4 : Py[4]? = some (.int .u8 (rabx : Nat)) := by rw [← hPy]; rfl
  have Py5 : Py[5]? = some (.int .u8 (raax : Nat)) := by rw [← hPy]; rfl
  have Py6 : Py[6]? = some (.int .i64 (rapy : Nat)) := by rw [← hPy]; rfl
  have Py7 : Py[7]? = some (.string rbS) := by rw [← hPy, ← hrbS]; rfl
  have Py8 : Py[8]? = some (.int .u8 (rbrx : Nat)) := by rw [← hPy]; rfl
  have Py9 : Py[9]? = some (.int .u8 (rbgx : Nat)) := by rw [← hPy]; rfl
  have Py10 : Py[10]? = some (.int .u8 (rbbx : Nat)) := by rw [← hPy]; rfl
  have Py11 : Py[11]? = some (.int .u8 (rbax : Nat)) := by rw [← hPy]; rfl
  have Py12 : Py[12]? = some (.int .i64 (rbpy : Nat)) := by rw [← hPy]; rfl
  have Py13 : Py[13]? = some (.string q0S) := by rw [← hPy, ← hq0S]; rfl
  have Py14 : Py[14]? = some (.int .i64 q0ix) := by rw [← hPy]; rfl
  have Py15 : Py[15]? = some (.int .i64 (q0py : Nat)) := by rw [← hPy]; rfl
  have Py16 : Py[16]? = some (.string q1S) := by rw [← hPy, ← hq1S]; rfl
  have Py17 : Py[17]? = some (.int .i64 q1ix) := by rw [← hPy]; rfl
  have Py18 : Py[18]? = some (.int .i64 (q1py : Nat)) := by rw [← hPy]; rfl
  have Py19 : Py[19]? = some (.string q2S) := by rw [← hPy, ← hq2S]; rfl
  have Py20 : Py[20]? = some (.int .i64 q2ix) := by rw [← hPy]; rfl
  have Py21 : Py[21]? = some (.int .i64 (q2py : Nat)) := by rw [← hPy]; rfl
  have Py22 : Py[22]? = some (.string q3S) := by rw [← hPy, ← hq3S]; rfl
  have Py23 : Py[23]? = some (.int .i64 q3ix) := by rw [← hPy]; rfl
  have Py24 : Py[24]? = some (.int .i64 (q3py : Nat)) := by rw [← hPy]; rfl
  rw [hCx, hCy]
  rw [hCx] at sx
  rw [hCy] at sy
  simp only [hCx, hPx] at X6 X1 spx
  simp only [hCy, hPy] at Y6 Y1 spy
  have HX6 := hid'' X6
  have HY6 := hid'' Y6
  clear X6 Y6 hCx hCy hPx hPy
  clear hwS hraS hrbS hq0S hq1S hq2S hq3S wnx ranx rbnx q0nx q1nx q2nx q3nx
  have hpi := infoPaint25
  have B0 : Hid (Below w.heap.size w ((w.alloc (.cells Cx 71)).alloc (.cells Cy 71))) := ((Below.refl _ _).alloc (by omega) _).alloc (by simp) _
  have b1 : Blk ((w.alloc (.cells Cx 71)).alloc (.cells Cy 71)) w.heap.size 71 Cx := (blk_new _ _ _).alloc _
  have b2 : Blk ((w.alloc (.cells Cx 71)).alloc (.cells Cy 71)) (w.heap.size + 1) 71 Cy := by
    have := blk_new (w.alloc (.cells Cx 71)) 71 Cy
    rwa [show (w.alloc (.cells Cx 71)).heap.size = w.heap.size + 1 by simp] at this
  obtain ⟨W0, hW0⟩ : ∃ W0, (w.alloc (.cells Cx 71)).alloc (.cells Cy 71) = W0 := ⟨_, rfl⟩
  have z0 : W0.heap.size = w.heap.size + 1 + 1 := by rw [← hW0]; simp
  rw [hW0] at b1 b2 B0
  have b3 : Blk (W0.alloc (.cells paint0 69)) (w.heap.size + 1 + 1) 69 paint0 := by rw [← z0]; exact blk_new _ _ _
  have HB1 := hid'' b1
  have HB2 := hid'' b2
  have HB3 := hid'' b3
  clear b1 b2 b3
  unfold paint0 at HB3
  have HW0 := hid'' hW0
  rw [← hW0] at HB1 HB2 HB3
  clear hW0
  go_enter Tryz.func18, Tryz.ntmps18
  go_wp2_with (first
    | (refine wpList_load_piece rfl 69 (.tmp 12) rfl (w.heap.size + 1) 6 rfl Py _ (fun j u hj => (D2.out.cell (6 + j)).trans (HY6.out j u hj)) Tryz.underlying69 rfl (by rw [hpi, spy]) ?_)
    | (refine wp_put0 69 (.tmp 8) (.tmp 13) E4.out rfl rfl rfl rfl (by rw [hpi, spy]) (by rw [spy]; rfl) Y1 ?_
       intro w4 HP4 HK4 HF4 HL4
       have F1 := hid'' (HF4.out _ _ _ (by omega) (D1.out.alloc (.cells paint0 69)))
       have F2 := hid'' (HF4.out _ _ _ (by omega) (D2.out.alloc (.cells paint0 69)))
       have F3 := hid'' (HF4.out _ _ _ (by omega) (HP3.out.alloc (.cells paint0 69))))
    | (refine wpList_load_piece rfl 69 (.tmp 10) rfl w.heap.size 6 rfl Px _ (fun j u hj => (HB1.out.cell (6 + j)).trans (HX6.out j u hj)) Tryz.underlying69 rfl (by rw [hpi, spx]) ?_)
    | (refine wp_put0 69 (.tmp 7) (.tmp 11) HB3.out rfl rfl rfl rfl (by rw [hpi, spx]) (by rw [spx]; rfl) X1 ?_
       intro w3 HP3 HK3 HF3 HL3
       have z3 : w.heap.size + 1 + 1 < w3.heap.size := HP3.out.lt
       have D1 := hid'' (HF3.out _ _ _ (by omega) (HB1.out.alloc (.cells paint0 69)))
       have D2 := hid'' (HF3.out _ _ _ (by omega) (HB2.out.alloc (.cells paint0 69)))
       have E4 := hid'' (blk_new w3 69 paint0)
       unfold paint0 at E4))
  rename World => w5
  have z4 : w3.heap.size < w5.heap.size := HP4.out.lt
  have BW : Hid (Below w.heap.size w w5) := by
    have l3 := (HL3.out w.heap.size (by omega))
    have l4 := (HL4.out w.heap.size (by omega))
    rw [HW0.out] at l3
    exact ((B0.alloc (by omega) (.cells paint0 69)).trans l3).trans (((Below.refl w.heap.size w3).alloc (by omega) (.cells paint0 69)).trans l4)
  have HX : Hid (Bx w w5 w.heap.size (w.heap.size + 1) (w.heap.size + 1 + 1) w3.heap.size Cx Cy Px Py) := ⟨BW.out, F1.out, F2.out, F3.out, HP4.out⟩
  clear HB1 HB2 HB3 HW0 D1 D2 E4 F1 F2 F3 HP3 HP4 HK3 HK4 HF3 HF4 HL3 HL4 BW B0 z0 HX6 HY6 X1 Y1 spx spy sx sy hpi
  go_loopw [9] (fun i wr => ∃ K : Int, 0 ≤ K ∧ K ≤ 4 ∧ i = .int .i64 K ∧ Hid (Bx w wr w.heap.size (w.heap.size + 1) (w.heap.size + 1 + 1) w3.heap.size Cx Cy Px Py)) (fun i _ => 4 - (intOf i).toNat)
  case atStart => exact ⟨0, by omega, by omega, rfl, HX⟩
  case round =>
    obtain ⟨K, h0, h4, rfl, HB⟩ := hrel
    obtain ⟨p1, p2, p3, p4⟩ := HB.out.cells
    have g3 := HB.out.p.lt
    have g4 := HB.out.q.lt
    have hne := Grown.some wr
    have hcase : (K = 0 ∨ K = 1 ∨ K = 2 ∨ K = 3) ∨ K = 4 := by omega
    rcases hcase with hcase | rfl
    · rcases hcase with rfl | rfl | rfl | rfl
      · have f0 := Grown.cell (w := wr) g3 ((p3 13).trans Px13)
        have f1 := Grown.cell (w := wr) g3 ((p3 14).trans Px14)
        have f2 := Grown.cell (w := wr) g3 ((p3 15).trans Px15)
        have e0 := Grown.cell (w := wr) g4 ((p4 13).trans Py13)
        have e1 := Grown.cell (w := wr) g4 ((p4 14).trans Py14)
        have e2 := Grown.cell (w := wr) g4 ((p4 15).trans Py15)
        have kS := hid'' (fun W => same_val q0S q0ix (q0px : Nat) (q0py : Nat) W)
        clear p1 p2 p3 p4
        go_wp2
        refine wp_region_grow (by kernel_rfl) (by kernel_rfl) ?_
        repeat (go_big_quiet_step ((go_at_call 31; exact grow_of (kS.out _))))
        refine wpQuiet_nil ?_
        rintro _ ⟨G, rfl⟩
        go_wp2
        go_roundw
        case rel => exact ⟨1, by omega, by omega, rfl, HB.out.below G.below⟩
        case measure => simp [intOf]
      · have f0 := Grown.cell (w := wr) g3 ((p3 16).trans Px16)
        have f1 := Grown.cell (w := wr) g3 ((p3 17).trans Px17)
        have f2 := Grown.cell (w := wr) g3 ((p3 18).trans Px18)
        have e0 := Grown.cell (w := wr) g4 ((p4 16).trans Py16)
        have e1 := Grown.cell (w := wr) g4 ((p4 17).trans Py17)
        have e2 := Grown.cell (w := wr) g4 ((p4 18).trans Py18)
        have kS := hid'' (fun W => same_val q1S q1ix (q1px : Nat) (q1py : Nat) W)
        clear p1 p2 p3 p4
        go_wp2
        refine wp_region_grow (by kernel_rfl) (by kernel_rfl) ?_
        repeat (go_big_quiet_step ((go_at_call 31; exact grow_of (kS.out _))))
        refine wpQuiet_nil ?_
        rintro _ ⟨G, rfl⟩
        go_wp2
        go_roundw
        case rel => exact ⟨2, by omega, by omega, rfl, HB.out.below G.below⟩
        case measure => simp [intOf]
      · have f0 := Grown.cell (w := wr) g3 ((p3 19).trans Px19)
        have f1 := Grown.cell (w := wr) g3 ((p3 20).trans Px20)
        have f2 := Grown.cell (w := wr) g3 ((p3 21).trans Px21)
        have e0 := Grown.cell (w := wr) g4 ((p4 19).trans Py19)
        have e1 := Grown.cell (w := wr) g4 ((p4 20).trans Py20)
        have e2 := Grown.cell (w := wr) g4 ((p4 21).trans Py21)
        have kS := hid'' (fun W => same_val q2S q2ix (q2px : Nat) (q2py : Nat) W)
        clear p1 p2 p3 p4
        go_wp2
        refine wp_region_grow (by kernel_rfl) (by kernel_rfl) ?_
        repeat (go_big_quiet_step ((go_at_call 31; exact grow_of (kS.out _))))
        refine wpQuiet_nil ?_
        rintro _ ⟨G, rfl⟩
        go_wp2
        go_roundw
        case rel => exact ⟨3, by omega, by omega, rfl, HB.out.below G.below⟩
        case measure => simp [intOf]
      · have f0 := Grown.cell (w := wr) g3 ((p3 22).trans Px22)
        have f1 := Grown.cell (w := wr) g3 ((p3 23).trans Px23)
        have f2 := Grown.cell (w := wr) g3 ((p3 24).trans Px24)
        have e0 := Grown.cell (w := wr) g4 ((p4 22).trans Py22)
        have e1 := Grown.cell (w := wr) g4 ((p4 23).trans Py23)
        have e2 := Grown.cell (w := wr) g4 ((p4 24).trans Py24)
        have kS := hid'' (fun W => same_val q3S q3ix (q3px : Nat) (q3py : Nat) W)
        clear p1 p2 p3 p4
        go_wp2
        refine wp_region_grow (by kernel_rfl) (by kernel_rfl) ?_
        repeat (go_big_quiet_step ((go_at_call 31; exact grow_of (kS.out _))))
        refine wpQuiet_nil ?_
        rintro _ ⟨G, rfl⟩
        go_wp2
        go_roundw
        case rel => exact ⟨4, by omega, by omega, rfl, HB.out.below G.below⟩
        case measure => simp [intOf]
    · go_wp2_with (first
        | (go_at_call 31; refine (same_val _ _ _ _ _).mono ?_; rintro e w6 ⟨rfl, hb⟩; have HN := hid'' (HB.out.below hb); obtain ⟨p1, p2, p3, p4⟩ := HN.out.cells; clear HB hb; have HB := HN; clear HN)
        | (go_at_call 32; refine (same_ref _ _ _ _ _ _ _ _).mono ?_; rintro e w6 ⟨rfl, hb⟩; have HN := hid'' (HB.out.below hb); obtain ⟨p1, p2, p3, p4⟩ := HN.out.cells; clear HB hb; have HB := HN; clear HN)
        | (go_at_call 17; refine (kI.out _ HB.out.b).mono ?_; rintro e w6 ⟨rfl, hb⟩; have HN := hid'' (HB.out.below hb); clear HB hb; have HB := HN; clear HN))
      go_ret
      exact ⟨ret_bool (by simp), HB.out.b⟩

end Go.Proofs.YtenmkopiddmieabGreatDoor

/-
  The document's own word on two written icons that are the same but for places. (Written by tools/mksamesrc.py.)
-/
set_option linter.unusedVariables false
namespace Go.Proofs.YtenmkopiddmieabGreatDoor
open Go.RowKit

theorem refL_len' (x : PP.Ref) : (refL x).length = 6 := rfl
theorem shapeL_len' (x : PP.Shape × Value) : (shapeL x).length = 3 := rfl
theorem cmdL_len' (x : PP.Cmd × Value) : (cmdL x).length = 32 := rfl
theorem infoCmd32 : (Tryz.prog.info? 71).map (·.size) = some 32 := by kernel_rfl

/-- What a written icon is, as the program hands it on. -/
def srcV (X : PP.Src) (v1 v2 v3 v4 : Value) : Value := .agg #[.int .i64 (X.w : Nat), .int .i64 (X.h : Nat), .int .i64 (X.scale : Nat), v1, v2, v3, v4]

set_option maxRecDepth 100000 in
set_option maxHeartbeats 8000000 in
theorem same_src (X Y : PP.Src) (v1 v2 v3 v4 u1 u2 u3 u4 : Value) (w : World) (h1 : SrcAt w X v1 v2 v3 v4) (h2 : SrcAt w Y u1 u2 u3 u4) (he : X.z = Y.z) :
    Calls Tryz.prog 7 #[srcV X v1 v2 v3 v4, srcV Y u1 u2 u3 u4, .bool false] w fun e w' => e = .returned (.bool true) ∧ Below w.heap.size w w' := by
  obtain ⟨xw, xh, xs, x1, x2, x3, x4⟩ := X
  obtain ⟨yw, yh, ys, y1, y2, y3, y4⟩ := Y
  unfold PP.Src.z at he
  simp only [PP.Src.mk.injEq] at he
  obtain ⟨rfl, rfl, rfl, e1, e2, e3, e4⟩ := he
  obtain ⟨m1, m2, ⟨hs3, f3, m3, k3⟩, ⟨hs4, f4, m4, k4⟩⟩ := h1
  obtain ⟨n1, n2, ⟨gs3, g3, n3, j3⟩, ⟨gs4, g4, n4, j4⟩⟩ := h2
  simp only at f3 f4 g3 g4 m1 m2 n1 n2
  rw [← f3, ← g3, List.map_map, List.map_map] at e3
  rw [← f4, ← g4, List.map_map, List.map_map] at e4
  clear f3 f4 g3 g4
  obtain ⟨P1, hP1⟩ : ∃ l, x1 = l := ⟨_, rfl⟩
  have l1 := map_len e1
  obtain ⟨ad1, c1, hv1, a1, b1⟩ := m1.len
  obtain ⟨bd1, d1, hu1, -, -⟩ := n1.len
  obtain ⟨L1, hL1⟩ : ∃ L, x1.length = L := ⟨_, rfl⟩
  rw [hL1] at hv1 l1
  rw [l1] at hu1
  have lim1 : L1 ≤ maxLen := by rw [← hL1]; exact Nat.le_trans a1 b1
  unfold maxLen at lim1
  subst hv1 hu1
  have HL1 := hid'' hL1
  have HN1 := hid'' l1
  have HE1 := hid'' e1
  have M1 := hid'' m1
  have N1 := hid'' n1
  have l2 := map_len e2
  obtain ⟨ad2, c2, hv2, a2, b2⟩ := m2.len
  obtain ⟨bd2, d2, hu2, -, -⟩ := n2.len
  obtain ⟨L2, hL2⟩ : ∃ L, x2.length = L := ⟨_, rfl⟩
  rw [hL2] at hv2 l2
  rw [l2] at hu2
  have lim2 : L2 ≤ maxLen := by rw [← hL2]; exact Nat.le_trans a2 b2
  unfold maxLen at lim2
  subst hv2 hu2
  have HL2 := hid'' hL2
  have HN2 := hid'' l2
  have HE2 := hid'' e2
  have M2 := hid'' m2
  have N2 := hid'' n2
  have l3 := map_len e3
  obtain ⟨ad3, c3, hv3, a3, b3⟩ := m3.len
  obtain ⟨bd3, d3, hu3, -, -⟩ := n3.len
  obtain ⟨L3, hL3⟩ : ∃ L, hs3.length = L := ⟨_, rfl⟩
  rw [hL3] at hv3 l3
  rw [l3] at hu3
  have lim3 : L3 ≤ maxLen := by rw [← hL3]; exact Nat.le_trans a3 b3
  unfold maxLen at lim3
  subst hv3 hu3
  have HL3 := hid'' hL3
  have HN3 := hid'' l3
  have HE3 := hid'' e3
  have M3 := hid'' m3
  have N3 := hid'' n3
  have l4 := map_len e4
  obtain ⟨ad4, c4, hv4, a4, b4⟩ := m4.len
  obtain ⟨bd4, d4, hu4, -, -⟩ := n4.len
  obtain ⟨L4, hL4⟩ : ∃ L, hs4.length = L := ⟨_, rfl⟩
  rw [hL4] at hv4 l4
  rw [l4] at hu4
  have lim4 : L4 ≤ maxLen := by rw [← hL4]; exact Nat.le_trans a4 b4
  unfold maxLen at lim4
  subst hv4 hu4
  have HL4 := hid'' hL4
  have HN4 := hid'' l4
  have HE4 := hid'' e4
  have M4 := hid'' m4
  have N4 := hid'' n4
  have K3 := hid'' k3
  have K4 := hid'' k4
  have J3 := hid'' j3
  have J4 := hid'' j4
  clear l1 hL1 e1 m1 n1 a1 b1 l2 hL2 e2 m2 n2 a2 b2 l3 hL3 e3 m3 n3 a3 b3 l4 hL4 e4 m4 n4 a4 b4 k3 k4 j3 j4 hP1
  unfold srcV
  simp only
  go_enter Tryz.func7, Tryz.ntmps7
  go_wp2
  obtain ⟨W0, hW0⟩ : ∃ W0, (w.alloc (.cells #[.int .i64 (xw : Nat), .int .i64 (xh : Nat), .int .i64 (xs : Nat), .slice ad1 L1 c1, .slice ad2 L2 c2, .slice ad3 L3 c3, .slice ad4 L4 c4] 35)).alloc (.cells #[.int .i64 (xw : Nat), .int .i64 (xh : Nat), .int .i64 (xs : Nat), .slice bd1 L1 d1, .slice bd2 L2 d2, .slice bd3 L3 d3, .slice bd4 L4 d4] 35) = W0 := ⟨_, rfl⟩
  have B0 : Hid (Below w.heap.size w W0) := by rw [← hW0]; exact ((Below.refl _ _).alloc (by omega) _).alloc (by simp) _
  have b1 : Blk W0 w.heap.size 35 #[.int .i64 (xw : Nat), .int .i64 (xh : Nat), .int .i64 (xs : Nat), .slice ad1 L1 c1, .slice ad2 L2 c2, .slice ad3 L3 c3, .slice ad4 L4 c4] := by rw [← hW0]; exact (blk_new _ _ _).alloc _
  have b2 : Blk W0 (w.heap.size + 1) 35 #[.int .i64 (xw : Nat), .int .i64 (xh : Nat), .int .i64 (xs : Nat), .slice bd1 L1 d1, .slice bd2 L2 d2, .slice bd3 L3 d3, .slice bd4 L4 d4] := by
    rw [← hW0]
    have := blk_new (w.alloc (.cells #[.int .i64 (xw : Nat), .int .i64 (xh : Nat), .int .i64 (xs : Nat), .slice ad1 L1 c1, .slice ad2 L2 c2, .slice ad3 L3 c3, .slice ad4 L4 c4] 35)) 35 #[.int .i64 (xw : Nat), .int .i64 (xh : Nat), .int .i64 (xs : Nat), .slice bd1 L1 d1, .slice bd2 L2 d2, .slice bd3 L3 d3, .slice bd4 L4 d4]
    rwa [show (w.alloc (.cells #[.int .i64 (xw : Nat), .int .i64 (xh : Nat), .int .i64 (xs : Nat), .slice ad1 L1 c1, .slice ad2 L2 c2, .slice ad3 L3 c3, .slice ad4 L4 c4] 35)).heap.size = w.heap.size + 1 by simp] at this
  have HB1 := hid'' b1
  have HB2 := hid'' b2
  have z0 := b2.lt
  rw [hW0]
  clear hW0 b1 b2
  go_loopw [7, 8, 9] (fun i p q wr => ∃ k : Nat, k ≤ L1 ∧ i = .int .i64 k ∧ Hid (Below W0.heap.size W0 wr)) (fun i _ _ _ => L1 - (intOf i).toNat)
  case atStart => exact ⟨0, by omega, rfl, Below.refl _ _⟩
  case round =>
    obtain ⟨k, hk, rfl, HB⟩ := hrel
    have hz := HB.out.size
    have zw := B0.out.size
    have q1 := (HB.out.cell (p := ⟨w.heap.size, 3, none⟩) (by show w.heap.size < _; omega)).trans (HB1.out.cell 3)
    have q2 := (HB.out.cell (p := ⟨w.heap.size + 1, 3, none⟩) (by show w.heap.size + 1 < _; omega)).trans (HB2.out.cell 3)
    simp only [List.getElem?_toArray, List.getElem?_cons_succ, List.getElem?_cons_zero] at q1 q2
    have BR : Hid (Below w.heap.size w wr) := chain B0.out HB.out
    have zz1 : w.heap.size < wr.heap.size := by omega
    have zz2 : w.heap.size + 1 < wr.heap.size := by omega
    by_cases hkL : k < L1
    · have k1 : k < x1.length := by rw [HL1.out]; exact hkL
      have k2 : k < y1.length := by rw [HN1.out]; exact hkL
      have hzz := map_at HE1.out k k1 k2
      obtain ⟨g, o, cap, hv, hg, -, -, hc⟩ := many_load valL_len' M1.out k k1
      obtain ⟨rfl, -⟩ : ad1 = some ⟨g, o, none⟩ ∧ _ := by simpa using hv
      obtain ⟨g', o', cap', hv', hg', -, -, hc'⟩ := many_load valL_len' N1.out k k2
      obtain ⟨rfl, -⟩ : bd1 = some ⟨g', o', none⟩ ∧ _ := by simpa using hv'
      clear hv hv'
      have hki : (k : Int) < (L1 : Int) := by omega
      have zg : g < wr.heap.size := by have := BR.out.size; omega
      have zg' : g' < wr.heap.size := by have := BR.out.size; omega
      obtain ⟨⟨sn, si, sp⟩, hx1⟩ : ∃ s, x1[k] = s := ⟨_, rfl⟩
      obtain ⟨⟨tn, ti, tp⟩, hx2⟩ : ∃ s, y1[k] = s := ⟨_, rfl⟩
      rw [hx1] at hzz hc
      rw [hx2] at hzz hc'
      unfold PP.Val.z at hzz
      simp only [PP.Val.mk.injEq, and_true] at hzz
      obtain ⟨rfl, rfl⟩ := hzz
      have f0 := (BR.out.cell (p := ⟨g, o + k * 3, none⟩) hg).trans (hc 0 _ rfl)
      have f1 := (BR.out.cell (p := ⟨g, o + k * 3 + 1, none⟩) hg).trans (hc 1 _ rfl)
      have f2 := (BR.out.cell (p := ⟨g, o + k * 3 + 2, none⟩) hg).trans (hc 2 _ rfl)
      have e0 := (BR.out.cell (p := ⟨g', o' + k * 3, none⟩) hg').trans (hc' 0 _ rfl)
      have e1 := (BR.out.cell (p := ⟨g', o' + k * 3 + 1, none⟩) hg').trans (hc' 1 _ rfl)
      have e2 := (BR.out.cell (p := ⟨g', o' + k * 3 + 2, none⟩) hg').trans (hc' 2 _ rfl)
      obtain ⟨S, hS⟩ : ∃ S : ByteArray, (⟨sn.toArray⟩ : ByteArray) = S := ⟨_, rfl⟩
      rw [hS] at f0 e0
      clear hc hc' hx1 hx2 hS
      go_wp2
      go_roundw
      case rel => exact ⟨k + 1, by omega, by go_num, (HB.out.alloc (by omega) _).alloc (by simp; omega) _⟩
      case measure => simp [intOf]; omega
    · obtain rfl : k = L1 := by omega
      go_wp2
      go_loopw [10, 11, 12] (fun i p q wr => ∃ k : Nat, k ≤ L2 ∧ i = .int .i64 k ∧ Hid (Below W0.heap.size W0 wr)) (fun i _ _ _ => L2 - (intOf i).toNat)
      case atStart => exact ⟨0, by omega, rfl, HB⟩
      case round =>
        obtain ⟨k, hk, rfl, HB⟩ := hrel
        have hz := HB.out.size
        have zw := B0.out.size
        have q1 := (HB.out.cell (p := ⟨w.heap.size, 4, none⟩) (by show w.heap.size < _; omega)).trans (HB1.out.cell 4)
        have q2 := (HB.out.cell (p := ⟨w.heap.size + 1, 4, none⟩) (by show w.heap.size + 1 < _; omega)).trans (HB2.out.cell 4)
        simp only [List.getElem?_toArray, List.getElem?_cons_succ, List.getElem?_cons_zero] at q1 q2
        have BR : Hid (Below w.heap.size w wr) := chain B0.out HB.out
        have zz1 : w.heap.size < wr.heap.size := by omega
        have zz2 : w.heap.size + 1 < wr.heap.size := by omega
        by_cases hkL : k < L2
        · have k1 : k < x2.length := by rw [HL2.out]; exact hkL
          have k2 : k < y2.length := by rw [HN2.out]; exact hkL
          have hzz := map_at HE2.out k k1 k2
          obtain ⟨g, o, cap, hv, hg, -, -, hc⟩ := many_load refL_len' M2.out k k1
          obtain ⟨rfl, -⟩ : ad2 = some ⟨g, o, none⟩ ∧ _ := by simpa using hv
          obtain ⟨g', o', cap', hv', hg', -, -, hc'⟩ := many_load refL_len' N2.out k k2
          obtain ⟨rfl, -⟩ : bd2 = some ⟨g', o', none⟩ ∧ _ := by simpa using hv'
          clear hv hv'
          have hki : (k : Int) < (L2 : Int) := by omega
          have zg : g < wr.heap.size := by have := BR.out.size; omega
          have zg' : g' < wr.heap.size := by have := BR.out.size; omega
          obtain ⟨⟨sn, ⟨sr, sg, sb, sa⟩, sp⟩, hx1⟩ : ∃ s, x2[k] = s := ⟨_, rfl⟩
          obtain ⟨⟨tn, ⟨tr, tg, tb, ta⟩, tp⟩, hx2⟩ : ∃ s, y2[k] = s := ⟨_, rfl⟩
          rw [hx1] at hzz hc
          rw [hx2] at hzz hc'
          unfold PP.Ref.z at hzz
          simp only [PP.Ref.mk.injEq, PP.Col.mk.injEq, and_true] at hzz
          obtain ⟨rfl, rfl, rfl, rfl, rfl⟩ := hzz
          have f0 := (BR.out.cell (p := ⟨g, o + k * 6, none⟩) hg).trans (hc 0 _ rfl)
          have f1 := (BR.out.cell (p := ⟨g, o + k * 6 + 1, none⟩) hg).trans (hc 1 _ rfl)
          have f2 := (BR.out.cell (p := ⟨g, o + k * 6 + 2, none⟩) hg).trans (hc 2 _ rfl)
          have f3 := (BR.out.cell (p := ⟨g, o + k * 6 + 3, none⟩) hg).trans (hc 3 _ rfl)
          have f4 := (BR.out.cell (p := ⟨g, o + k * 6 + 4, none⟩) hg).trans (hc 4 _ rfl)
          have f5 := (BR.out.cell (p := ⟨g, o + k * 6 + 5, none⟩) hg).trans (hc 5 _ rfl)
          have e0 := (BR.out.cell (p := ⟨g', o' + k * 6, none⟩) hg').trans (hc' 0 _ rfl)
          have e1 := (BR.out.cell (p := ⟨g', o' + k * 6 + 1, none⟩) hg').trans (hc' 1 _ rfl)
          have e2 := (BR.out.cell (p := ⟨g', o' + k * 6 + 2, none⟩) hg').trans (hc' 2 _ rfl)
          have e3 := (BR.out.cell (p := ⟨g', o' + k * 6 + 3, none⟩) hg').trans (hc' 3 _ rfl)
          have e4 := (BR.out.cell (p := ⟨g', o' + k * 6 + 4, none⟩) hg').trans (hc' 4 _ rfl)
          have e5 := (BR.out.cell (p := ⟨g', o' + k * 6 + 5, none⟩) hg').trans (hc' 5 _ rfl)
          obtain ⟨S, hS⟩ : ∃ S : ByteArray, (⟨sn.toArray⟩ : ByteArray) = S := ⟨_, rfl⟩
          rw [hS] at f0 e0
          clear hc hc' hx1 hx2 hS
          have kC := hid'' (fun W => same_col (sr : Nat) (sg : Nat) (sb : Nat) (sa : Nat) W)
          go_wp2_with (go_at_call 16; refine (kC.out _).mono ?_; rintro e w6 ⟨rfl, hb⟩)
          go_roundw
          case rel => exact ⟨k + 1, by omega, by go_num, ((HB.out.alloc (by omega) _).alloc (by simp; omega) _).trans (hb.mono (by simp; omega))⟩
          case measure => simp [intOf]; omega
        · obtain rfl : k = L2 := by omega
          go_wp2
          go_loopw [13, 14, 15] (fun i p q wr => ∃ k : Nat, k ≤ L3 ∧ i = .int .i64 k ∧ Hid (Below W0.heap.size W0 wr)) (fun i _ _ _ => L3 - (intOf i).toNat)
          case atStart => exact ⟨0, by omega, rfl, HB⟩
          case round =>
            obtain ⟨k, hk, rfl, HB⟩ := hrel
            have hz := HB.out.size
            have zw := B0.out.size
            have q1 := (HB.out.cell (p := ⟨w.heap.size, 5, none⟩) (by show w.heap.size < _; omega)).trans (HB1.out.cell 5)
            have q2 := (HB.out.cell (p := ⟨w.heap.size + 1, 5, none⟩) (by show w.heap.size + 1 < _; omega)).trans (HB2.out.cell 5)
            simp only [List.getElem?_toArray, List.getElem?_cons_succ, List.getElem?_cons_zero] at q1 q2
            have BR : Hid (Below w.heap.size w wr) := chain B0.out HB.out
            have zz1 : w.heap.size < wr.heap.size := by omega
            have zz2 : w.heap.size + 1 < wr.heap.size := by omega
            by_cases hkL : k < L3
            · have k1 : k < hs3.length := by rw [HL3.out]; exact hkL
              have k2 : k < gs3.length := by rw [HN3.out]; exact hkL
              have hzz := map_at HE3.out k k1 k2
              obtain ⟨g, o, cap, hv, hg, -, -, hc⟩ := many_load shapeL_len' M3.out k k1
              obtain ⟨rfl, -⟩ : ad3 = some ⟨g, o, none⟩ ∧ _ := by simpa using hv
              obtain ⟨g', o', cap', hv', hg', -, -, hc'⟩ := many_load shapeL_len' N3.out k k2
              obtain ⟨rfl, -⟩ : bd3 = some ⟨g', o', none⟩ ∧ _ := by simpa using hv'
              clear hv hv'
              have hki : (k : Int) < (L3 : Int) := by omega
              have zg : g < wr.heap.size := by have := BR.out.size; omega
              have zg' : g' < wr.heap.size := by have := BR.out.size; omega
              have o1 := K3.out hs3[k] (List.getElem_mem k1)
              have o2 := J3.out gs3[k] (List.getElem_mem k2)
              obtain ⟨⟨⟨sn, sp, si⟩, sv⟩, hx1⟩ : ∃ s, hs3[k] = s := ⟨_, rfl⟩
              obtain ⟨⟨⟨tn, tp, ti⟩, tv⟩, hx2⟩ : ∃ s, gs3[k] = s := ⟨_, rfl⟩
              rw [hx1] at hzz hc o1
              rw [hx2] at hzz hc' o2
              simp only [Function.comp, PP.Shape.z, PP.Shape.mk.injEq, true_and] at hzz
              obtain ⟨rfl, hit⟩ := hzz
              have kI : Hid (∀ W, Below w.heap.size w W → Calls Tryz.prog 17 #[sv, tv, .bool false] W fun e w' => e = .returned (.bool true) ∧ Below W.heap.size W w') :=
                fun W hW => same_items _ _ _ _ W (ItemsAt.below o1 hW) (ItemsAt.below o2 hW) hit
              obtain ⟨p1, p2, p3, hsv⟩ := ShapeOk.slice o1
              obtain ⟨t1, t2, t3, htv⟩ := ShapeOk.slice o2
              simp only at hsv htv
              subst hsv htv
              have f0 := (BR.out.cell (p := ⟨g, o + k * 3, none⟩) hg).trans (hc 0 _ rfl)
              have f1 := (BR.out.cell (p := ⟨g, o + k * 3 + 1, none⟩) hg).trans (hc 1 _ rfl)
              have f2 := (BR.out.cell (p := ⟨g, o + k * 3 + 2, none⟩) hg).trans (hc 2 _ rfl)
              have e0 := (BR.out.cell (p := ⟨g', o' + k * 3, none⟩) hg').trans (hc' 0 _ rfl)
              have e1 := (BR.out.cell (p := ⟨g', o' + k * 3 + 1, none⟩) hg').trans (hc' 1 _ rfl)
              have e2 := (BR.out.cell (p := ⟨g', o' + k * 3 + 2, none⟩) hg').trans (hc' 2 _ rfl)
              obtain ⟨S, hS⟩ : ∃ S : ByteArray, (⟨sn.toArray⟩ : ByteArray) = S := ⟨_, rfl⟩
              rw [hS] at f0 e0
              clear hc hc' hx1 hx2 hS o1 o2 hit
              have BX : Hid (∀ o o', Below w.heap.size w ((wr.alloc o).alloc o')) := fun o o' => (BR.out.alloc (by have := BR.out.size; omega) _).alloc (by have := BR.out.size; simp; omega) _
              go_wp2_with (go_at_call 17; refine (kI.out _ (BX.out _ _)).mono ?_; rintro e w6 ⟨rfl, hb⟩)
              go_roundw
              case rel => exact ⟨k + 1, by omega, by go_num, ((HB.out.alloc (by omega) _).alloc (by simp; omega) _).trans (hb.mono (by simp; omega))⟩
              case measure => simp [intOf]; omega
            · obtain rfl : k = L3 := by omega
              go_wp2
              go_loopw [16] (fun i wr => ∃ k : Nat, k ≤ L4 ∧ i = .int .i64 k ∧ Hid (Below W0.heap.size W0 wr)) (fun i _ => L4 - (intOf i).toNat)
              case atStart => exact ⟨0, by omega, rfl, HB⟩
              case round =>
                obtain ⟨k, hk, rfl, HB⟩ := hrel
                have hz := HB.out.size
                have zw := B0.out.size
                have q1 := (HB.out.cell (p := ⟨w.heap.size, 6, none⟩) (by show w.heap.size < _; omega)).trans (HB1.out.cell 6)
                have q2 := (HB.out.cell (p := ⟨w.heap.size + 1, 6, none⟩) (by show w.heap.size + 1 < _; omega)).trans (HB2.out.cell 6)
                simp only [List.getElem?_toArray, List.getElem?_cons_succ, List.getElem?_cons_zero] at q1 q2
                have BR : Hid (Below w.heap.size w wr) := chain B0.out HB.out
                have zz1 : w.heap.size < wr.heap.size := by omega
                have zz2 : w.heap.size + 1 < wr.heap.size := by omega
                by_cases hkL : k < L4
                · have k1 : k < hs4.length := by rw [HL4.out]; exact hkL
                  have k2 : k < gs4.length := by rw [HN4.out]; exact hkL
                  have hzz := map_at HE4.out k k1 k2
                  obtain ⟨g, o, cap, hv, hg, -, -, hc⟩ := many_load cmdL_len' M4.out k k1
                  obtain ⟨rfl, -⟩ : ad4 = some ⟨g, o, none⟩ ∧ _ := by simpa using hv
                  obtain ⟨g', o', cap', hv', hg', -, -, hc'⟩ := many_load cmdL_len' N4.out k k2
                  obtain ⟨rfl, -⟩ : bd4 = some ⟨g', o', none⟩ ∧ _ := by simpa using hv'
                  clear hv hv'
                  have hki : (k : Int) < (L4 : Int) := by omega
                  have zg : g < wr.heap.size := by have := BR.out.size; omega
                  have zg' : g' < wr.heap.size := by have := BR.out.size; omega
                  have o1 := K4.out hs4[k] (List.getElem_mem k1)
                  have o2 := J4.out gs4[k] (List.getElem_mem k2)
                  obtain ⟨x, hx1⟩ : ∃ s, hs4[k] = s := ⟨_, rfl⟩
                  obtain ⟨y, hx2⟩ : ∃ s, gs4[k] = s := ⟨_, rfl⟩
                  rw [hx1] at hzz hc o1
                  rw [hx2] at hzz hc' o2
                  have kS : Hid (∀ W, Below w.heap.size w W → Calls Tryz.prog 18 #[.agg (cmdL x).toArray, .agg (cmdL y).toArray, .bool false] W fun e w' => e = .returned (.bool true) ∧ Below W.heap.size W w') :=
                    fun W hW => same_cmd x y W (ItemsAt.below o1 hW) (ItemsAt.below o2 hW) hzz
                  have s1 : (cmdL x).toArray.size = 32 := rfl
                  have s2 : (cmdL y).toArray.size = 32 := rfl
                  have C1 : Hid (∀ W, Below w.heap.size w W → ∀ j u, (cmdL x).toArray[j]? = some u → W.cell? ⟨g, o + k * 32 + j, none⟩ = some u) := fun W hW j u hj => (hW.cell (p := ⟨g, _, none⟩) hg).trans (hc j u (by simpa using hj))
                  have C2 : Hid (∀ W, Below w.heap.size w W → ∀ j u, (cmdL y).toArray[j]? = some u → W.cell? ⟨g', o' + k * 32 + j, none⟩ = some u) := fun W hW j u hj => (hW.cell (p := ⟨g', _, none⟩) hg').trans (hc' j u (by simpa using hj))
                  generalize (cmdL x).toArray = cx at kS C1 s1
                  generalize (cmdL y).toArray = cy at kS C2 s2
                  have hne := Grown.some wr
                  have y1 := Grown.cell (w := wr) (show w.heap.size < wr.heap.size by omega) q1
                  have y2 := Grown.cell (w := wr) (show w.heap.size + 1 < wr.heap.size by omega) q2
                  clear hc hc' hx1 hx2 o1 o2 hzz
                  go_wp2
                  refine wp_region_grow (by kernel_rfl) (by kernel_rfl) ?_
                  repeat (go_big_quiet_step (fail))
                  go_big_quiet_want
                  refine quiet_load 71 _ rfl g (o + k * 32) rfl cx _ (fun _ ⟨G, hG⟩ => by rw [hG]; exact C1.out _ (chain BR.out G.below)) Tryz.underlying71 rfl (by rw [infoCmd32, s1]) ?_
                  go_big_quiet_on
                  simp only [Act.put, List.setIfInBounds_toArray, List.set_cons_succ, List.set_cons_zero]
                  repeat (go_big_quiet_step (fail))
                  go_big_quiet_want
                  refine quiet_load 71 _ rfl g' (o' + k * 32) rfl cy _ (fun _ ⟨G, hG⟩ => by rw [hG]; exact C2.out _ (chain BR.out G.below)) Tryz.underlying71 rfl (by rw [infoCmd32, s2]) ?_
                  go_big_quiet_on
                  simp only [Act.put, List.setIfInBounds_toArray, List.set_cons_succ, List.set_cons_zero]
                  repeat (go_big_quiet_step ((go_at_call 18; exact grow_of (kS.out _ (chain BR.out (Grown.below _))))))
                  refine wpQuiet_nil ?_
                  rintro _ ⟨G, rfl⟩
                  go_wp2
                  go_roundw
                  case rel => exact ⟨k + 1, by omega, by go_num, chain HB.out G.below⟩
                  case measure => simp [intOf]; omega
                · obtain rfl : k = L4 := by omega
                  go_wp2
                  go_ret
                  exact ⟨rfl, BR.out⟩

end Go.Proofs.YtenmkopiddmieabGreatDoor

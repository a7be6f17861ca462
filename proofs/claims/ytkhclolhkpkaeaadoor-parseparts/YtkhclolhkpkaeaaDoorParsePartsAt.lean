/-
  What one round of ParseParts reads of a written icon, cell for cell.
-/
import Derived.Test.YtkhclolhkpkaeaaDoorParseFirst
import Derived.Test.YtkhclolhkpkaeaaDoorParsePartsPlain
namespace Go.Proofs.YtkhclolhkpkaeaaDoor
open Go.RowKit

/-- A part of a block is loaded as one struct. -/
theorem run_loadVar_part {P : Program} (w : World) (g o : Nat) (ty : TypeId) (cs : Array Value) (d : TypeDesc) (hg : ∀ j u, cs[j]? = some u → w.cell? ⟨g, o + j, none⟩ = some u)
    (hu : P.underlying ty = some d) (hd : (match d with | .struct _ | .array _ _ => true | _ => false) = true) (hi : (P.info? ty).map (·.size) = some cs.size) :
    (loadVar ty ⟨g, o, none⟩).run P w = .ok (.agg cs) w := by
  have hl : (loadCells ⟨g, o, none⟩ cs.toList.length).run P w = .ok cs.toList.toArray w :=
    run_loadCells_list (P := P) w ⟨g, o, none⟩ cs.toList (fun j v hv => by
      have hadd : (⟨g, o, none⟩ : Addr).add j = ⟨g, o + j, none⟩ := by unfold Addr.add; split <;> simp_all
      rw [hadd]
      exact hg j v (by simpa using hv))
  cases hq : P.info? ty with
  | none => simp [hq] at hi
  | some i =>
    have hs : i.size = cs.size := by simpa [hq] using hi
    have hagg : (isAgg ty).run P w = .ok true w := by
      unfold isAgg
      rw [Sem.run_bind, run_underlying hu w]
      cases d <;> simp_all
    simp only [Array.length_toList, Array.toArray_toList] at hl
    simp [loadVar, Sem.run_bind, hagg, sizeOf, typeInfo, hq, hs, hl]
theorem wpList_load_part {P : Program} {ops : Array Oper} {rest : List Oper} {o : Oper} {a : Act} {w : World} {Q : Exit → Act → World → Prop} (hgd : o.guard = none) (ty : TypeId) (x : Operand) (ho : o.op = .load ty x)
    (g off : Nat) (hx : a.eval x = .pointer (some ⟨g, off, none⟩)) (cs : Array Value) (d : TypeDesc) (hg : ∀ j u, cs[j]? = some u → w.cell? ⟨g, off + j, none⟩ = some u)
    (hu : P.underlying ty = some d) (hd : (match d with | .struct _ | .array _ _ => true | _ => false) = true) (hi : (P.info? ty).map (·.size) = some cs.size)
    (h : wpList P ops Q rest (a.put o.dst (.agg cs)) w) : wpList P ops Q (o :: rest) a w := by
  refine wpList_plain hgd fun K hK => ?_
  unfold Oper.wp execOp
  simp only [ho, hx, Instr.loadAt, Instr.sureAddr, Sem.run_bind, Sem.run_pure, Result.andThen_ok, run_loadVar_part w g off ty cs d hg hu hd hi]
  exact hK _ _ h

theorem wpList_val {P : Program} {ops : Array Oper} {rest : List Oper} {o : Oper} {a : Act} {w : World} {Q : Exit → Act → World → Prop} (hgd : o.guard = none) (v : Value) (hrun : (execOp a.eval o).run P w = .ok (.value v) w) (h : wpList P ops Q rest (a.put o.dst v) w) : wpList P ops Q (o :: rest) a w := by
  refine wpList_plain hgd fun K hK => ?_
  unfold Oper.wp
  rw [hrun]
  exact hK _ _ h

structure PartAt (w : World) (b : Bool) (i : Nat) (a1 a2 a3 a4 : Option Addr) (cp sp fp up bp : Nat) (bn : Int) (bm : List UInt8) (tn : Nat) (gc oc gr or gs os gi oi ci gt ot ct gv ov cv gk ok gu ou cu : Nat) (CF CL : Array Value) : Prop where
  e1 : a1 = some ⟨gc, oc, none⟩
  e2 : a2 = some ⟨gr, or, none⟩
  e3 : a3 = some ⟨gs, os, none⟩
  e4 : a4 = some ⟨gk, ok, none⟩
  l1 : gc < w.heap.size
  l2 : gr < w.heap.size
  l3 : gs < w.heap.size
  l4 : gk < w.heap.size
  l5 : gi < w.heap.size
  l6 : gt < w.heap.size
  l7 : gv < w.heap.size
  l8 : gu < w.heap.size
  k1 : w.cell? ⟨gc, oc + i * 3 + 1, none⟩ = some (.int .i64 1500000)
  k2 : w.cell? ⟨gc, oc + i * 3 + 2, none⟩ = some (.int .i64 (cp : Nat))
  k3 : w.cell? ⟨gr, or + i * 6 + 3, none⟩ = some (.int .u8 3)
  k4 : w.cell? ⟨gs, os + i * 3 + 2, none⟩ = some (.slice (some ⟨gi, oi, none⟩) 1 ci)
  k5 : w.cell? ⟨gi, oi + 2, none⟩ = some (.slice (some ⟨gt, ot, none⟩) 3 ct)
  k6 : w.cell? ⟨gt, ot + 2, none⟩ = some (.slice (some ⟨gv, ov, none⟩) 2 cv)
  k7 : w.cell? ⟨gv, ov + 3, none⟩ = some (.string ⟨#[107, 97]⟩)
  k8 : w.cell? ⟨gt, ot + 6, none⟩ = some (.int .i64 7)
  k9 : w.cell? ⟨gt, ot + 4, none⟩ = some (.int .i64 (sp : Nat))
  f1 : ∀ j u, CF[j]? = some u → w.cell? ⟨gk, ok + (2 * i) * 32 + j, none⟩ = some u
  f2 : ∀ j u, CL[j]? = some u → w.cell? ⟨gk, ok + (2 * i + 1) * 32 + j, none⟩ = some u
  s1 : CF.size = 32
  s2 : CL.size = 32
  a1' : CF.all (·.oneCell') = true
  a2' : CL.all (·.oneCell') = true
  c1 : CF[1]? = some (.int .i64 1)
  c2 : CF[2]? = some (.int .i64 (fp : Nat))
  c3 : CF[7]? = some (.string ⟨#[114]⟩)
  c4 : CF[31]? = some (.slice (some ⟨gu, ou, none⟩) 1 cu)
  d1 : CL[0]? = some (.int .i64 2)
  d2 : CL[4]? = some (.int .i64 2000000)
  d3 : CL[8]? = some (.int .u8 255)
  d4 : CL[11]? = some (.int .u8 0)
  d5 : ∃ ad cap, CL[31]? = some (.slice ad 0 cap)
  u0 : w.cell? ⟨gu, ou, none⟩ = some (.bool true)
  u1 : w.cell? ⟨gu, ou + 1, none⟩ = some (.int .i64 (up : Nat))
  u2 : w.cell? ⟨gu, ou + 3, none⟩ = some (.string ⟨#[122]⟩)
  u3 : w.cell? ⟨gu, ou + 10, none⟩ = some (.string ⟨bm.toArray⟩)
  u4 : w.cell? ⟨gu, ou + 11, none⟩ = some (.int .i64 bn)
  u5 : w.cell? ⟨gu, ou + 12, none⟩ = some (.int .i64 (bp : Nat))
  u6 : w.cell? ⟨gu, ou + 13, none⟩ = some (.int .i64 (tn : Nat))
  b1 : 1 ≤ ci ∧ ci ≤ maxLen ∧ 3 ≤ ct ∧ ct ≤ maxLen ∧ 2 ≤ cv ∧ cv ≤ maxLen ∧ 1 ≤ cu ∧ cu ≤ maxLen

theorem get_one {α : Type} {l : List α} {i : Nat} {x : α} (h : l[i]? = some x) : ∃ hi : i < l.length, l[i] = x := List.getElem?_eq_some_iff.1 h
theorem map_at {α β : Type} {l : List (α × β)} {m : List α} {i : Nat} {x : α} (h : l.map (·.1) = m) (hi : m[i]? = some x) : ∃ (k : i < l.length), l[i].1 = x := by
  subst h
  obtain ⟨h1, h2⟩ := get_one hi
  have h3 : i < l.length := by simpa using h1
  exact ⟨h3, by simpa using h2⟩

theorem part_at {w : World} {T : List UInt8} {b : Bool} {X : PP.Src} {i : Nat} {a1 a2 a3 a4 : Option Addr} {n1 n2 n3 n4 c1 c2 c3 c4 : Nat} (h : SrcAt w X (.slice a1 n1 c1) (.slice a2 n2 c2) (.slice a3 n3 c3) (.slice a4 n4 c4))
    {c : PP.Val} {r : PP.Ref} {s : PP.Shape} {f l : PP.Cmd} {it u : PP.Item} {s0 s1 s2 : PP.Step} {v0 v1 : PP.Val} (p : PartIs T b X i c r s f l it u s0 s1 s2 v0 v1) :
    ∃ gc oc gr or gs os gi oi ci gt ot ct gv ov cv gk ok gu ou cu CF CL, PartAt w b i a1 a2 a3 a4 c.pos s1.pos f.pos u.pos u.by'.pos u.by'.n u.by'.name u.turn gc oc gr or gs os gi oi ci gt ot ct gv ov cv gk ok gu ou cu CF CL := by
  obtain ⟨hc1, hc2⟩ := get_one p.hc
  obtain ⟨gc, oc, cc, e1, l1, -, -, q1⟩ := Many.at valL_len h.consts i hc1
  rw [hc2] at q1
  obtain ⟨hr1, hr2⟩ := get_one p.hr
  obtain ⟨gr, or, cr, e2, l2, -, -, q2⟩ := Many.at refL_len h.colors i hr1
  rw [hr2] at q2
  obtain ⟨hs, em, hm, hok⟩ := h.shapes
  obtain ⟨hs1, hs2⟩ := map_at em p.hs
  obtain ⟨gs, os, cs, e3, l3, -, -, q3⟩ := Many.at shapeL_len hm i hs1
  obtain ⟨hi2, ei2, ⟨adi, ci, hei⟩, hmi, hoki⟩ := hok hs[i] (List.getElem_mem hs1)
  rw [hs2] at ei2
  obtain ⟨hi21, hi22⟩ := map_at (i := 0) (x := it) ei2 (by rw [p.si]; rfl)
  obtain ⟨gi, oi, ci', e5, l5, m1, m2, q5⟩ := Many.at itemL_len hmi 0 hi21
  have hlen1 : hi2.length = 1 := by have := congrArg List.length ei2; rw [p.si] at this; simpa using this
  rw [hlen1] at e5 m1
  obtain ⟨ht, et, ⟨adt, ct, het⟩, hmt, hokt⟩ := hoki hi2[0] (List.getElem_mem hi21)
  rw [hi22, p.st] at et
  have hlen3 : ht.length = 3 := by have := congrArg List.length et; simpa using this
  obtain ⟨ht0, et0⟩ := map_at (i := 0) (x := s0) et rfl
  obtain ⟨ht1, et1⟩ := map_at (i := 1) (x := s1) et rfl
  obtain ⟨ht2, et2⟩ := map_at (i := 2) (x := s2) et rfl
  obtain ⟨gt, ot, ct', e6, l6, m3, m4, q6⟩ := Many.at stepL_len hmt 0 ht0
  obtain ⟨gt', ot', ct'', e6', -, -, -, q6'⟩ := Many.at stepL_len hmt 1 ht1
  obtain ⟨gt2, ot2, ct2, e62, -, -, -, q62⟩ := Many.at stepL_len hmt 2 ht2
  rw [e6] at e6' e62
  simp only [Value.slice.injEq, Option.some.injEq, Addr.mk.injEq, and_true, true_and] at e6' e62
  obtain ⟨⟨rfl, rfl⟩, rfl⟩ := e6'
  obtain ⟨⟨rfl, rfl⟩, rfl⟩ := e62
  obtain ⟨-, hmv⟩ := hokt ht[0] (List.getElem_mem ht0)
  rw [et0, p.sv] at hmv
  obtain ⟨gv, ov, cv, e7, l7, m5, m6, q7⟩ := Many.at valL_len hmv 1 (by simp)
  obtain ⟨hk, ek, hmk, hokk⟩ := h.cmds
  obtain ⟨hk1, hk2⟩ := map_at ek p.hf
  obtain ⟨hl1, hl2⟩ := map_at ek p.hl
  obtain ⟨gk, ok, ck, e4, l4, -, -, q8⟩ := Many.at cmdL_len hmk (2 * i) hk1
  obtain ⟨gk', ok', ck', e4', -, -, -, q9⟩ := Many.at cmdL_len hmk (2 * i + 1) hl1
  rw [e4] at e4'
  simp only [Value.slice.injEq, Option.some.injEq, Addr.mk.injEq, and_true, true_and] at e4'
  obtain ⟨⟨rfl, rfl⟩, rfl⟩ := e4'
  obtain ⟨hu, eu, ⟨adu, cu, heu⟩, hmu, -⟩ := hokk hk[2 * i] (List.getElem_mem hk1)
  rw [hk2] at eu
  obtain ⟨hu1, hu2⟩ := map_at (i := 0) (x := u) eu (by rw [p.fi]; rfl)
  have hlenu : hu.length = 1 := by have := congrArg List.length eu; rw [p.fi] at this; simpa using this
  obtain ⟨gu, ou, cu', e8, l8, m7, m8, q10⟩ := Many.at itemL_len hmu 0 hu1
  rw [hlenu] at e8 m7
  obtain ⟨hv, ev, ⟨adv, cuv, hev⟩, -, -⟩ := hokk hk[2 * i + 1] (List.getElem_mem hl1)
  rw [hl2, p.li] at ev
  have hlenv : hv.length = 0 := by have := congrArg List.length ev; simpa using this
  rw [hlenv] at hev
  refine ⟨gc, oc, gr, or, gs, os, gi, oi, ci', gt, ot, ct', gv, ov, cv, gk, ok, gu, ou, cu', (cmdL hk[2 * i]).toArray, (cmdL hk[2 * i + 1]).toArray, ?_⟩
  have x1 : (hs[i]).2 = .slice (some ⟨gi, oi, none⟩) 1 ci' := e5
  have x2 : (hi2[0]).2 = .slice (some ⟨gt, ot, none⟩) 3 ct' := by rw [← hlen3]; exact e6
  have x3 : (ht[0]).2 = .slice (some ⟨gv, ov, none⟩) 2 cv := e7
  have x4 : (hk[2 * i]).2 = .slice (some ⟨gu, ou, none⟩) 1 cu' := e8
  refine { e1 := by cases e1; rfl, e2 := by cases e2; rfl, e3 := by cases e3; rfl, e4 := by cases e4; rfl, l1 := l1, l2 := l2, l3 := l3, l4 := l4, l5 := l5, l6 := l6, l7 := l7, l8 := l8, k1 := ?_, k2 := ?_, k3 := ?_, k4 := ?_, k5 := ?_, k6 := ?_, k7 := ?_, k8 := ?_, k9 := ?_, f1 := ?_, f2 := ?_, s1 := by simp [cmdL_len], s2 := by simp [cmdL_len], a1' := ?_, a2' := ?_, c1 := ?_, c2 := ?_, c3 := ?_, c4 := ?_, d1 := ?_, d2 := ?_, d3 := ?_, d4 := ?_, d5 := ?_, u0 := ?_, u1 := ?_, u2 := ?_, u3 := ?_, u4 := ?_, u5 := ?_, u6 := ?_, b1 := ⟨m1, m2, by rw [← hlen3]; exact m3, m4, m5, m6, m7, m8⟩ }
  · rw [Nat.add_assoc]; exact q1 1 _ (by rw [← p.cn]; rfl)
  · rw [Nat.add_assoc]; exact q1 2 _ rfl
  · rw [Nat.add_assoc]; exact q2 3 _ (by have := p.rb; show some (Value.int .u8 (r.c.b : Nat)) = _; rw [this]; rfl)
  · rw [Nat.add_assoc]; exact q3 2 _ (by rw [← x1]; rfl)
  · have := q5 2 _ (show (itemL hi2[0])[2]? = some (.slice (some ⟨gt, ot, none⟩) 3 ct') by rw [← x2]; rfl)
    simpa using this
  · have := q6 2 _ (show (stepL ht[0])[2]? = some (.slice (some ⟨gv, ov, none⟩) 2 cv) by rw [← x3]; rfl)
    simpa using this
  · have := q7 0 (.string ⟨#[107, 97]⟩) (by show some (Value.string ⟨v1.name.toArray⟩) = _; rw [p.vn])
    simpa using this
  · have := q62 0 (.int .i64 7) (by show some (Value.int .i64 ((ht[2]).1.kind : Nat)) = _; rw [et2, p.sk]; rfl)
    simpa using this
  · have := q6' 1 (.int .i64 (s1.pos : Nat)) (by show some (Value.int .i64 ((ht[1]).1.pos : Nat)) = _; rw [et1])
    simpa using this
  · intro j u hj
    rw [Nat.add_assoc]
    exact q8 j u (by simpa using hj)
  · intro j u hj
    rw [Nat.add_assoc]
    exact q9 j u (by simpa using hj)
  · obtain ⟨ad, n, cap, he⟩ : ∃ ad n cap, (hk[2 * i]).2 = .slice ad n cap := ⟨_, _, _, x4⟩
    simp [cmdL, paintL, he, Value.oneCell']
  · simp [cmdL, paintL, hev, Value.oneCell']
  · show some (Value.int .i64 ((hk[2 * i]).1.rule : Nat)) = _; rw [hk2, p.fr]; rfl
  · show some (Value.int .i64 ((hk[2 * i]).1.pos : Nat)) = _; rw [hk2]
  · show some (Value.string ⟨((hk[2 * i]).1.paint.a.name).toArray⟩) = _; rw [hk2, p.fa]
  · show some ((hk[2 * i]).2) = _; rw [x4]
  · show some (Value.int .i64 ((hk[2 * i + 1]).1.kind : Nat)) = _; rw [hl2, p.lk]; rfl
  · show some (Value.int .i64 ((hk[2 * i + 1]).1.width.n)) = _; rw [hl2, p.lw]
  · show some (Value.int .u8 ((hk[2 * i + 1]).1.paint.a.c.r : Nat)) = _; rw [hl2, p.lr]; rfl
  · show some (Value.int .u8 ((hk[2 * i + 1]).1.paint.a.c.a : Nat)) = _; rw [hl2, p.la]; rfl
  · exact ⟨adv, cuv, by show some ((hk[2 * i + 1]).2) = _; rw [hev]⟩
  · have := q10 0 (.bool true) (by show some (Value.bool (hu[0]).1.use) = _; rw [hu2, p.uu])
    simpa using this
  · have := q10 1 (.int .i64 (u.pos : Nat)) (by show some (Value.int .i64 ((hu[0]).1.pos : Nat)) = _; rw [hu2])
    simpa using this
  · have := q10 3 (.string ⟨#[122]⟩) (by show some (Value.string ⟨(hu[0]).1.name.toArray⟩) = _; rw [hu2, p.un])
    simpa using this
  · have := q10 10 (.string ⟨u.by'.name.toArray⟩) (by show some (Value.string ⟨(hu[0]).1.by'.name.toArray⟩) = _; rw [hu2])
    simpa using this
  · have := q10 11 (.int .i64 u.by'.n) (by show some (Value.int .i64 (hu[0]).1.by'.n) = _; rw [hu2])
    simpa using this
  · have := q10 12 (.int .i64 (u.by'.pos : Nat)) (by show some (Value.int .i64 ((hu[0]).1.by'.pos : Nat)) = _; rw [hu2])
    simpa using this
  · have := q10 13 (.int .i64 (u.turn : Nat)) (by show some (Value.int .i64 ((hu[0]).1.turn : Nat)) = _; rw [hu2])
    simpa using this

theorem cut_is {T : List UInt8} {p k : Nat} {l : List UInt8} (h : p + k ≤ T.length ∧ (T.drop p).take k = l) : (⟨T.toArray⟩ : ByteArray).extract p (p + k) = ⟨l.toArray⟩ := by
  apply ByteArray.ext
  rw [ByteArray.data_extract]
  apply Array.ext'
  simp only [Array.toList_extract, List.extract_eq_take_drop]
  rw [← h.2]
  simp

end Go.Proofs.YtkhclolhkpkaeaaDoor

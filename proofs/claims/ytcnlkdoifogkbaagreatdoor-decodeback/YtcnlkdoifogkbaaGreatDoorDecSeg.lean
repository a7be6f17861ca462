/-
  A reader reads a segment: walked over the program.
-/
import Derived.Test.YtcnlkdoifogkbaaGreatDoorDecPnt0
namespace Go.Proofs.YtcnlkdoifogkbaaGreatDoor
open Go.RowKit

/-- All but two blocks is as it was. -/
structure Mk2 (q b : Nat) (w w' : World) : Prop where
  os : w'.os = w.os
  tape : w'.tape = w.tape
  output : w'.output = w.output
  size : w.heap.size ≤ w'.heap.size
  block : ∀ k, k < w.heap.size → k ≠ q → k ≠ b → w'.heap[k]? = w.heap[k]?

theorem Mk2.refl (q b : Nat) (w : World) : Mk2 q b w w := ⟨rfl, rfl, rfl, Nat.le_refl _, fun _ _ _ _ => rfl⟩
theorem Mk2.trans {q b : Nat} {u v w : World} (h : Mk2 q b u v) (k : Mk2 q b v w) : Mk2 q b u w :=
  ⟨k.os.trans h.os, k.tape.trans h.tape, k.output.trans h.output, Nat.le_trans h.size k.size, fun i hi h1 h2 => (k.block i (Nat.lt_of_lt_of_le hi h.size) h1 h2).trans (h.block i hi h1 h2)⟩
theorem Mk2.of {q b : Nat} {w w' : World} (h : Mk q w w') : Mk2 q b w w' := ⟨h.os, h.tape, h.output, h.size, fun k hk h1 _ => h.block k hk (fun e => h1 (by cases e; rfl))⟩
theorem Mk2.set {q b : Nat} {w w' : World} (h : Mk2 q b w w') {p : Addr} (hp : w.heap.size ≤ p.block ∨ p.block = q ∨ p.block = b) (v : Value) : Mk2 q b w (w'.setCell p v) :=
  ⟨h.os, h.tape, h.output, by simpa using h.size, fun k hk h1 h2 => (Below.heap_setCell _ _ _ _ (by omega)).trans (h.block k hk h1 h2)⟩
theorem Mk2.drew {q b : Nat} {w w' : World} (h : Mk2 q b w w') : Mk2 q b w w'.drew := ⟨h.os, h.tape, h.output, h.size, h.block⟩
theorem Mk2.drewN {q b : Nat} {w w' : World} (h : Mk2 q b w w') (n : Nat) : Mk2 q b w (w'.drewN n) := ⟨h.os, h.tape, h.output, h.size, h.block⟩
theorem Mk2.alloc {q b : Nat} {w w' : World} (h : Mk2 q b w w') (o : Obj) : Mk2 q b w (w'.alloc o) := h.trans (Mk2.of (Mk.below ((Below.refl _ _).alloc (Nat.le_refl _) _)))
/-- The second block is new. -/
theorem Mk2.hide {q b : Nat} {w w' w'' : World} (h0 : Mk q w w') (h : Mk2 q b w' w'') (hb : w.heap.size ≤ b) : Mk q w w'' :=
  ⟨h.os.trans h0.os, h.tape.trans h0.tape, h.output.trans h0.output, Nat.le_trans h0.size h.size, fun k hk hn => (h.block k (Nat.lt_of_lt_of_le hk h0.size) (fun e => hn (by rw [e])) (by omega)).trans (h0.block k hk hn)⟩
theorem Blk.mk2 {w w' : World} {g q b : Nat} {t : TypeId} {a : Array Value} (h : Blk w g t a) (hm : Mk2 q b w w') (h1 : g ≠ q) (h2 : g ≠ b) : Blk w' g t a := (hm.block g h.lt h1 h2).trans h

/-- A reader of a path. -/
def prcells (q : Nat) (k : Int) (l : IC.Pt) (v : Value) : Array Value := #[.pointer (some ⟨q, 0, none⟩), .int .i64 k, .int .i64 l.x, .int .i64 l.y, v]
def Pr (w : World) (b q : Nat) (k : Int) (l : IC.Pt) (v : Value) : Prop := Blk w b 163 (prcells q k l v)

theorem Rs.drew' {x : Src} {q : Nat} {w : World} {R : Except DP.Bad DP.St} (h : Rs x q w R) : Rs x q w.drew R := h.drew

theorem Rs.ptsCell {x : Src} {q : Nat} {w : World} {R : Except DP.Bad DP.St} (h : Rs x q w R) : w.frozen? ⟨q, 6, none⟩ = false ∧ ∃ z : Int, w.cell? ⟨q, 6, none⟩ = some (.int .i64 z) ∧ ∀ s, R = .ok s → z = s.pts := by
  cases R with
  | ok s => exact ⟨(show Rd x q w s from h).blk.frozen 6, s.pts, (show Rd x q w s from h).blk.cell 6, fun s' e => by cases e; rfl⟩
  | error b =>
    obtain ⟨h1, ⟨ao, n, cap, at', far, adc, nc, capc, used, pts, cl, g, h2, h3, h4⟩, h5⟩ := h
    have := h2.cell 6
    simp at this
    exact ⟨h2.frozen 6, pts, this, fun s e => by cases e⟩

/-- So many points more. -/
def addPts (k : Nat) : Except DP.Bad DP.St → Except DP.Bad DP.St
  | .ok s => .ok { s with pts := s.pts + k }
  | .error e => .error e

theorem Rs.addPts {x : Src} {q : Nat} {w : World} {R : Except DP.Bad DP.St} (h : Rs x q w R) (k : Nat) (z : Int) (hz : ∀ s, R = .ok s → z = ((s.pts + k : Nat) : Int) ∧ s.pts + k ≤ 4001) : Rs x q (w.setCell ⟨q, 6, none⟩ (.int .i64 z)) (addPts k R) := by
  cases R with
  | ok s =>
    obtain ⟨rfl, h2⟩ := hz s rfl
    exact Rd.setPts h (s.pts + k) h2
  | error b => exact Rx.setAny h 6 z (by omega)

/-- Points that are read turn nothing but the place. -/
theorem point_keep {bs : List Nat} {a : IC.Pt} {R : Except DP.Bad DP.St} {s' : DP.St} (hb : ∀ c ∈ bs, c < 256) (h : rest (run (DP.point bs a) R) = .ok s') : ∃ s k, R = .ok s ∧ s' = { s with at' := s.at' + k } := by
  rw [(point_sum bs a R).1] at h
  obtain ⟨s1, k1, e1, e2⟩ := part_keep hb h
  obtain ⟨s0, k0, e3, e4⟩ := part_keep hb e1
  exact ⟨s0, k0 + k1, e3, by rw [e2, e4]; simp [Nat.add_assoc]⟩

theorem point_reach {bs : List Nat} {a : IC.Pt} {R : Except DP.Bad DP.St} {v : IC.Pt × DP.St} (hb : ∀ c ∈ bs, c < 256) (h : run (DP.point bs a) R = .ok v) : IC.reach v.2.far v.1 = true := by
  cases R with
  | error e => cases h
  | ok s =>
    change DP.point bs a s = .ok v at h
    cases h1 : DP.part bs a.x s with
    | error e => rw [show DP.point bs a s = .error e from DP.andThen_err h1] at h; cases h
    | ok v1 =>
      rw [show DP.point bs a s = DP.andThen (DP.part bs a.y) (fun y => DP.ret (⟨v1.1, y⟩ : IC.Pt)) v1.2 from DP.andThen_ok h1] at h
      cases h2 : DP.part bs a.y v1.2 with
      | error e => rw [DP.andThen_err h2] at h; cases h
      | ok v2 =>
        rw [DP.andThen_ok h2] at h
        cases h
        obtain ⟨x1, s1⟩ := v1
        obtain ⟨y1, s2⟩ := v2
        obtain ⟨a1, k1, e1, -⟩ := part_facts h1 hb
        obtain ⟨a2, k2, e2, -⟩ := part_facts h2 hb
        simp only at e1 e2 a2
        have f1 : s1.far = s.far := by rw [e1]
        have f2 : s2.far = s1.far := by rw [e2]
        simp only [IC.reach, IC.within, Bool.and_eq_true, decide_eq_true_eq, f2]
        rw [f1] at a2 ⊢
        exact ⟨a1, a2⟩

/-- What stands while a segment's points are read. -/
structure SegSt (x : Src) (q b S B0 k : Nat) (w : World) (R : Except DP.Bad DP.St) (last : IC.Pt) (vs : Value) (j : Nat) (acc : List IC.Pt) (l : IC.Pt) (R' : Except DP.Bad DP.St) (wr : World) : Prop where
  len : acc.length = j
  eq : run (DP.pts x.bs k [] last) R = run (DP.pts x.bs (k - j) acc l) R'
  rs : Rs x q wr R'
  inn : PtIn64 l
  rch : ∀ s, R' = .ok s → IC.reach s.far l = true
  keep : ∀ s', R' = .ok s' → ∃ s n, R = .ok s ∧ s' = { s with at' := s.at' + n }
  pr : Pr wr b q k l vs
  seg : Blk wr S 103 (DP.segOf k acc).cells.toArray
  out : Blk wr B0 103 #[.int .i64 0, .int .i64 0, .int .i64 0, .int .i64 0, .int .i64 0, .int .i64 0, .int .i64 0]
  kept : Mk2 q b w wr

theorem SegSt.next {x : Src} {q b S B0 k : Nat} {w : World} {R : Except DP.Bad DP.St} {last : IC.Pt} {vs : Value} {j : Nat} {acc : List IC.Pt} {l : IC.Pt} {R' : Except DP.Bad DP.St} {wr w1 : World} (h : SegSt x q b S B0 k w R last vs j acc l R' wr) (hj : j < k) (hk : k ≤ 3) {p : IC.Pt} (hi : PtIn64 p) (hp : ∀ v, run (DP.point x.bs l) R' = .ok v → v.1 = p)
    (h1 : Rs x q w1 (rest (run (DP.point x.bs l) R'))) (hm : Mk q wr w1) (hq : q < b) (hS : w.heap.size ≤ S) (hSb : S ≠ b) (hSq : q < S) (hB : B0 ≠ b) (hBS : B0 ≠ S) (hBq : B0 ≠ q) :
    SegSt x q b S B0 k w R last vs (j + 1) (acc ++ [p]) p (rest (run (DP.point x.bs l) R')) ((((w1.setCell ⟨b, 2, none⟩ (.int .i64 p.x)).setCell ⟨b, 3, none⟩ (.int .i64 p.y)).setCell ⟨S, 1 + 2 * j, none⟩ (.int .i64 p.x)).setCell ⟨S, 2 + 2 * j, none⟩ (.int .i64 p.y)) := by
  have hb := h.rs.base.lt256
  have p1 : Pr w1 b q k l vs := Blk.mk h.pr hm (by omega)
  have s1 := h.seg.mk hm (by omega)
  have o1 := h.out.mk hm hBq
  have pr2 : Blk (w1.setCell ⟨b, 2, none⟩ (.int .i64 p.x)) b 163 _ := Blk.set (j := 2) p1 (.int .i64 p.x)
  have pr3 := Blk.set (j := 3) pr2 (.int .i64 p.y)
  have s3 := (s1.far (p := ⟨b, 2, none⟩) hSb (.int .i64 p.x)).far (p := ⟨b, 3, none⟩) hSb (.int .i64 p.y)
  have s4 := s3.set (j := 1 + 2 * j) (.int .i64 p.x)
  have r2 := h1.far (p := ⟨b, 2, none⟩) hq p1 (by decide) (by decide) (.int .i64 p.x)
  have r3 := r2.far (p := ⟨b, 3, none⟩) hq pr2 (by decide) (by decide) (.int .i64 p.y)
  have r4 := r3.far (p := ⟨S, 1 + 2 * j, none⟩) hSq s3 (by decide) (by decide) (.int .i64 p.x)
  have r5 := r4.far (p := ⟨S, 2 + 2 * j, none⟩) hSq s4 (by decide) (by decide) (.int .i64 p.y)
  refine ⟨by simp [h.len], ?_, r5, hi, ?_, ?_, ?_, ?_, ?_, ?_⟩
  · rw [h.eq, show k - j = (k - (j + 1)) + 1 by omega]
    exact run_then _ _ _ p hp
  · intro s e
    cases hr : run (DP.point x.bs l) R' with
    | error b => rw [hr] at e; cases e
    | ok v =>
      have := point_reach hb hr
      rw [hr] at e
      cases e
      rw [hp v hr] at this
      exact this
  · intro s' e
    obtain ⟨s1, n1, e1, e2⟩ := point_keep hb e
    obtain ⟨s0, n0, e3, e4⟩ := h.keep s1 e1
    exact ⟨s0, n0 + n1, e3, by rw [e2, e4]; simp [Nat.add_assoc]⟩
  · exact ((Blk.far (p := ⟨S, 1 + 2 * j, none⟩) pr3 (fun e => hSb e.symm) _).far (p := ⟨S, 2 + 2 * j, none⟩) (fun e => hSb e.symm) _)
  · have s5 := s4.set (j := 2 + 2 * j) (.int .i64 p.y)
    have e : (((DP.segOf k acc).cells.toArray.setIfInBounds (1 + 2 * j) (.int .i64 p.x)).setIfInBounds (2 + 2 * j) (.int .i64 p.y)) = (DP.segOf k (acc ++ [p])).cells.toArray := by
      have hl := h.len
      have h3 : j = 0 ∨ j = 1 ∨ j = 2 := by omega
      rcases h3 with rfl | rfl | rfl
      · have : acc = [] := List.length_eq_zero_iff.1 hl
        subst this
        rfl
      · obtain ⟨a, rfl⟩ := List.length_eq_one_iff.1 hl
        rfl
      · match acc, hl with
        | [a, c], _ => rfl
    rw [e] at s5
    exact s5
  · exact (((o1.far (p := ⟨b, 2, none⟩) hB _).far (p := ⟨b, 3, none⟩) hB _).far (p := ⟨S, 1 + 2 * j, none⟩) hBS _).far (p := ⟨S, 2 + 2 * j, none⟩) hBS _
  · exact ((((h.kept.trans (Mk2.of hm)).set (p := ⟨b, 2, none⟩) (by simp) _).set (p := ⟨b, 3, none⟩) (by simp) _).set (p := ⟨S, 1 + 2 * j, none⟩) (.inl hS) _).set (p := ⟨S, 2 + 2 * j, none⟩) (.inl hS) _

theorem dpts_zero (bs : List Nat) (acc : List IC.Pt) (l : IC.Pt) : DP.pts bs 0 acc l = DP.ret (acc, l) := rfl

set_option maxRecDepth 20000 in
set_option maxHeartbeats 2000000 in
theorem dseg_any (x : Src) (q b k : Nat) (R : Except DP.Bad DP.St) (last : IC.Pt) (vs : Value) (w : World) (h : Rs x q w R) (hp : Pr w b q k last vs) (hqb : q < b) (hk : k ≤ 3) (hi : PtIn64 last) (hr : ∀ s, R = .ok s → IC.reach s.far last = true) (h4 : ∀ s, R = .ok s → s.pts + k ≤ 4001) :
    Calls Tryz.prog 121 #[.pointer (some ⟨b, 0, none⟩)] w fun e w' => ∃ (g : IC.Seg) (l : IC.Pt), e = .returned (.agg g.cells.toArray) ∧ PtIn64 l ∧ (∀ v, run (DP.seg x.bs k last) R = .ok v → v.1 = (g, l)) ∧ Rs x q w' (rest (run (DP.seg x.bs k last) R)) ∧ Pr w' b q k l vs ∧ Mk2 q b w w' := by
  have hblt := Blk.lt hp
  have c1 : w.cell? ⟨b, 1, none⟩ = some (.int .i64 k) := Blk.cell hp 1
  have H0 := hid'' h
  have HP0 := hid'' hp
  have HI := hid'' hi
  have HR := hid'' hr
  have H4 := hid'' h4
  have kp : Hid (∀ (l : IC.Pt) (R' : Except DP.Bad DP.St) (W : World), Rs x q W R' → PtIn64 l → (∀ s, R' = .ok s → IC.reach s.far l = true) → Calls Tryz.prog 109 #[.pointer (some ⟨q, 0, none⟩), .agg #[.int .i64 l.x, .int .i64 l.y]] W fun e w' => ∃ p : IC.Pt, e = .returned (.agg #[.int .i64 p.x, .int .i64 p.y]) ∧ PtIn64 p ∧ (∀ v, run (DP.point x.bs l) R' = .ok v → v.1 = p) ∧ Rs x q w' (rest (run (DP.point x.bs l) R')) ∧ Mk q W w') := fun l R' W hW h1 h2 => dpoint_any x q R' l W hW h1 h2
  clear h hp hi hr h4
  obtain ⟨RP, hRP⟩ : ∃ RP, run (DP.seg x.bs k last) R = RP := ⟨_, rfl⟩
  have HRP := hid'' hRP
  rw [hRP]
  clear hRP
  go_enter Tryz.func121, Tryz.ntmps121
  go_wp2
  go_loopw [12] (fun i wr => ∃ (j : Nat) (acc : List IC.Pt) (l : IC.Pt) (R' : Except DP.Bad DP.St), j ≤ k ∧ i = .int .i64 j ∧ Hid (SegSt x q b (w.heap.size + 1) w.heap.size k w R last vs j acc l R' wr)) (fun i _ => k - (intOf i).toNat)
  case atStart =>
    refine ⟨0, [], last, R, by omega, rfl, rfl, rfl, ?_, HI.out, HR.out, fun s' e => ⟨s', 0, e, rfl⟩, ?_, ?_, ?_, ?_⟩
    · exact H0.out.below (((Below.refl _ _).alloc (Nat.le_refl _) _).alloc (by simp) _)
    · exact Blk.below HP0.out (((Below.refl w.heap.size w).alloc (Nat.le_refl _) _).alloc (by simp) _) hblt
    · exact (two_boxes w _ _ _ _).2
    · exact (two_boxes w _ _ _ _).1
    · exact ((Mk2.refl q b w).alloc _).alloc _
  case round =>
    obtain ⟨j, acc, l, R', hj, rfl, HS⟩ := hrel
    by_cases hjk : j < k
    · have hcase : j = 0 ∨ j = 1 ∨ j = 2 := by omega
      rcases hcase with rfl | rfl | rfl
      · obtain ⟨q0, q2, q3⟩ : wr.cell? ⟨b, 0, none⟩ = some (.pointer (some ⟨q, 0, none⟩)) ∧ wr.cell? ⟨b, 2, none⟩ = some (.int .i64 l.x) ∧ wr.cell? ⟨b, 3, none⟩ = some (.int .i64 l.y) := ⟨Blk.cell HS.out.pr 0, Blk.cell HS.out.pr 2, Blk.cell HS.out.pr 3⟩
        have zb : b < wr.heap.size := Blk.lt HS.out.pr
        go_wp2
        go_region_with (first
          | (go_at_call 109; refine (kp.out l R' _ (by first | exact HS.out.rs.drew | exact HS.out.rs) HS.out.inn HS.out.rch).mono ?_; rintro e w1 ⟨p, rfl, hi1, hv1, hr1, hm1⟩
             have HI1 := hid'' hi1
             have HV1 := hid'' hv1
             have HR1 := hid'' hr1
             have HM1 : Hid (Mk q wr w1) := ⟨hm1.os, hm1.tape, hm1.output, hm1.size, hm1.block⟩
             clear hi1 hv1 hr1 hm1
             have PB : Blk w1 b 163 _ := Blk.mk HS.out.pr HM1.out (by omega)
             have SB := HS.out.seg.mk HM1.out (by omega)
             have l1 := PB.lt
             have l2 := SB.lt
             have p2 : w1.cell? ⟨b, 2, none⟩ = some (.int .i64 l.x) := PB.cell 2
             have p3 : w1.cell? ⟨b, 3, none⟩ = some (.int .i64 l.y) := PB.cell 3
             have f2 := PB.frozen 2
             have f3 := PB.frozen 3
             have s1 := SB.cell (1 + 2 * 0)
             have s2 := SB.cell (2 + 2 * 0)
             have g1 := SB.frozen (1 + 2 * 0)
             have g2 := SB.frozen (2 + 2 * 0)
             simp [IC.Seg.cells] at s1 s2 g1 g2
             clear PB SB))
        all_goals go_wp2
        all_goals go_roundw
        all_goals first
          | (case rel => exact ⟨0 + 1, _, _, _, by omega, by go_num, HS.out.next (by omega) hk HI1.out HV1.out HR1.out HM1.out hqb (by omega) (by omega) (by omega) (by omega) (by omega) (by omega)⟩)
          | skip
        all_goals simp [intOf]; omega
      · obtain ⟨q0, q2, q3⟩ : wr.cell? ⟨b, 0, none⟩ = some (.pointer (some ⟨q, 0, none⟩)) ∧ wr.cell? ⟨b, 2, none⟩ = some (.int .i64 l.x) ∧ wr.cell? ⟨b, 3, none⟩ = some (.int .i64 l.y) := ⟨Blk.cell HS.out.pr 0, Blk.cell HS.out.pr 2, Blk.cell HS.out.pr 3⟩
        have zb : b < wr.heap.size := Blk.lt HS.out.pr
        go_wp2
        go_region_with (first
          | (go_at_call 109; refine (kp.out l R' _ (by first | exact HS.out.rs.drew | exact HS.out.rs) HS.out.inn HS.out.rch).mono ?_; rintro e w1 ⟨p, rfl, hi1, hv1, hr1, hm1⟩
             have HI1 := hid'' hi1
             have HV1 := hid'' hv1
             have HR1 := hid'' hr1
             have HM1 : Hid (Mk q wr w1) := ⟨hm1.os, hm1.tape, hm1.output, hm1.size, hm1.block⟩
             clear hi1 hv1 hr1 hm1
             have PB : Blk w1 b 163 _ := Blk.mk HS.out.pr HM1.out (by omega)
             have SB := HS.out.seg.mk HM1.out (by omega)
             have l1 := PB.lt
             have l2 := SB.lt
             have p2 : w1.cell? ⟨b, 2, none⟩ = some (.int .i64 l.x) := PB.cell 2
             have p3 : w1.cell? ⟨b, 3, none⟩ = some (.int .i64 l.y) := PB.cell 3
             have f2 := PB.frozen 2
             have f3 := PB.frozen 3
             have s1 := SB.cell (1 + 2 * 1)
             have s2 := SB.cell (2 + 2 * 1)
             have g1 := SB.frozen (1 + 2 * 1)
             have g2 := SB.frozen (2 + 2 * 1)
             simp [IC.Seg.cells] at s1 s2 g1 g2
             clear PB SB))
        all_goals go_wp2
        all_goals go_roundw
        all_goals first
          | (case rel => exact ⟨1 + 1, _, _, _, by omega, by go_num, HS.out.next (by omega) hk HI1.out HV1.out HR1.out HM1.out hqb (by omega) (by omega) (by omega) (by omega) (by omega) (by omega)⟩)
          | skip
        all_goals simp [intOf]; omega
      · obtain ⟨q0, q2, q3⟩ : wr.cell? ⟨b, 0, none⟩ = some (.pointer (some ⟨q, 0, none⟩)) ∧ wr.cell? ⟨b, 2, none⟩ = some (.int .i64 l.x) ∧ wr.cell? ⟨b, 3, none⟩ = some (.int .i64 l.y) := ⟨Blk.cell HS.out.pr 0, Blk.cell HS.out.pr 2, Blk.cell HS.out.pr 3⟩
        have zb : b < wr.heap.size := Blk.lt HS.out.pr
        go_wp2
        go_region_with (first
          | (go_at_call 109; refine (kp.out l R' _ (by first | exact HS.out.rs.drew | exact HS.out.rs) HS.out.inn HS.out.rch).mono ?_; rintro e w1 ⟨p, rfl, hi1, hv1, hr1, hm1⟩
             have HI1 := hid'' hi1
             have HV1 := hid'' hv1
             have HR1 := hid'' hr1
             have HM1 : Hid (Mk q wr w1) := ⟨hm1.os, hm1.tape, hm1.output, hm1.size, hm1.block⟩
             clear hi1 hv1 hr1 hm1
             have PB : Blk w1 b 163 _ := Blk.mk HS.out.pr HM1.out (by omega)
             have SB := HS.out.seg.mk HM1.out (by omega)
             have l1 := PB.lt
             have l2 := SB.lt
             have p2 : w1.cell? ⟨b, 2, none⟩ = some (.int .i64 l.x) := PB.cell 2
             have p3 : w1.cell? ⟨b, 3, none⟩ = some (.int .i64 l.y) := PB.cell 3
             have f2 := PB.frozen 2
             have f3 := PB.frozen 3
             have s1 := SB.cell (1 + 2 * 2)
             have s2 := SB.cell (2 + 2 * 2)
             have g1 := SB.frozen (1 + 2 * 2)
             have g2 := SB.frozen (2 + 2 * 2)
             simp [IC.Seg.cells] at s1 s2 g1 g2
             clear PB SB))
        all_goals go_wp2
        all_goals go_roundw
        all_goals first
          | (case rel => exact ⟨2 + 1, _, _, _, by omega, by go_num, HS.out.next (by omega) hk HI1.out HV1.out HR1.out HM1.out hqb (by omega) (by omega) (by omega) (by omega) (by omega) (by omega)⟩)
          | skip
        all_goals simp [intOf]; omega
    · obtain rfl : j = k := by omega
      obtain ⟨f6, z, c6, hz⟩ := HS.out.rs.ptsCell
      have HZ := hid'' hz
      obtain ⟨z', hz'⟩ : ∃ z', IntKind.i64.wrap (z + (j : Int)) = z' := ⟨_, rfl⟩
      have HZ' := hid'' hz'
      have zb : b < wr.heap.size := Blk.lt HS.out.pr
      have zq : q < wr.heap.size := HS.out.rs.lt
      have q0 : wr.cell? ⟨b, 0, none⟩ = some (.pointer (some ⟨q, 0, none⟩)) := Blk.cell HS.out.pr 0
      have SB := HS.out.seg
      have OB := HS.out.out
      have l1 := SB.lt
      have l2 := OB.lt
      obtain ⟨g, hg⟩ : ∃ g, DP.segOf j acc = g := ⟨_, rfl⟩
      have HG : Hid (DP.segOf j acc = g) := hg
      rw [hg] at SB
      have hgk : g.k = j := by rw [← hg]; rfl
      obtain ⟨gk, ⟨ax, ay⟩, ⟨bx, b_y⟩, ⟨cx, cy⟩⟩ := g
      simp only at hgk
      subst hgk
      have s0 := SB.cell 0
      have o0 := OB.cell 0
      have fo0 := OB.frozen 0
      have s1 := SB.cell 1
      have o1 := OB.cell 1
      have fo1 := OB.frozen 1
      have s2 := SB.cell 2
      have o2 := OB.cell 2
      have fo2 := OB.frozen 2
      have s3 := SB.cell 3
      have o3 := OB.cell 3
      have fo3 := OB.frozen 3
      have s4 := SB.cell 4
      have o4 := OB.cell 4
      have fo4 := OB.frozen 4
      have s5 := SB.cell 5
      have o5 := OB.cell 5
      have fo5 := OB.frozen 5
      have s6 := SB.cell 6
      have o6 := OB.cell 6
      have fo6 := OB.frozen 6
      simp [IC.Seg.cells] at s0 o0 s1 o1 s2 o2 s3 o3 s4 o4 s5 o5 s6 o6
      have HSB := hid'' SB
      have HOB := hid'' OB
      clear SB OB hz hg
      go_wp2
      go_region
      all_goals go_wp2
      have OB2 := HOB.out.far (p := ⟨q, 6, none⟩) (by show w.heap.size ≠ q; omega) (.int .i64 z')
      have hE : RP = run (fun s => .ok ((DP.segOf j acc, l), { s with pts := s.pts + j })) R' := by
        rw [← HRP.out]
        unfold DP.seg
        have e := HS.out.eq
        rw [Nat.sub_self, dpts_zero] at e
        rw [run_then _ _ _ (acc, l) (fun v hv => by rw [e] at hv; exact (run_ret _ _).2 v hv), e, (run_ret (acc, l) R').1]
      have hrest : rest RP = addPts j R' := by rw [hE]; cases R' <;> rfl
      have hval : ∀ v, RP = .ok v → v.1 = (DP.segOf j acc, l) := fun v hv => by
        rw [hE] at hv
        cases R' with
        | error e => cases hv
        | ok s => cases hv; rfl
      rw [HG.out] at hval
      refine bodyPost_ret (v := .agg #[.int .i64 (j : Int), .int .i64 ax, .int .i64 ay, .int .i64 bx, .int .i64 b_y, .int .i64 cx, .int .i64 cy]) (by simp [results, Tryz.results121, go_sem, OB2.got 0 (by simp) (.int .i64 (j : Int)), (OB2.set (j := 0) (.int .i64 (j : Int))).got 1 (by simp) (.int .i64 ax), ((OB2.set (j := 0) (.int .i64 (j : Int))).set (j := 1) (.int .i64 ax)).got 2 (by simp) (.int .i64 ay), (((OB2.set (j := 0) (.int .i64 (j : Int))).set (j := 1) (.int .i64 ax)).set (j := 2) (.int .i64 ay)).got 3 (by simp) (.int .i64 bx), ((((OB2.set (j := 0) (.int .i64 (j : Int))).set (j := 1) (.int .i64 ax)).set (j := 2) (.int .i64 ay)).set (j := 3) (.int .i64 bx)).got 4 (by simp) (.int .i64 b_y), (((((OB2.set (j := 0) (.int .i64 (j : Int))).set (j := 1) (.int .i64 ax)).set (j := 2) (.int .i64 ay)).set (j := 3) (.int .i64 bx)).set (j := 4) (.int .i64 b_y)).got 5 (by simp) (.int .i64 cx), ((((((OB2.set (j := 0) (.int .i64 (j : Int))).set (j := 1) (.int .i64 ax)).set (j := 2) (.int .i64 ay)).set (j := 3) (.int .i64 bx)).set (j := 4) (.int .i64 b_y)).set (j := 5) (.int .i64 cx)).got 6 (by simp) (.int .i64 cy)]) rfl ⟨⟨j, ⟨ax, ay⟩, ⟨bx, b_y⟩, ⟨cx, cy⟩⟩, l, rfl, HS.out.inn, hval, ?_, ?_, ?_⟩
      · rw [hrest]
        have r := HS.out.rs.addPts j z' (fun s e => by
          have e1 := HZ.out s e
          obtain ⟨s0, n, e2, e3⟩ := HS.out.keep s e
          have e4 := H4.out s0 e2
          have e5 : s.pts = s0.pts := by rw [e3]
          refine ⟨?_, by omega⟩
          rw [← HZ'.out, e1, IntKind.wrap_i64]
          omega)
        have r0 := r.far (p := ⟨w.heap.size, 0, none⟩) (by show q < w.heap.size; omega) OB2 (by decide) (by decide) (.int .i64 (j : Int))
        have r1 := r0.far (p := ⟨w.heap.size, 1, none⟩) (by show q < w.heap.size; omega) (OB2.set (j := 0) (.int .i64 (j : Int))) (by decide) (by decide) (.int .i64 ax)
        have r2 := r1.far (p := ⟨w.heap.size, 2, none⟩) (by show q < w.heap.size; omega) ((OB2.set (j := 0) (.int .i64 (j : Int))).set (j := 1) (.int .i64 ax)) (by decide) (by decide) (.int .i64 ay)
        have r3 := r2.far (p := ⟨w.heap.size, 3, none⟩) (by show q < w.heap.size; omega) (((OB2.set (j := 0) (.int .i64 (j : Int))).set (j := 1) (.int .i64 ax)).set (j := 2) (.int .i64 ay)) (by decide) (by decide) (.int .i64 bx)
        have r4 := r3.far (p := ⟨w.heap.size, 4, none⟩) (by show q < w.heap.size; omega) ((((OB2.set (j := 0) (.int .i64 (j : Int))).set (j := 1) (.int .i64 ax)).set (j := 2) (.int .i64 ay)).set (j := 3) (.int .i64 bx)) (by decide) (by decide) (.int .i64 b_y)
        have r5 := r4.far (p := ⟨w.heap.size, 5, none⟩) (by show q < w.heap.size; omega) (((((OB2.set (j := 0) (.int .i64 (j : Int))).set (j := 1) (.int .i64 ax)).set (j := 2) (.int .i64 ay)).set (j := 3) (.int .i64 bx)).set (j := 4) (.int .i64 b_y)) (by decide) (by decide) (.int .i64 cx)
        have r6 := r5.far (p := ⟨w.heap.size, 6, none⟩) (by show q < w.heap.size; omega) ((((((OB2.set (j := 0) (.int .i64 (j : Int))).set (j := 1) (.int .i64 ax)).set (j := 2) (.int .i64 ay)).set (j := 3) (.int .i64 bx)).set (j := 4) (.int .i64 b_y)).set (j := 5) (.int .i64 cx)) (by decide) (by decide) (.int .i64 cy)
        exact r6.drew
      · exact Blk.drew (Blk.far (p := ⟨w.heap.size, 6, none⟩) (Blk.far (p := ⟨w.heap.size, 5, none⟩) (Blk.far (p := ⟨w.heap.size, 4, none⟩) (Blk.far (p := ⟨w.heap.size, 3, none⟩) (Blk.far (p := ⟨w.heap.size, 2, none⟩) (Blk.far (p := ⟨w.heap.size, 1, none⟩) (Blk.far (p := ⟨w.heap.size, 0, none⟩) (Blk.far (p := ⟨q, 6, none⟩) HS.out.pr (by show b ≠ q; omega) (.int .i64 z')) (by show b ≠ w.heap.size; omega) _) (by show b ≠ w.heap.size; omega) _) (by show b ≠ w.heap.size; omega) _) (by show b ≠ w.heap.size; omega) _) (by show b ≠ w.heap.size; omega) _) (by show b ≠ w.heap.size; omega) _) (by show b ≠ w.heap.size; omega) _)
      · exact ((((((((HS.out.kept.set (p := ⟨q, 6, none⟩) (by simp) (.int .i64 z')).set (p := ⟨w.heap.size, 0, none⟩) (.inl (Nat.le_refl _)) _).set (p := ⟨w.heap.size, 1, none⟩) (.inl (Nat.le_refl _)) _).set (p := ⟨w.heap.size, 2, none⟩) (.inl (Nat.le_refl _)) _).set (p := ⟨w.heap.size, 3, none⟩) (.inl (Nat.le_refl _)) _).set (p := ⟨w.heap.size, 4, none⟩) (.inl (Nat.le_refl _)) _).set (p := ⟨w.heap.size, 5, none⟩) (.inl (Nat.le_refl _)) _).set (p := ⟨w.heap.size, 6, none⟩) (.inl (Nat.le_refl _)) _).drew

end Go.Proofs.YtcnlkdoifogkbaaGreatDoor

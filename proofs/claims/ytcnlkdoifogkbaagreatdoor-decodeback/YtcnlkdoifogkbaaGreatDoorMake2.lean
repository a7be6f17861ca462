/-
  A path that is made of a few numbers: walked over the program.
-/
import Derived.Test.YtcnlkdoifogkbaaGreatDoorMake1
import Derived.Test.YtcnlkdoifogkbaaGreatDoorIconPaint2
namespace Go.Proofs.YtcnlkdoifogkbaaGreatDoor
open Go.RowKit

def PtIn (far : Int) (p : IC.Pt) : Prop := (-far ≤ p.x ∧ p.x ≤ far) ∧ (-far ≤ p.y ∧ p.y ≤ far)
def PtNo (p : IC.Pt) : Prop := p.x = 0 ∧ p.y = 0

/-- The points of a segment so far: those ahead of a place are within bounds, the others nothing. -/
def PtsAt (far : Int) (j : Nat) (s : IC.Seg) : Prop := (if 0 < j then PtIn far s.a else PtNo s.a) ∧ (if 1 < j then PtIn far s.b else PtNo s.b) ∧ (if 2 < j then PtIn far s.c else PtNo s.c)

def SegGood (far : Int) (s : IC.Seg) : Prop := ∃ j : Nat, s.k = (j : Int) ∧ 1 ≤ j ∧ j ≤ 3 ∧ PtsAt far j s

theorem reach_of {far F : Int} {p : IC.Pt} (h : PtIn far p) (hF : far ≤ F) : IC.reach F p = true := by
  unfold PtIn at h
  unfold IC.reach IC.within
  simp
  omega
theorem zero_of {p : IC.Pt} (h : PtNo p) : IC.zero p = true := by
  unfold PtNo at h
  unfold IC.zero
  simp [h.1, h.2]

theorem SegGood.chk {far F : Int} {s : IC.Seg} (h : SegGood far s) (hF : far ≤ F) : IC.chkSeg F s = 0 := by
  obtain ⟨j, hk, h1, h3, ha, hb, hc⟩ := h
  have : j = 1 ∨ j = 2 ∨ j = 3 := by omega
  unfold IC.chkSeg IC.Seg.pts
  rw [hk]
  rcases this with rfl | rfl | rfl
  · simp at ha hb hc
    have e1 := reach_of ha hF
    have e2 := zero_of hb
    have e3 := zero_of hc
    simp [IC.within, e1, e2, e3]
  · simp at ha hb hc
    have e1 := reach_of ha hF
    have e2 := reach_of hb hF
    have e3 := zero_of hc
    simp [IC.within, e1, e2, e3]
  · simp at ha hb hc
    have e1 := reach_of ha hF
    have e2 := reach_of hb hF
    have e3 := reach_of hc hF
    simp [IC.within, e1, e2, e3]

theorem cells_seven {w : World} {b : Nat} {a0 a1 a2 a3 a4 a5 a6 : Value} {t : TypeId} (h : Blk w b t #[a0, a1, a2, a3, a4, a5, a6]) : (w.cell? ⟨b, 0, none⟩ = some a0 ∧ w.cell? ⟨b, 1, none⟩ = some a1 ∧ w.cell? ⟨b, 2, none⟩ = some a2 ∧ w.cell? ⟨b, 3, none⟩ = some a3 ∧ w.cell? ⟨b, 4, none⟩ = some a4 ∧ w.cell? ⟨b, 5, none⟩ = some a5 ∧ w.cell? ⟨b, 6, none⟩ = some a6) ∧ ∀ j, w.frozen? ⟨b, j, none⟩ = false :=
  ⟨⟨h.cell 0, h.cell 1, h.cell 2, h.cell 3, h.cell 4, h.cell 5, h.cell 6⟩, h.frozen⟩

/-- What stands while a path is made: the numbers, its box, its segments. -/
structure PathSt (q m R P : Nat) (w : World) (x y : Int) (cl : Bool) (ad : Option Addr) (cap : Nat) (l : List IC.Seg) (w' : World) : Prop where
  seq : SeqOk w' q m
  res : Blk w' R 72 #[.int .i64 0, .int .i64 0, .slice none 0 0, .bool false]
  box : Blk w' P 72 #[.int .i64 x, .int .i64 y, .slice ad l.length cap, .bool cl]
  own : Own w' (P + 1) 103 7 IC.Seg.cells ad cap l
  made : Mk q w w'
  lt : q < R ∧ R < P ∧ w.heap.size ≤ R

theorem PathSt.next {q m m' R P : Nat} {w w' w'' : World} {x y : Int} {cl : Bool} {ad : Option Addr} {cap : Nat} {l : List IC.Seg} (h : PathSt q m R P w x y cl ad cap l w') (hm : Mk q w' w'') (hs : SeqOk w'' q m') : PathSt q m' R P w x y cl ad cap l w'' :=
  ⟨hs, h.res.mk hm (by have := h.lt; omega), h.box.mk hm (by have := h.lt; omega), h.own.mk hm (by have := h.lt; omega), h.made.trans hm, h.lt⟩

theorem PathSt.alloc {q m R P : Nat} {w w' : World} {x y : Int} {cl : Bool} {ad : Option Addr} {cap : Nat} {l : List IC.Seg} (h : PathSt q m R P w x y cl ad cap l w') (o : Obj) : PathSt q m R P w x y cl ad cap l (w'.alloc o) :=
  h.next (Mk.below ((Below.refl _ _).alloc (Nat.le_refl _) _)) (h.seq.alloc o)

theorem Mk.grown {q : Nat} {w a b : World} {ad : Option Addr} (h : Mk q w a) (hg : a.grownBy b (ad.map (·.block))) (hr : ∀ x, ad = some x → w.heap.size ≤ x.block) : Mk q w b := by
  refine ⟨hg.os.trans h.os, hg.tape.trans h.tape, hg.output.trans h.output, Nat.le_trans h.size hg.size, fun k hk hn => ?_⟩
  rw [← h.block k hk hn]
  exact (grown_cell (j := 0) hg (Nat.lt_of_lt_of_le hk h.size) (fun x e => by have := hr x e; omega)).2.2

theorem SeqOk.grown {q m : Nat} {a b : World} {ad : Option Addr} (h : SeqOk a q m) (hg : a.grownBy b (ad.map (·.block))) (hr : ∀ x, ad = some x → q < x.block) : SeqOk b q m :=
  h.keep (below_grown (Below.refl _ _) hg h.lt (fun x e => hr x e))

theorem PathSt.push {q m R P : Nat} {w w' w'' : World} {x y : Int} {cl : Bool} {ad ad' : Option Addr} {cap cap' : Nat} {l : List IC.Seg} {s : IC.Seg} {o : Obj} (h : PathSt q m R P w x y cl ad cap l w') (hg : (w'.alloc o).grownBy w'' (ad.map (·.block))) (ho : Own w'' (P + 1) 103 7 IC.Seg.cells ad' cap' (l ++ [s])) :
    PathSt q m R P w x y cl ad' cap' (l ++ [s]) (w''.setCell ⟨P, 2, none⟩ (.slice ad' (l.length + 1) cap')) := by
  have hne : ∀ z, ad = some z → P + 1 ≤ z.block := fun z e => (h.own.lt z e).1
  have hl := h.lt
  refine ⟨((h.seq.alloc o).grown hg (fun z e => by have := hne z e; omega)).set (by show q < P; omega) _, ((h.res.alloc o).grown hg (fun z e => by have := hne z e; omega)).far (by show R ≠ P; omega) _, ?_, ho.setLow (by show P < P + 1; omega) _, ((h.made.alloc o).grown hg (fun z e => by have := hne z e; omega)).set (by show w.heap.size ≤ P; omega) _, hl⟩
  have hb := ((h.box.alloc o).grown hg (fun z e => by have := hne z e; omega)).set (j := 2) (.slice ad' (l.length + 1) cap')
  have e : (l ++ [s]).length = l.length + 1 := by simp
  rw [e]
  exact hb

theorem pts_zero (far : Int) (k : Int) : PtsAt far 0 ⟨k, ⟨0, 0⟩, ⟨0, 0⟩, ⟨0, 0⟩⟩ := ⟨⟨rfl, rfl⟩, ⟨rfl, rfl⟩, ⟨rfl, rfl⟩⟩
theorem pts_one {far k : Int} {a b c p : IC.Pt} (h : PtsAt far 0 ⟨k, a, b, c⟩) (hp : PtIn far p) : PtsAt far 1 ⟨k, p, b, c⟩ := ⟨by simpa using hp, by simpa using h.2.1, by simpa using h.2.2⟩
theorem pts_two {far k : Int} {a b c p : IC.Pt} (h : PtsAt far 1 ⟨k, a, b, c⟩) (hp : PtIn far p) : PtsAt far 2 ⟨k, a, p, c⟩ := ⟨by simpa using h.1, by simpa using hp, by simpa using h.2.2⟩
theorem pts_three {far k : Int} {a b c p : IC.Pt} (h : PtsAt far 2 ⟨k, a, b, c⟩) (hp : PtIn far p) : PtsAt far 3 ⟨k, a, b, p⟩ := ⟨by simpa using h.1, by simpa using h.2.1, by simpa using hp⟩

set_option maxRecDepth 20000 in
set_option maxHeartbeats 2000000 in
theorem mkpath_any (q m : Nat) (far : Int) (cl : Bool) (w : World) (hs : SeqOk w q m) (hm : m ≤ 100000) (hf : 0 ≤ far ∧ far ≤ 1000000000) :
    Calls Tryz.prog 26 #[.pointer (some ⟨q, 0, none⟩), .int .i64 far, .bool cl] w fun e w' => (∃ p : IC.Path, e = .returned (.agg p.cells.toArray) ∧ p.cl = cl ∧ PtIn far p.st ∧ 1 ≤ p.segs.length ∧ p.segs.length ≤ 4 ∧ (∀ s ∈ p.segs, SegGood far s) ∧ PathOk w' p) ∧ SeqOk w' q (m + 50) ∧ Mk q w w' := by
  have HS : Hid (SeqOk w q m) := hs
  have hq := hs.lt
  have ki : Hid (∀ W k, k ≤ m + 50 → SeqOk W q k → Calls Tryz.prog 42 #[.pointer (some ⟨q, 0, none⟩), .int .i64 far] W fun e w' => (∃ x y : Int, e = .returned (.agg #[.int .i64 x, .int .i64 y]) ∧ (-far ≤ x ∧ x ≤ far) ∧ (-far ≤ y ∧ y ≤ far)) ∧ SeqOk w' q (k + 3) ∧ Mk q W w') := fun W k hk h => inside_any q k far W h (by omega) hf
  have kn : Hid (∀ W k (b : Int), k ≤ m + 50 → 1 ≤ b ∧ b ≤ 100 → SeqOk W q k → Calls Tryz.prog 20 #[.pointer (some ⟨q, 0, none⟩), .int .i64 b] W fun e w' => (∃ r : Int, e = .returned (.int .i64 r) ∧ 0 ≤ r ∧ r < b) ∧ SeqOk w' q (k + 1) ∧ Mk q W w') := fun W k b hk hb h => next_any q k b W h (by omega) (by omega)
  have HF : Hid (0 ≤ far ∧ far ≤ 1000000000) := hf
  clear hs hf
  go_enter Tryz.func26, Tryz.ntmps26
  go_wp2_with (first
    | (go_at_call 42; refine (ki.out _ m (by omega) (HS.out.alloc _)).mono ?_; rintro e w1 ⟨⟨sx, sy, rfl, hx, hy⟩, hs1, hm1⟩
       have H1 : Hid (SeqOk w1 q (m + 3)) := hs1
       have H2 : Hid (Mk q w w1) := ((Mk.refl q w).alloc _).trans hm1
       have H3 : Hid (Blk w1 w.heap.size 72 #[.int .i64 0, .int .i64 0, .slice none 0 0, .bool false]) := (blk_new w 72 #[.int .i64 0, .int .i64 0, .slice none 0 0, .bool false]).mk hm1 (by omega)
       have H4 : Hid (PtIn far ⟨sx, sy⟩) := ⟨hx, hy⟩
       clear hs1 hm1 hx hy)
    | (go_at_call 20; refine (kn.out _ (m + 3) 4 (by omega) (by omega) (H1.out.alloc _)).mono ?_; rintro e w2 ⟨⟨r, rfl, r0, r1⟩, hs2, hm2⟩
       have H5 : Hid (PathSt q (m + 4) w.heap.size w1.heap.size w sx sy cl none 0 [] w2) := ⟨hs2, (H3.out.alloc _).mk hm2 (by omega), (blk_new w1 72 #[.int .i64 sx, .int .i64 sy, .slice none 0 0, .bool cl]).mk hm2 (by have := H1.out.lt; omega), own_nil _ _ _ _ _, (H2.out.alloc _).trans hm2, hq, H3.out.lt, Nat.le_refl _⟩
       clear hs2 hm2))
  obtain ⟨N, hN⟩ : ∃ N : Nat, r = (N : Int) := ⟨r.toNat, by omega⟩
  subst hN
  have hN4 : N < 4 := by omega
  obtain ⟨P, hP⟩ : ∃ P, w1.heap.size = P := ⟨_, rfl⟩
  rw [hP] at H5 ⊢
  clear H1 H2 H3 hP r0 r1
  go_loopw [8] (fun i wr => ∃ (k cap : Nat) (ad : Option Addr) (l : List IC.Seg), i = .int .i64 k ∧ k + l.length = N + 1 ∧ Hid (∀ s ∈ l, SegGood far s) ∧ Hid (PathSt q (m + 4 + 10 * l.length) w.heap.size P w sx sy cl ad cap l wr)) (fun i _ => (intOf i).toNat)
  case atStart => exact ⟨N + 1, 0, none, [], by go_num, by simp, (fun _ h => absurd h (by simp)), H5⟩
  case round =>
    clear H5
    obtain ⟨k, cap, ad, l, rfl, hkl, HG, HT⟩ := hrel
    rename World => wa
    have hlt := HT.out.lt
    have hPz := HT.out.box.lt
    obtain ⟨⟨d0, d1, d2, d3⟩, f0, f1, f2, f3⟩ := cells_four HT.out.box
    obtain ⟨⟨r0, r1, r2, r3⟩, g0, g1, g2, g3⟩ := cells_four HT.out.res
    by_cases hk0 : 0 < k
    · have hki : (0 : Int) < (k : Int) := by omega
      clear d0 d1 d2 d3 f0 f1 f2 f3 r0 r1 r2 r3 g0 g1 g2 g3
      go_wp2_with (first
        | (go_at_call 20; refine (kn.out _ (m + 4 + 10 * l.length) 3 (by omega) (by omega) HT.out.seq).mono ?_; rintro e wb ⟨⟨r, rfl, r0, r1⟩, hs2, hm2⟩
           have HT2 : Hid (PathSt q (m + 4 + 10 * l.length + 1) w.heap.size P w sx sy cl ad cap l wb) := HT.out.next hm2 hs2
           clear hs2 hm2))
      obtain ⟨K, hK⟩ : ∃ K : Nat, 1 + r = (K : Int) := ⟨(1 + r).toNat, by omega⟩
      have hK1 : 1 ≤ K ∧ K ≤ 3 := by omega
      rw [hK]
      clear hK r0 r1
      obtain ⟨X, hX⟩ : ∃ X, wb.heap.size = X := ⟨_, rfl⟩
      have HZ : Hid (wb.heap.size = X) := hX
      rw [hX]
      clear hX
      go_loopw [10] (fun i wr => ∃ (j : Nat) (ax ay bx b_y cx cy : Int), i = .int .i64 j ∧ j ≤ K ∧ Hid (PtsAt far j ⟨K, ⟨ax, ay⟩, ⟨bx, b_y⟩, ⟨cx, cy⟩⟩) ∧ Hid (Blk wr X 103 #[.int .i64 K, .int .i64 ax, .int .i64 ay, .int .i64 bx, .int .i64 b_y, .int .i64 cx, .int .i64 cy]) ∧ Hid (SeqOk wr q (m + 5 + 10 * l.length + 3 * j)) ∧ Hid (Mk q wb wr)) (fun i _ => K - (intOf i).toNat)
      case atStart => exact ⟨0, 0, 0, 0, 0, 0, 0, rfl, by omega, pts_zero _ _, (by have h := blk_new wb 103 #[.int .i64 K, .int .i64 0, .int .i64 0, .int .i64 0, .int .i64 0, .int .i64 0, .int .i64 0]; rw [HZ.out] at h; exact h), SeqOk.mono (HT2.out.seq.alloc _) (by omega), (Mk.refl _ _).alloc _⟩
      case round =>
        obtain ⟨j, ax, ay, bx, b_y, cx, cy, rfl, hj, HPT, HX, HQ, HM⟩ := hrel
        obtain ⟨⟨c0, c1, c2, c3, c4, c5, c6⟩, fz⟩ := cells_seven HX.out
        have hXz := HX.out.lt
        have hqX : q < X := by rw [← HZ.out]; exact HT2.out.seq.lt
        by_cases hjK : j < K
        · have hji : (j : Int) < (K : Int) := by omega
          have hj3 : j = 0 ∨ j = 1 ∨ j = 2 := by omega
          rcases hj3 with rfl | rfl | rfl
          · go_wp2_with (first
              | (go_at_call 42; refine (ki.out _ _ (by omega) HQ.out).mono ?_; rintro e wc ⟨⟨x, y, rfl, hx, hy⟩, hs3, hm3⟩
                 have HX3 : Hid (Blk wc X 103 #[.int .i64 K, .int .i64 ax, .int .i64 ay, .int .i64 bx, .int .i64 b_y, .int .i64 cx, .int .i64 cy]) := HX.out.mk hm3 (by omega)
                 obtain ⟨⟨e0, e1, e2, e3, e4, e5, e6⟩, fe⟩ := cells_seven HX3.out
                 have H1 : Hid (SeqOk wc q (m + 5 + 10 * l.length + 3 * (0 + 1))) := hs3
                 have H2 : Hid (Mk q wb wc) := HM.out.trans hm3
                 have H3 : Hid (PtIn far ⟨x, y⟩) := ⟨hx, hy⟩
                 clear hs3 hm3 hx hy))
            go_roundw
            case rel => exact ⟨0 + 1, x, y, bx, b_y, cx, cy, by go_num, by omega, pts_one HPT.out H3.out, (HX3.out.set (j := 1) _).set (j := 2) _, (H1.out.set hqX _).set hqX _, (H2.out.set (by show _ ≤ X; rw [HZ.out]; omega) _).set (by show _ ≤ X; rw [HZ.out]; omega) _⟩
            case measure => simp [intOf]; omega
          · go_wp2_with (first
              | (go_at_call 42; refine (ki.out _ _ (by omega) HQ.out).mono ?_; rintro e wc ⟨⟨x, y, rfl, hx, hy⟩, hs3, hm3⟩
                 have HX3 : Hid (Blk wc X 103 #[.int .i64 K, .int .i64 ax, .int .i64 ay, .int .i64 bx, .int .i64 b_y, .int .i64 cx, .int .i64 cy]) := HX.out.mk hm3 (by omega)
                 obtain ⟨⟨e0, e1, e2, e3, e4, e5, e6⟩, fe⟩ := cells_seven HX3.out
                 have H1 : Hid (SeqOk wc q (m + 5 + 10 * l.length + 3 * (1 + 1))) := hs3
                 have H2 : Hid (Mk q wb wc) := HM.out.trans hm3
                 have H3 : Hid (PtIn far ⟨x, y⟩) := ⟨hx, hy⟩
                 clear hs3 hm3 hx hy))
            go_roundw
            case rel => exact ⟨1 + 1, ax, ay, x, y, cx, cy, by go_num, by omega, pts_two HPT.out H3.out, (HX3.out.set (j := 3) _).set (j := 4) _, (H1.out.set hqX _).set hqX _, (H2.out.set (by show _ ≤ X; rw [HZ.out]; omega) _).set (by show _ ≤ X; rw [HZ.out]; omega) _⟩
            case measure => simp [intOf]; omega
          · go_wp2_with (first
              | (go_at_call 42; refine (ki.out _ _ (by omega) HQ.out).mono ?_; rintro e wc ⟨⟨x, y, rfl, hx, hy⟩, hs3, hm3⟩
                 have HX3 : Hid (Blk wc X 103 #[.int .i64 K, .int .i64 ax, .int .i64 ay, .int .i64 bx, .int .i64 b_y, .int .i64 cx, .int .i64 cy]) := HX.out.mk hm3 (by omega)
                 obtain ⟨⟨e0, e1, e2, e3, e4, e5, e6⟩, fe⟩ := cells_seven HX3.out
                 have H1 : Hid (SeqOk wc q (m + 5 + 10 * l.length + 3 * (2 + 1))) := hs3
                 have H2 : Hid (Mk q wb wc) := HM.out.trans hm3
                 have H3 : Hid (PtIn far ⟨x, y⟩) := ⟨hx, hy⟩
                 clear hs3 hm3 hx hy))
            go_roundw
            case rel => exact ⟨2 + 1, ax, ay, bx, b_y, x, y, by go_num, by omega, pts_three HPT.out H3.out, (HX3.out.set (j := 5) _).set (j := 6) _, (H1.out.set hqX _).set hqX _, (H2.out.set (by show _ ≤ X; rw [HZ.out]; omega) _).set (by show _ ≤ X; rw [HZ.out]; omega) _⟩
            case measure => simp [intOf]; omega
        · obtain rfl : j = K := by omega
          have HT3 : Hid (PathSt q (m + 4 + 10 * (l.length + 1)) w.heap.size P w sx sy cl ad cap l wr) := HT2.out.next HM.out (HQ.out.mono (by omega))
          obtain ⟨⟨d0, d1, d2, d3⟩, f0, f1, f2, f3⟩ := cells_four HT3.out.box
          have zP : P < wr.heap.size := HT3.out.box.lt
          have hl4 : l.length ≤ 4 := by omega
          go_wp2_with (first
            | (at_builtin; refine wpList_push _ rfl (.tmp 40) (.tmp 42) 70 rfl (P + 1) 103 _ 7 56 Tryz.underlying70 infoSeg rfl (by decide) IC.Seg.cells seg_len l ⟨j, ⟨ax, ay⟩, ⟨bx, b_y⟩, ⟨cx, cy⟩⟩ l.length rfl rfl (HT3.out.own.alloc _) wr.heap.size rfl (new_cells _ _ _) (seg_one _) (by omega) (by omega) (by simp; omega) ?_; intro ad' cap' w' hown' hg'
               have HT4 : Hid (PathSt q (m + 4 + 10 * (l.length + 1)) w.heap.size P w sx sy cl ad' cap' (l ++ [⟨j, ⟨ax, ay⟩, ⟨bx, b_y⟩, ⟨cx, cy⟩⟩]) (w'.setCell ⟨P, 2, none⟩ (.slice ad' (l.length + 1) cap'))) := HT3.out.push hg' hown'
               have hbx : Blk w' P 72 #[.int .i64 sx, .int .i64 sy, .slice ad l.length cap, .bool cl] := (HT3.out.box.alloc _).grown hg' (fun z e => by have := (HT3.out.own.lt z e).1; omega)
               obtain ⟨⟨t0, t1, t2, t3⟩, u0, u1, u2, u3⟩ := cells_four hbx
               clear hown' hg' hbx))
          go_roundw
          case rel =>
            have e1 : (k : Int) - 1 = ((k - 1 : Nat) : Int) := by omega
            have e2 : (l ++ [(⟨j, ⟨ax, ay⟩, ⟨bx, b_y⟩, ⟨cx, cy⟩⟩ : IC.Seg)]).length = l.length + 1 := by simp
            refine ⟨k - 1, cap', ad', l ++ [⟨j, ⟨ax, ay⟩, ⟨bx, b_y⟩, ⟨cx, cy⟩⟩], by rw [e1], by rw [e2]; omega, fun s hs => ?_, by rw [e2]; exact HT4.out⟩
            rcases List.mem_append.1 hs with h | h
            · exact HG.out s h
            · obtain rfl : s = _ := List.mem_singleton.1 h
              exact ⟨j, rfl, hK1.1, hK1.2, HPT.out⟩
          case measure => simp [intOf]; omega
    · obtain rfl : k = 0 := by omega
      have hRz := HT.out.res.lt
      have HL : Hid (l.length = N + 1) := by show _ = _; omega
      go_wp2
      refine bodyPost_ret (v := .agg #[.int .i64 sx, .int .i64 sy, .slice ad l.length cap, .bool cl]) (by simp [results, Tryz.results26, go_sem, r0, r1, r2, r3]) rfl ⟨⟨⟨⟨sx, sy⟩, .slice ad l.length cap, l, cl⟩, rfl, rfl, H4.out, by show 1 ≤ l.length; have := HL.out; omega, by show l.length ≤ 4; have := HL.out; omega, HG.out, ?_⟩, ?_, ?_⟩
      · exact ((((HT.out.own.setLow (by show w.heap.size < P + 1; omega) _).setLow (by show w.heap.size < P + 1; omega) _).setLow (by show w.heap.size < P + 1; omega) _).setLow (by show w.heap.size < P + 1; omega) _).many
      · exact ((((HT.out.seq.set hq _).set hq _).set hq _).set hq _).mono (by have := HL.out; omega)
      · exact (((HT.out.made.set (Nat.le_refl _) _).set (Nat.le_refl _) _).set (Nat.le_refl _) _).set (Nat.le_refl _) _

end Go.Proofs.YtcnlkdoifogkbaaGreatDoor

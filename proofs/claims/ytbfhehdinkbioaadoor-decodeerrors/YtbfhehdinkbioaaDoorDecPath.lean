/-
  A reader reads a path: walked over the program.
-/
import Derived.Test.YtbfhehdinkbioaaDoorDecRun2
import Derived.Test.YtbfhehdinkbioaaDoorDecBack2
namespace Go.Proofs.YtbfhehdinkbioaaDoor
open Go.RowKit

def clOf : Except DP.Bad DP.St → Bool
  | .ok s => s.cl
  | .error _ => false

theorem Row.mkq {w w' : World} {q : Nat} {a : Array Value} {t : TypeId} {size n : Nat} {v : Value} {xs : List Value} (h : Row w t size v n xs) (hq : Blk w q 69 a) (hm : Mk q w w') (ht : t ≠ 69) : Row w' t size v n xs := by
  refine ⟨h.1, ?_⟩
  rcases h.2 with h | ⟨g, o, cap, h1, h2, h3, h4, ⟨cur, h5⟩, h6⟩
  · exact .inl h
  · have hgq : g ≠ q := fun e => by unfold Blk at hq; rw [← e, h5] at hq; cases hq; exact ht rfl
    have e : w'.heap[g]? = w.heap[g]? := hm.block g h4 (fun e => hgq (by cases e; rfl))
    exact .inr ⟨g, o, cap, h1, h2, h3, Nat.lt_of_lt_of_le h4 hm.size, ⟨cur, e.trans h5⟩, fun j u hj => (World.cell?_of_block (a := ⟨g, o + j, none⟩) e).trans (h6 j u hj)⟩

theorem Rs.blk {x : Src} {q : Nat} {w : World} {R : Except DP.Bad DP.St} (h : Rs x q w R) : ∃ a, Blk w q 69 a := by
  cases R with
  | ok s => exact ⟨_, (show Rd x q w s from h).blk⟩
  | error e => obtain ⟨_, ⟨_, _, _, _, _, _, _, _, _, _, _, _, h, _⟩, _⟩ := h; exact ⟨_, h⟩

theorem PathOk.mkq {w w' : World} {x : Src} {q : Nat} {R : Except DP.Bad DP.St} {p : IC.Path} (h : PathOk w p) (hq : Rs x q w R) (hm : Mk q w w') : PathOk w' p := by
  obtain ⟨a, hq⟩ := hq.blk
  exact Row.mkq h hq hm (by decide)
theorem CmdOk.mkq {w w' : World} {x : Src} {q : Nat} {R : Except DP.Bad DP.St} {c : IC.Cmd} (h : CmdOk w c) (hq : Rs x q w R) (hm : Mk q w w') : CmdOk w' c := by
  obtain ⟨a, hb⟩ := hq.blk
  exact ⟨Row.mkq h.1 hb hm (by decide), fun p hp => (h.2 p hp).mkq hq hm⟩

/-- A list stays, where a store goes elsewhere. -/
theorem Row.farT {w : World} {t t' : TypeId} {size n : Nat} {v : Value} {xs : List Value} {a : Array Value} (h : Row w t size v n xs) {p : Addr} (hb : Blk w p.block t' a) (ht : t ≠ t') (u : Value) : Row (w.setCell p u) t size v n xs := by
  refine ⟨h.1, ?_⟩
  rcases h.2 with h | ⟨g, o, cap, h1, h2, h3, h4, ⟨cur, h5⟩, h6⟩
  · exact .inl h
  · have hgp : g ≠ p.block := fun e => by unfold Blk at hb; rw [← e, h5] at hb; cases hb; exact ht rfl
    have e : (w.setCell p u).heap[g]? = w.heap[g]? := Below.heap_setCell _ _ _ _ hgp
    exact .inr ⟨g, o, cap, h1, h2, h3, by simpa using h4, ⟨cur, e.trans h5⟩, fun j x hj => (World.cell?_of_block (a := ⟨g, o + j, none⟩) e).trans (h6 j x hj)⟩

theorem Blk.lo {w w' : World} {g q b : Nat} {t : TypeId} {a : Array Value} (h : Blk w g t a) (hl : Lo q b w w') (h1 : g < b) (h2 : g ≠ q) : Blk w' g t a := (hl.block g h1 h2).trans h

/-- What stands between two runs of a path. -/
structure PathSt2 (x : Src) (q b B0 B1 z : Nat) (W : World) (p : IC.Pt) (R3 : Except DP.Bad DP.St) (j : Nat) (kd : Nat) (acc : List IC.Seg) (l : IC.Pt) (R' : Except DP.Bad DP.St) (ad : Option Addr) (cap : Nat) (wr : World) : Prop where
  st : RunSt x q b kd acc l R' ad cap wr
  lo : Lo q b W wr
  eq : run (DP.runs x.bs (z / 2) 0 [] p) R3 = run (DP.runs x.bs (z / 2 - j) kd acc l) R'
  good : 0 < j → ∃ s, R' = .ok s
  keep : ∀ s', R' = .ok s' → ∃ s, R3 = .ok s ∧ s'.far = s.far ∧ s'.cols = s.cols ∧ s'.used = s.used ∧ s'.cl = s.cl ∧ (0 < j → s'.pts ≤ 4000)

theorem runs_zero (bs : List Nat) (kd : Nat) (acc : List IC.Seg) (l : IC.Pt) : DP.runs bs 0 kd acc l = DP.ret acc := rfl

theorem run_addPts (bs : List Nat) (n : Nat) (p : IC.Pt) (c : Bool) (R2 : Except DP.Bad DP.St) : run (fun s1 => DP.andThen (DP.runs bs n 0 [] p) (fun l => DP.ret (⟨p, DP.nov, l, c⟩ : IC.Path)) { s1 with pts := s1.pts + 1 }) R2 = run (DP.andThen (DP.runs bs n 0 [] p) (fun l => DP.ret (⟨p, DP.nov, l, c⟩ : IC.Path))) (addPts 1 R2) := by
  cases R2 <;> rfl

set_option maxRecDepth 20000 in
set_option maxHeartbeats 2000000 in
theorem dpath_any (x : Src) (q : Nat) (R : Except DP.Bad DP.St) (w : World) (h : Rs x q w R) (h4 : ∀ s, R = .ok s → s.pts ≤ 4000) :
    Calls Tryd.prog 83 #[.pointer (some ⟨q, 0, none⟩)] w fun e w' => ∃ P : IC.Path, e = .returned (.agg P.cells.toArray) ∧ PathOk w' P ∧ (∀ v, run (DP.path x.bs) R = .ok v → v.1 = { P with vs := DP.nov }) ∧ Rs x q w' (rest (run (DP.path x.bs) R)) ∧ Mk q w w' ∧ (∀ s', rest (run (DP.path x.bs) R) = .ok s' → ∃ s, R = .ok s ∧ s'.far = s.far ∧ s'.cols = s.cols ∧ s'.used = s.used ∧ s'.cl = s.cl ∧ s'.pts ≤ 4000) := by
  have hb := h.base.lt256
  have hq := h.lt
  obtain ⟨N, hN⟩ : ∃ N, run (DP.num x.bs (DP.pathRule (clOf R))) R = N := ⟨_, rfl⟩
  obtain ⟨z, hz⟩ : ∃ z, valOf N = z := ⟨_, rfl⟩
  obtain ⟨R1, hR1⟩ : ∃ R1, rest N = R1 := ⟨_, rfl⟩
  obtain ⟨RQ, hRQ⟩ : ∃ RQ, run (DP.point x.bs ⟨0, 0⟩) R1 = RQ := ⟨_, rfl⟩
  obtain ⟨R2, hR2⟩ : ∃ R2, rest RQ = R2 := ⟨_, rfl⟩
  have kn : Hid (∀ W, Below w.heap.size w W → Calls Tryd.prog 46 #[.pointer (some ⟨q, 0, none⟩), .func (.func 102) #[.pointer (some ⟨q, 0, none⟩)] #[]] W fun e w' => e = .returned (.int .u64 z) ∧ Rs x q w' R1 ∧ Mk q W w') := fun W hW => by
    have := rnum_any x q R (DP.pathRule (clOf R)) 102 #[.pointer (some ⟨q, 0, none⟩)] #[] W (h.below hW) (fun s e => by subst e; exact rule_path x q s W (Rs.below h hW)) (h13' _)
    rw [hN, hz, hR1] at this
    exact this
  have kp : Hid (∀ W, Rs x q W R1 → Calls Tryd.prog 100 #[.pointer (some ⟨q, 0, none⟩), .agg #[.int .i64 0, .int .i64 0]] W fun e w' => ∃ p : IC.Pt, e = .returned (.agg #[.int .i64 p.x, .int .i64 p.y]) ∧ PtIn64 p ∧ (∀ v, RQ = .ok v → v.1 = p) ∧ Rs x q w' R2 ∧ Mk q W w') := fun W hW => by
    have := dpoint_any x q R1 ⟨0, 0⟩ W hW zero_in (fun s e => zero_reach s.far (hW.farIn s e).1)
    rw [hRQ, hR2] at this
    exact this
  have hzf : z < 18446744073709551616 ∧ ((∃ e, R1 = .error e ∧ z = 0) ∨ (1 ≤ z / 2 ∧ ∃ s k, R = .ok s ∧ R1 = .ok { s with at' := s.at' + k })) := by
    cases N with
    | error e => cases hz; cases hR1; exact ⟨by show 0 < _; omega, .inl ⟨e, rfl, rfl⟩⟩
    | ok v =>
      obtain ⟨n, s1⟩ := v
      cases hz; cases hR1
      cases R with
      | error e => cases hN
      | ok s =>
        obtain ⟨f1, f2, k, f3, -⟩ := num_facts hN hb
        unfold DP.pathRule at f2
        split at f2
        · cases f2
        rename_i g1
        exact ⟨f1, .inr ⟨by show 1 ≤ n / 2; omega, s, k, rfl, by show Except.ok s1 = _; rw [f3]⟩⟩
  obtain ⟨hz1, hz2⟩ := hzf
  have HK2 : Hid (∀ s2, R2 = .ok s2 → ∃ s, R = .ok s ∧ s2.far = s.far ∧ s2.cols = s.cols ∧ s2.used = s.used ∧ s2.cl = s.cl ∧ s2.pts = s.pts) := fun s2 e => by
    obtain ⟨s1, k1, e1, e2⟩ := point_keep hb (by rw [hRQ, hR2]; exact e)
    rcases hz2 with ⟨e', e3, -⟩ | ⟨-, s0, k0, e3, e4⟩
    · rw [e3] at e1; cases e1
    · rw [e4] at e1; cases e1
      exact ⟨s0, e3, by rw [e2], by rw [e2], by rw [e2], by rw [e2], by rw [e2]⟩
  have HRC : Hid (∀ p, (∀ v, RQ = .ok v → v.1 = p) → ∀ s, R2 = .ok s → IC.reach s.far p = true) := fun p hv s e => by
    cases hq2 : RQ with
    | error e' => rw [hq2] at hR2; cases hR2; cases e
    | ok v =>
      have := point_reach hb (hRQ.trans hq2)
      rw [hq2] at hR2
      cases hR2; cases e
      rw [hv v hq2] at this
      exact this
  have HZ2 : Hid (∀ s2, R2 = .ok s2 → 1 ≤ z / 2) := fun s2 e => by
    obtain ⟨s1, k1, e1, e2⟩ := point_keep hb (by rw [hRQ, hR2]; exact e)
    rcases hz2 with ⟨e', e3, -⟩ | ⟨h1, -⟩
    · rw [e3] at e1; cases e1
    · exact h1
  have HEQ : Hid (∀ (p : IC.Pt), (∀ v, RQ = .ok v → v.1 = p) → run (DP.path x.bs) R = run (DP.andThen (DP.runs x.bs (z / 2) 0 [] p) (fun l => DP.ret (⟨p, DP.nov, l, decide (z % 2 = 1)⟩ : IC.Path))) (addPts 1 R2)) := fun p hv => by
    cases R with
    | error e => cases hN; cases hR1; cases hRQ; cases hR2; rfl
    | ok s =>
      show run (DP.andThen (DP.num x.bs (DP.pathRule s.cl)) (fun n => DP.andThen (DP.point x.bs ⟨0, 0⟩) fun p s1 => DP.andThen (DP.runs x.bs (n / 2) 0 [] p) (fun l => DP.ret (⟨p, DP.nov, l, decide (n % 2 = 1)⟩ : IC.Path)) { s1 with pts := s1.pts + 1 })) (.ok s) = _
      have hN' : run (DP.num x.bs (DP.pathRule s.cl)) (.ok s) = N := hN
      rw [run_then _ _ _ z (fun v e => by rw [hN'] at e; rw [← hz]; exact valOf_ok v e), hN', hR1, run_then _ _ _ p (fun v e => by rw [hRQ] at e; exact hv v e), hRQ, hR2]
      exact run_addPts x.bs (z / 2) p (decide (z % 2 = 1)) R2
  have kr : Hid (∀ (b kd : Nat) (acc : List IC.Seg) (l : IC.Pt) (R' : Except DP.Bad DP.St) (ad : Option Addr) (cap : Nat) (W : World), RunSt x q b kd acc l R' ad cap W → q < b → Calls Tryd.prog 103 #[.pointer (some ⟨b, 0, none⟩)] W fun e w' => e = .returned (.tuple #[]) ∧ ∃ (kd' : Nat) (acc' : List IC.Seg) (l' : IC.Pt) (R'' : Except DP.Bad DP.St) (ad' : Option Addr) (cap' : Nat), RunSt x q b kd' acc' l' R'' ad' cap' w' ∧ Lo q b W w' ∧ (∀ m, run (DP.runs x.bs (m + 1) kd acc l) R' = run (DP.runs x.bs m kd' acc' l') R'') ∧ (∀ s', R'' = .ok s' → ∃ s, R' = .ok s ∧ s'.far = s.far ∧ s'.cols = s.cols ∧ s'.used = s.used ∧ s'.cl = s.cl ∧ s'.pts ≤ 4000 ∧ acc' ≠ [])) := fun b kd acc l R' ad cap W h1 h2 => drun_any x q b kd acc l R' ad cap W h1 h2
  have h3 := low1_u64 z hz1
  obtain ⟨k, hk⟩ : ∃ k, z % 2 = k := ⟨_, rfl⟩
  obtain ⟨d, hd⟩ : ∃ d, z / 2 = d := ⟨_, rfl⟩
  have hd' : (z : Int) / 2 = (d : Int) := by omega
  have hdb : d < 9223372036854775808 := by omega
  rw [hk] at h3
  have HKD : Hid (z % 2 = k ∧ z / 2 = d) := ⟨hk, hd⟩
  have H4 := hid'' h4
  obtain ⟨RP, hRP⟩ : ∃ RP, run (DP.path x.bs) R = RP := ⟨_, rfl⟩
  rw [hRP] at HEQ
  rw [hRP]
  clear hRP hz2 hN hz hR1 hRQ hR2 hk hd hb h h4
  go_enter Tryd.func83, Tryd.ntmps83
  go_upto_region 3 with (first
    | (go_at_call 100; refine (kp.out _ H1.out.1).mono ?_; rintro e w2 ⟨⟨px, py⟩, rfl, hi2, hv2, h2⟩
       have HI2 := hid'' hi2
       have HV2 := hid'' hv2
       have H2 := hid'' h2
       clear hi2 hv2 h2
       have lt2 := H2.out.2.size
       have B2 := B1.mk H2.out.2 (by omega))
    | (go_at_call 46; refine (kn.out _ ((Below.refl _ _).alloc (Nat.le_refl _) _)).mono ?_; rintro e w1 ⟨rfl, h1⟩
       have H1 := hid'' h1
       clear h1
       have lt1 : w.heap.size < w1.heap.size := by have := H1.out.2.size; simp at this; omega
       have B1 : Blk w1 w.heap.size 59 #[.int .i64 0, .int .i64 0, .slice none 0 0, .bool false] := Blk.mk (blk_new w _ _) H1.out.2 (by omega)))
  obtain ⟨W3, hW3⟩ : ∃ W3, w2.alloc (.cells #[.int .i64 px, .int .i64 py] 48) = W3 := ⟨_, rfl⟩
  have S3 : Hid (Rs x q W3 R2) := by rw [← hW3]; exact H2.out.1.below ((Below.refl _ _).alloc (Nat.le_refl _) _)
  have B3 : Blk W3 w.heap.size 59 #[.int .i64 0, .int .i64 0, .slice none 0 0, .bool false] := by rw [← hW3]; exact B2.alloc _
  have C3 : Blk W3 w2.heap.size 48 #[.int .i64 px, .int .i64 py] := by rw [← hW3]; exact blk_new w2 _ _
  have M3 : Hid (Mk q w W3) := by rw [← hW3]; exact (((Mk.below ((Below.refl w.heap.size w).alloc (Nat.le_refl _) (Obj.cells #[.int .i64 0, .int .i64 0, .slice none 0 0, .bool false] 59))).trans H1.out.2).trans H2.out.2).alloc _
  have lt3 : W3.heap.size = w2.heap.size + 1 := by rw [← hW3]; simp
  rw [hW3]
  clear hW3 B1 B2 H1 H2
  obtain ⟨f6, z6, c6, hz6⟩ := S3.out.ptsCell
  obtain ⟨y, hy⟩ : ∃ y, IntKind.i64.wrap (z6 + 1) = y := ⟨_, rfl⟩
  have d0 := C3.cell 0
  have d1 := C3.cell 1
  simp at d0 d1
  have hq3 := S3.out.lt
  have HY : Hid (∀ s, R2 = .ok s → y = ((s.pts + 1 : Nat) : Int) ∧ s.pts + 1 ≤ 4001) := fun s e => by
    have e1 := hz6 s e
    obtain ⟨s0, e2, -, -, -, -, e3⟩ := HK2.out s e
    have e4 := H4.out s0 e2
    refine ⟨?_, by omega⟩
    rw [← hy, e1, IntKind.wrap_i64]
    omega
  clear hz6
  go_upto_region 5 with fail
  obtain ⟨W5, hW5⟩ : ∃ W5, (W3.setCell ⟨q, 6, none⟩ (.int .i64 y)).alloc (.cells #[.pointer (some ⟨q, 0, none⟩), .int .i64 0, .int .i64 px, .int .i64 py, .slice none 0 0] 161) = W5 := ⟨_, rfl⟩
  obtain ⟨b, hb⟩ : ∃ b, w2.heap.size + 1 = b := ⟨_, rfl⟩
  have S5 : Hid (Rs x q W5 (addPts 1 R2)) := by rw [← hW5]; exact (S3.out.addPts 1 y HY.out).below ((Below.refl _ _).alloc (Nat.le_refl _) _)
  have BW : Blk W5 w.heap.size 59 #[.int .i64 0, .int .i64 0, .slice none 0 0, .bool false] := by rw [← hW5]; exact (B3.far (p := ⟨q, 6, none⟩) (by show w.heap.size ≠ q; omega) _).alloc _
  have CW : Blk W5 w2.heap.size 48 #[.int .i64 px, .int .i64 py] := by rw [← hW5]; exact (C3.far (p := ⟨q, 6, none⟩) (by show w2.heap.size ≠ q; omega) _).alloc _
  have PW : Pr W5 b q (0 : Nat) ⟨px, py⟩ (.slice none 0 0) := by
    rw [← hW5]
    have := blk_new (W3.setCell ⟨q, 6, none⟩ (.int .i64 y)) 161 #[.pointer (some ⟨q, 0, none⟩), .int .i64 0, .int .i64 px, .int .i64 py, .slice none 0 0]
    simp only [World.size_setCell] at this
    rw [lt3, hb] at this
    exact this
  have M5 : Hid (Mk q w W5) := by rw [← hW5]; exact (M3.out.trans (Mk.self 6 _)).alloc _
  have hqb : q < b := by omega
  have hwb : w.heap.size < b := by omega
  have hw2b : w2.heap.size < b := by omega
  rw [hW5, hb]
  have HS0 : Hid (PathSt2 x q b w.heap.size w2.heap.size z W5 ⟨px, py⟩ (addPts 1 R2) 0 0 [] ⟨px, py⟩ (addPts 1 R2) none 0 W5) := ⟨⟨S5.out, PW, own_nil _ _ _ _ _, by simp, by omega, HI2.out, fun s e => by
    cases hR : R2 with
    | error e' => rw [hR] at e; cases e
    | ok s2 =>
      have := HRC.out ⟨px, py⟩ HV2.out s2 hR
      rw [hR] at e
      cases e
      exact this⟩, Lo.refl _ _ _, rfl, fun h => absurd h (by omega), fun s' e => ⟨s', e, rfl, rfl, rfl, rfl, fun h => absurd h (by omega)⟩⟩
  clear hW5 PW S5 B3 C3 M3 S3 c6 f6 d0 d1 hb lt3
  go_wp2
  go_loopw [26] (fun i wr => ∃ (j kd : Nat) (acc : List IC.Seg) (l : IC.Pt) (R' : Except DP.Bad DP.St) (ad : Option Addr) (cap : Nat), j ≤ d ∧ i = .int .u64 j ∧ Hid (PathSt2 x q b w.heap.size w2.heap.size z W5 ⟨px, py⟩ (addPts 1 R2) j kd acc l R' ad cap wr)) (fun i _ => d - (intOf i).toNat)
  case atStart => exact ⟨0, 0, [], _, _, none, 0, by omega, rfl, HS0⟩
  case round =>
    obtain ⟨j, kd, acc, l, R', ad, cap, hj, rfl, HS⟩ := hrel
    by_cases hjd : j < d
    · go_upto_region 8 with (first
        | (go_at_call 103; refine (kr.out b kd acc l R' ad cap _ HS.out.st hqb).mono ?_; rintro e WF ⟨rfl, kdF, accF, lF, RF, adF, capF, hst, hlo, heq, hkp⟩
           have HST := hid'' hst
           have HLO : Hid (Lo q b W5 WF) := HS.out.lo.trans hlo
           have HEF := hid'' heq
           have HKF := hid'' hkp
           have hqF := hst.rs.lt
           clear hst hlo heq hkp))
      have HEF2 : Hid (run (DP.runs x.bs (z / 2) 0 [] ⟨px, py⟩) (addPts 1 R2) = run (DP.runs x.bs (d - (j + 1)) kdF accF lF) RF) := by
        have := HS.out.eq
        rw [HKD.out.2, show d - j = d - (j + 1) + 1 by omega, HEF.out] at this
        rw [HKD.out.2]
        exact this
      cases RF with
      | error eF =>
        obtain ⟨gE, cE⟩ := HST.out.rs.errCell'
        have hE : RP = .error eF := by
          rw [HEQ.out ⟨px, py⟩ HV2.out, run_then _ _ _ [] (fun v e => by rw [HEF2.out] at e; cases e), HEF2.out]
          rfl
        have HREST : Hid (rest RP = .error eF) := by rw [hE]; rfl
        have HVAL : Hid (∀ v, RP = .ok v → v.1 = (⟨⟨px, py⟩, DP.nov, accF, (k : Int) == 1⟩ : IC.Path)) := fun v e => by rw [hE] at e; cases e
        have HKEEP : Hid (∀ s', rest RP = .ok s' → ∃ s, R = .ok s ∧ s'.far = s.far ∧ s'.cols = s.cols ∧ s'.used = s.used ∧ s'.cl = s.cl ∧ s'.pts ≤ 4000) := fun s' e => by rw [hE] at e; cases e
        clear hE
        have X0 := BW.lo HLO.out (by omega) (by omega)
        have Y0 := CW.lo HLO.out (by omega) (by omega)
        have lx0 := X0.lt
        have ly0 := Y0.lt
        have lb := Blk.lt HST.out.pr
        have x0 := X0.cell 0
        have x1 := X0.cell 1
        have x2 := X0.cell 2
        have x3 := X0.cell 3
        have y0 := Y0.cell 0
        have y1 := Y0.cell 1
        have fx0 := X0.frozen 0
        have fx1 := X0.frozen 1
        have fx2 := X0.frozen 2
        have fx3 := X0.frozen 3
        obtain ⟨la, hla⟩ : ∃ n, accF.length = n := ⟨_, rfl⟩
        have s4 : WF.cell? ⟨b, 4, none⟩ = some (.slice adF la capF) := by rw [← hla]; exact Blk.cell HST.out.pr 4
        simp at x0 x1 x2 x3 y0 y1
        go_wp2
        go_region
        all_goals go_wp2
        all_goals
          refine bodyPost_ret (v := .agg #[.int .i64 px, .int .i64 py, .slice adF la capF, .bool ((k : Int) == 1)]) (by simp [results, Tryd.results83, go_sem, X0.got 0 (by simp) (.int .i64 px), (X0.set (j := 0) (.int .i64 px)).got 1 (by simp) (.int .i64 py), ((X0.set (j := 0) (.int .i64 px)).set (j := 1) (.int .i64 py)).got 2 (by simp) (.slice adF la capF), (((X0.set (j := 0) (.int .i64 px)).set (j := 1) (.int .i64 py)).set (j := 2) (.slice adF la capF)).got 3 (by simp) (.bool ((k : Int) == 1))]) rfl ⟨⟨⟨px, py⟩, .slice adF la capF, accF, (k : Int) == 1⟩, rfl, ?_, ?_, ?_, ?_, ?_⟩
          · have o := (Own.many HST.out.own)
            rw [hla] at o
            exact Row.below (Row.farT (p := ⟨w.heap.size, 3, none⟩) (t' := 59) (Row.farT (p := ⟨w.heap.size, 2, none⟩) (t' := 59) (Row.farT (p := ⟨w.heap.size, 1, none⟩) (t' := 59) (Row.farT (p := ⟨w.heap.size, 0, none⟩) (t' := 59) o X0 (by decide) (.int .i64 px)) (X0.set (j := 0) _) (by decide) (.int .i64 py)) ((X0.set (j := 0) _).set (j := 1) _) (by decide) (.slice adF la capF)) (((X0.set (j := 0) _).set (j := 1) _).set (j := 2) _) (by decide) (.bool ((k : Int) == 1))) (by first | exact (Below.refl _ _).drew | exact Below.refl _ _)
          · intro v hv
            exact HVAL.out v hv
          · rw [HREST.out]
            have r := (((HST.out.rs.far (p := ⟨w.heap.size, 0, none⟩) (by show q < w.heap.size; omega) X0 (by decide) (by decide) (.int .i64 px)).far (p := ⟨w.heap.size, 1, none⟩) (by show q < w.heap.size; omega) (X0.set (j := 0) _) (by decide) (by decide) (.int .i64 py)).far (p := ⟨w.heap.size, 2, none⟩) (by show q < w.heap.size; omega) ((X0.set (j := 0) _).set (j := 1) _) (by decide) (by decide) (.slice adF la capF)).far (p := ⟨w.heap.size, 3, none⟩) (by show q < w.heap.size; omega) (((X0.set (j := 0) _).set (j := 1) _).set (j := 2) _) (by decide) (by decide) (.bool ((k : Int) == 1))
            first | exact r.drew | exact r
          · have m := (((((Lo.hide M5.out HLO.out (by omega)).set (p := ⟨w.heap.size, 0, none⟩) (Nat.le_refl _) (.int .i64 px)).set (p := ⟨w.heap.size, 1, none⟩) (Nat.le_refl _) (.int .i64 py)).set (p := ⟨w.heap.size, 2, none⟩) (Nat.le_refl _) (.slice adF la capF)).set (p := ⟨w.heap.size, 3, none⟩) (Nat.le_refl _) (.bool ((k : Int) == 1)))
            first | exact m.drew | exact m
          · exact HKEEP.out
      | ok sF =>
        have cE : WF.cell? ⟨q, 2, none⟩ = some .nilIface := HST.out.rs.errCell
        go_wp2
        go_roundw
        case rel =>
          refine ⟨j + 1, kdF, accF, lF, .ok sF, adF, capF, by omega, by go_num, HST.out, HLO.out, by rw [HEF2.out, HKD.out.2], fun _ => ⟨sF, rfl⟩, fun s' e => ?_⟩
          obtain ⟨s1, e1, a1, a2, a3, a4, a5, -⟩ := HKF.out s' e
          obtain ⟨s0, e0, c1, c2, c3, c4, -⟩ := HS.out.keep s1 e1
          exact ⟨s0, e0, a1.trans c1, a2.trans c2, a3.trans c3, a4.trans c4, fun _ => a5⟩
        case measure => simp [intOf]; omega
    · obtain rfl : j = d := by omega
      · obtain ⟨accF, hA⟩ : ∃ a, a = acc := ⟨_, rfl⟩
        obtain ⟨adF, hB⟩ : ∃ a, a = ad := ⟨_, rfl⟩
        obtain ⟨capF, hC⟩ : ∃ a, a = cap := ⟨_, rfl⟩
        obtain ⟨WF, hD⟩ : ∃ a, a = wr := ⟨_, rfl⟩
        subst hA hB hC hD
        have HST := hid'' HS.out.st
        have HLO := hid'' HS.out.lo
        have hE : RP = run (DP.ret (⟨⟨px, py⟩, DP.nov, accF, decide (z % 2 = 1)⟩ : IC.Path)) R' := by
          have e := HS.out.eq
          rw [HKD.out.2, Nat.sub_self, runs_zero] at e
          rw [HEQ.out ⟨px, py⟩ HV2.out, HKD.out.2, run_then _ _ _ accF (fun v hv => by rw [e] at hv; exact (run_ret _ _).2 v hv), e, (run_ret accF R').1]
        have hbk : decide (z % 2 = 1) = ((k : Int) == 1) := by
          rw [HKD.out.1]
          rcases Nat.eq_zero_or_pos k with h | h
          · subst h; rfl
          · have : k = 1 := by have := HKD.out.1; omega
            subst this; rfl
        rw [hbk] at hE
        have HREST : Hid (rest RP = R') := by rw [hE]; exact (run_ret _ _).1
        have HVAL : Hid (∀ v, RP = .ok v → v.1 = (⟨⟨px, py⟩, DP.nov, accF, (k : Int) == 1⟩ : IC.Path)) := fun v e => by rw [hE] at e; exact (run_ret _ _).2 v e
        have HKEEP : Hid (∀ s', rest RP = .ok s' → ∃ s, R = .ok s ∧ s'.far = s.far ∧ s'.cols = s.cols ∧ s'.used = s.used ∧ s'.cl = s.cl ∧ s'.pts ≤ 4000) := fun s' e => by
          rw [HREST.out] at e
          obtain ⟨s3, e3, a1, a2, a3, a4, a5⟩ := HS.out.keep s' e
          cases hR : R2 with
          | error e' => rw [hR] at e3; cases e3
          | ok s2 =>
            have hd1 := HZ2.out s2 hR
            rw [HKD.out.2] at hd1
            rw [hR] at e3
            cases e3
            obtain ⟨s0, e0, c1, c2, c3, c4, -⟩ := HK2.out s2 hR
            exact ⟨s0, e0, a1.trans c1, a2.trans c2, a3.trans c3, a4.trans c4, a5 hd1⟩
        clear hE hbk
        have X0 := BW.lo HLO.out (by omega) (by omega)
        have Y0 := CW.lo HLO.out (by omega) (by omega)
        have lx0 := X0.lt
        have ly0 := Y0.lt
        have lb := Blk.lt HST.out.pr
        have x0 := X0.cell 0
        have x1 := X0.cell 1
        have x2 := X0.cell 2
        have x3 := X0.cell 3
        have y0 := Y0.cell 0
        have y1 := Y0.cell 1
        have fx0 := X0.frozen 0
        have fx1 := X0.frozen 1
        have fx2 := X0.frozen 2
        have fx3 := X0.frozen 3
        obtain ⟨la, hla⟩ : ∃ n, accF.length = n := ⟨_, rfl⟩
        have s4 : WF.cell? ⟨b, 4, none⟩ = some (.slice adF la capF) := by rw [← hla]; exact Blk.cell HST.out.pr 4
        simp at x0 x1 x2 x3 y0 y1
        go_wp2
        go_region
        all_goals go_wp2
        all_goals
          refine bodyPost_ret (v := .agg #[.int .i64 px, .int .i64 py, .slice adF la capF, .bool ((k : Int) == 1)]) (by simp [results, Tryd.results83, go_sem, X0.got 0 (by simp) (.int .i64 px), (X0.set (j := 0) (.int .i64 px)).got 1 (by simp) (.int .i64 py), ((X0.set (j := 0) (.int .i64 px)).set (j := 1) (.int .i64 py)).got 2 (by simp) (.slice adF la capF), (((X0.set (j := 0) (.int .i64 px)).set (j := 1) (.int .i64 py)).set (j := 2) (.slice adF la capF)).got 3 (by simp) (.bool ((k : Int) == 1))]) rfl ⟨⟨⟨px, py⟩, .slice adF la capF, accF, (k : Int) == 1⟩, rfl, ?_, ?_, ?_, ?_, ?_⟩
          · have o := (Own.many HST.out.own)
            rw [hla] at o
            exact Row.below (Row.farT (p := ⟨w.heap.size, 3, none⟩) (t' := 59) (Row.farT (p := ⟨w.heap.size, 2, none⟩) (t' := 59) (Row.farT (p := ⟨w.heap.size, 1, none⟩) (t' := 59) (Row.farT (p := ⟨w.heap.size, 0, none⟩) (t' := 59) o X0 (by decide) (.int .i64 px)) (X0.set (j := 0) _) (by decide) (.int .i64 py)) ((X0.set (j := 0) _).set (j := 1) _) (by decide) (.slice adF la capF)) (((X0.set (j := 0) _).set (j := 1) _).set (j := 2) _) (by decide) (.bool ((k : Int) == 1))) (by first | exact (Below.refl _ _).drew | exact Below.refl _ _)
          · intro v hv
            exact HVAL.out v hv
          · rw [HREST.out]
            have r := (((HST.out.rs.far (p := ⟨w.heap.size, 0, none⟩) (by show q < w.heap.size; omega) X0 (by decide) (by decide) (.int .i64 px)).far (p := ⟨w.heap.size, 1, none⟩) (by show q < w.heap.size; omega) (X0.set (j := 0) _) (by decide) (by decide) (.int .i64 py)).far (p := ⟨w.heap.size, 2, none⟩) (by show q < w.heap.size; omega) ((X0.set (j := 0) _).set (j := 1) _) (by decide) (by decide) (.slice adF la capF)).far (p := ⟨w.heap.size, 3, none⟩) (by show q < w.heap.size; omega) (((X0.set (j := 0) _).set (j := 1) _).set (j := 2) _) (by decide) (by decide) (.bool ((k : Int) == 1))
            first | exact r.drew | exact r
          · have m := (((((Lo.hide M5.out HLO.out (by omega)).set (p := ⟨w.heap.size, 0, none⟩) (Nat.le_refl _) (.int .i64 px)).set (p := ⟨w.heap.size, 1, none⟩) (Nat.le_refl _) (.int .i64 py)).set (p := ⟨w.heap.size, 2, none⟩) (Nat.le_refl _) (.slice adF la capF)).set (p := ⟨w.heap.size, 3, none⟩) (Nat.le_refl _) (.bool ((k : Int) == 1)))
            first | exact m.drew | exact m
          · exact HKEEP.out

end Go.Proofs.YtbfhehdinkbioaaDoor

/-
  A reader reads a run of segments: walked over the program.
-/
import Derived.Test.YtbfhehdinkbioaaDoorDecRun
import Derived.Laws.AppendOwnNone
namespace Go.Proofs.YtbfhehdinkbioaaDoor
open Go.RowKit

/-- All that is below a block, but the reader, is as it was. -/
structure Lo (q b : Nat) (w w' : World) : Prop where
  os : w'.os = w.os
  tape : w'.tape = w.tape
  output : w'.output = w.output
  size : w.heap.size ≤ w'.heap.size
  block : ∀ k, k < b → k ≠ q → w'.heap[k]? = w.heap[k]?

theorem Lo.refl (q b : Nat) (w : World) : Lo q b w w := ⟨rfl, rfl, rfl, Nat.le_refl _, fun _ _ _ => rfl⟩
theorem Lo.trans {q b : Nat} {u v w : World} (h : Lo q b u v) (k : Lo q b v w) : Lo q b u w :=
  ⟨k.os.trans h.os, k.tape.trans h.tape, k.output.trans h.output, Nat.le_trans h.size k.size, fun i hi h1 => (k.block i hi h1).trans (h.block i hi h1)⟩
theorem Lo.of {q b : Nat} {w w' : World} (h : Mk q w w') (hb : b ≤ w.heap.size) : Lo q b w w' := ⟨h.os, h.tape, h.output, h.size, fun k hk h1 => h.block k (by omega) (fun e => h1 (by cases e; rfl))⟩
theorem Lo.of2 {q b : Nat} {w w' : World} (h : Mk2 q b w w') (hb : b ≤ w.heap.size) : Lo q b w w' := ⟨h.os, h.tape, h.output, h.size, fun k hk h1 => h.block k (by omega) h1 (by omega)⟩
theorem Lo.set {q b : Nat} {w w' : World} (h : Lo q b w w') {p : Addr} (hp : b ≤ p.block ∨ p.block = q) (v : Value) : Lo q b w (w'.setCell p v) :=
  ⟨h.os, h.tape, h.output, by simpa using h.size, fun k hk h1 => (Below.heap_setCell _ _ _ _ (by omega)).trans (h.block k hk h1)⟩
theorem Lo.grown {q b : Nat} {w w1 w' : World} {ad : Option Addr} (h : Lo q b w w1) (hg : w1.grownBy w' (ad.map (·.block))) (hr : ∀ a, ad = some a → b ≤ a.block) (hb : b ≤ w1.heap.size) : Lo q b w w' :=
  ⟨hg.os.trans h.os, hg.tape.trans h.tape, hg.output.trans h.output, Nat.le_trans h.size hg.size, fun k hk h1 => (hg.block k (by omega) (fun e => by
    cases ad with
    | none => simp at e
    | some a => have := hr a rfl; simp at e; omega)).trans (h.block k hk h1)⟩
theorem Lo.drew {q b : Nat} {w w' : World} (h : Lo q b w w') : Lo q b w w'.drew := ⟨h.os, h.tape, h.output, h.size, h.block⟩
theorem Lo.hide {q b : Nat} {w w' w'' : World} (h0 : Mk q w w') (h : Lo q b w' w'') (hb : w.heap.size ≤ b) : Mk q w w'' :=
  ⟨h.os.trans h0.os, h.tape.trans h0.tape, h.output.trans h0.output, Nat.le_trans h0.size h.size, fun k hk hn => (h.block k (by omega) (fun e => hn (by rw [e]))).trans (h0.block k hk hn)⟩

/-- Nothing behind a list of the call's own, in a drawn region. -/
theorem step_none {P : Program} {ops : Array Oper} {o : Oper} {a : Act} {w : World} {K : Act → World → Prop} {Q : Exit → Act → World → Prop} {E : Prop}
    (hgd : o.guard = none) (s x : Operand) (t : TypeId) (ho : o.op = Op.call { callee := Callee.builtin Builtin.append, args := #[s, x], argTypes := #[t, t] })
    (B : Nat) (e : TypeId) (z : Value) (size bytes : Nat) (ht : P.underlying t = some (.slice e)) (hi : (P.info? e).map (fun i => (i.zero, i.size, i.bytes)) = some (some z, size, bytes))
    (v : Value) (n : Nat) (xs : List Value) (hs : a.eval s = v) (hown : w.ownsRow B e size v n xs) (hx : a.eval x = .slice none 0 0) (hK : K (a.put o.dst v) w) :
    if Region.wanted o (yielded ops a.tmps) = true then Oper.wp P o a w K Q else E := by
  have hw : Region.wanted o (yielded ops a.tmps) = true := by simp [Region.wanted, hgd]
  rw [if_pos hw]
  obtain ⟨i, hi0, hi1⟩ := Option.map_eq_some_iff.1 hi
  have hrun := run_append_owned_none (P := P) (w := w) B t o.type e i size ht hi0 v n xs hown
  unfold Oper.wp
  simp [execOp, ho, resolve, invoke, builtin, hs, hx, hrun, Result.andThen]
  exact hK

def ptsOf : Except DP.Bad DP.St → Nat
  | .ok s => s.pts
  | .error _ => 0

theorem segs_len {bs : List Nat} {k : Nat} : ∀ (n : Nat) (acc : List IC.Seg) (l : IC.Pt) (R : Except DP.Bad DP.St) (v : (List IC.Seg × IC.Pt) × DP.St), run (DP.segs bs k n acc l) R = .ok v → v.1.1.length = acc.length + n := by
  intro n
  induction n with
  | zero =>
    intro acc l R v h
    cases R with
    | error e => cases h
    | ok s => cases h; rfl
  | succ n ih =>
    intro acc l R v h
    cases hr : run (DP.seg bs k l) R with
    | error e => rw [segs_err (e := e) (by rw [hr]; rfl)] at h; cases h
    | ok u =>
      have e2 : run (DP.segs bs k (n + 1) acc l) R = run (DP.segs bs k n (acc ++ [u.1.1]) u.1.2) (rest (run (DP.seg bs k l) R)) := run_then (DP.seg bs k l) (fun r => DP.segs bs k n (acc ++ [r.1]) r.2) R u.1 (fun v' hv => by rw [hr] at hv; cases hv; rfl)
      rw [e2] at h
      have := ih _ _ _ _ h
      simp at this
      omega

theorem segs_keep {bs : List Nat} {k : Nat} (hb : ∀ c ∈ bs, c < 256) : ∀ (n : Nat) (acc : List IC.Seg) (l : IC.Pt) (R : Except DP.Bad DP.St) (s' : DP.St), rest (run (DP.segs bs k n acc l) R) = .ok s' → ∃ s m, R = .ok s ∧ s' = { s with at' := s.at' + m, pts := s.pts + k * n } := by
  intro n
  induction n with
  | zero =>
    intro acc l R s' h
    have e := (run_ret (acc, l) R).1
    change rest (run (DP.ret (acc, l)) R) = _ at h
    rw [e] at h
    exact ⟨s', 0, h, rfl⟩
  | succ n ih =>
    intro acc l R s' h
    cases hr : run (DP.seg bs k l) R with
    | error e => rw [segs_err (e := e) (by rw [hr]; rfl)] at h; cases h
    | ok u =>
      have e2 : run (DP.segs bs k (n + 1) acc l) R = run (DP.segs bs k n (acc ++ [u.1.1]) u.1.2) (rest (run (DP.seg bs k l) R)) := run_then (DP.seg bs k l) (fun r => DP.segs bs k n (acc ++ [r.1]) r.2) R u.1 (fun v' hv => by rw [hr] at hv; cases hv; rfl)
      rw [e2] at h
      obtain ⟨s1, m1, e3, e4⟩ := ih _ _ _ _ h
      obtain ⟨s0, m0, e5, e6⟩ := seg_keep hb e3
      exact ⟨s0, m0 + m1, e5, by rw [e4, e6]; simp [Nat.add_assoc, Nat.mul_add, Nat.add_comm k]⟩

theorem segs_reach {bs : List Nat} {k : Nat} (hb : ∀ c ∈ bs, c < 256) : ∀ (n : Nat) (acc : List IC.Seg) (l : IC.Pt) (R : Except DP.Bad DP.St) (v : (List IC.Seg × IC.Pt) × DP.St), (∀ s, R = .ok s → IC.reach s.far l = true) → run (DP.segs bs k n acc l) R = .ok v → IC.reach v.2.far v.1.2 = true := by
  intro n
  induction n with
  | zero =>
    intro acc l R v hl h
    cases R with
    | error e => cases h
    | ok s => cases h; exact hl s rfl
  | succ n ih =>
    intro acc l R v hl h
    cases hr : run (DP.seg bs k l) R with
    | error e => rw [segs_err (e := e) (by rw [hr]; rfl)] at h; cases h
    | ok u =>
      have e2 : run (DP.segs bs k (n + 1) acc l) R = run (DP.segs bs k n (acc ++ [u.1.1]) u.1.2) (rest (run (DP.seg bs k l) R)) := run_then (DP.seg bs k l) (fun r => DP.segs bs k n (acc ++ [r.1]) r.2) R u.1 (fun v' hv => by rw [hr] at hv; cases hv; rfl)
      rw [e2, hr] at h
      exact ih _ _ _ _ (fun s e => by cases e; exact seg_reach hb hl hr) h

/-- What stands between two runs. -/
structure RunSt (x : Src) (q b : Nat) (kd : Nat) (acc : List IC.Seg) (l : IC.Pt) (R : Except DP.Bad DP.St) (ad : Option Addr) (cap : Nat) (w : World) : Prop where
  rs : Rs x q w R
  pr : Pr w b q kd l (.slice ad acc.length cap)
  own : Own w (b + 1) 94 7 IC.Seg.cells ad cap acc
  len : acc.length ≤ 400
  kd3 : kd ≤ 3
  inn : PtIn64 l
  rch : ∀ s, R = .ok s → IC.reach s.far l = true

set_option maxRecDepth 20000 in
set_option maxHeartbeats 2000000 in
theorem drun_any (x : Src) (q b kd : Nat) (acc : List IC.Seg) (l : IC.Pt) (R : Except DP.Bad DP.St) (ad : Option Addr) (cap : Nat) (w : World) (h : RunSt x q b kd acc l R ad cap w) (hqb : q < b) :
    Calls Tryd.prog 103 #[.pointer (some ⟨b, 0, none⟩)] w fun e w' => e = .returned (.tuple #[]) ∧ ∃ (kd' : Nat) (acc' : List IC.Seg) (l' : IC.Pt) (R' : Except DP.Bad DP.St) (ad' : Option Addr) (cap' : Nat), RunSt x q b kd' acc' l' R' ad' cap' w' ∧ Lo q b w w' ∧ (∀ m, run (DP.runs x.bs (m + 1) kd acc l) R = run (DP.runs x.bs m kd' acc' l') R') ∧ (∀ s', R' = .ok s' → ∃ s, R = .ok s ∧ s'.far = s.far ∧ s'.cols = s.cols ∧ s'.used = s.used ∧ s'.cl = s.cl ∧ s'.pts ≤ 4000 ∧ acc' ≠ []) := by
  have hb := h.rs.base.lt256
  have hblt : b < w.heap.size := Blk.lt h.pr
  obtain ⟨len, hlen⟩ : ∃ n, acc.length = n := ⟨_, rfl⟩
  have hl4 := h.len
  have hkd := h.kd3
  have hpr := h.pr
  rw [hlen] at hl4 hpr
  obtain ⟨N, hN⟩ : ∃ N, run (DP.num x.bs (DP.runRule kd len (ptsOf R))) R = N := ⟨_, rfl⟩
  obtain ⟨z, hz⟩ : ∃ z, valOf N = z := ⟨_, rfl⟩
  obtain ⟨R1, hR1⟩ : ∃ R1, rest N = R1 := ⟨_, rfl⟩
  have kn : Hid (Calls Tryd.prog 46 #[.pointer (some ⟨q, 0, none⟩), .func (.func 116) #[.pointer (some ⟨b, 0, none⟩)] #[]] w fun e w' => e = .returned (.int .u64 z) ∧ Rs x q w' R1 ∧ Mk q w w') := by
    have := rnum_any x q R (DP.runRule kd len (ptsOf R)) 116 #[.pointer (some ⟨b, 0, none⟩)] #[] w h.rs (fun s e => by subst e; exact rule_run x q b kd len l ad cap s w h.rs hpr hl4 hkd) (r13 _ _ _)
    rw [hN, hz, hR1] at this
    exact this
  -- what the number is
  have hzf : z < 18446744073709551616 ∧ z / 4 ≤ 400 ∧ ((R1 = .ok (match N with | .ok v => v.2 | .error _ => DP.st0) ∧ 1 ≤ z / 4 ∧ 1 ≤ z % 4 ∧ len + z / 4 ≤ 400 ∧ ∃ s k, R = .ok s ∧ R1 = .ok { s with at' := s.at' + k } ∧ s.pts + z % 4 * (z / 4) ≤ 4000) ∨ ∃ e, R1 = .error e ∧ z = 0) := by
    cases N with
    | error e =>
      cases hz; cases hR1
      exact ⟨by show 0 < _; omega, by show 0 / 4 ≤ _; omega, .inr ⟨e, rfl, rfl⟩⟩
    | ok v =>
      obtain ⟨n, s1⟩ := v
      cases hz; cases hR1
      cases R with
      | error e => cases hN
      | ok s =>
        obtain ⟨f1, f2, k, f3, -⟩ := num_facts hN hb
        unfold DP.runRule at f2
        split at f2
        · cases f2
        rename_i g1
        split at f2
        · cases f2
        rename_i g2
        split at f2
        · cases f2
        rename_i g3
        refine ⟨f1, by show n / 4 ≤ _; omega, .inl ⟨rfl, by show 1 ≤ n / 4; omega, by show 1 ≤ n % 4; omega, by show len + n / 4 ≤ 400; omega, s, k, rfl, by show Except.ok s1 = _; rw [f3], ?_⟩⟩
        show s.pts + n % 4 * (n / 4) ≤ 4000
        simp only [ptsOf] at g3
        omega
  obtain ⟨hz1, hz2, hz3⟩ := hzf
  have h3 := low2_u64 z hz1
  obtain ⟨k, hk⟩ : ∃ k, z % 4 = k := ⟨_, rfl⟩
  obtain ⟨d, hd⟩ : ∃ d, z / 4 = d := ⟨_, rfl⟩
  have hd' : (z : Int) / 4 = (d : Int) := by omega
  rw [hk] at h3 hz3
  rw [hd] at hz2 hz3
  have hk3 : k ≤ 3 := by omega
  obtain ⟨RL, hRL⟩ : ∃ RL, run (DP.segs x.bs k d [] l) R1 = RL := ⟨_, rfl⟩
  obtain ⟨R2, hR2⟩ : ∃ R2, rest RL = R2 := ⟨_, rfl⟩
  have hrch1 : ∀ s, R1 = .ok s → IC.reach s.far l = true := fun s e => by
    rcases hz3 with ⟨-, -, -, -, s0, k0, e0, e1, -⟩ | ⟨e', e1, -⟩
    · rw [e1] at e; cases e; exact h.rch s0 e0
    · rw [e1] at e; cases e
  have hp1 : ∀ s, R1 = .ok s → s.pts + k * d ≤ 4001 := fun s e => by
    rcases hz3 with ⟨-, -, -, -, s0, k0, e0, e1, e2⟩ | ⟨e', e1, -⟩
    · rw [e1] at e; cases e; show s0.pts + _ ≤ _; omega
    · rw [e1] at e; cases e
  have kl : Hid (∀ W, Rs x q W R1 → Pr W b q k l (.slice ad len cap) → Calls Tryd.prog 117 #[.pointer (some ⟨q, 0, none⟩), .int .u64 d, .func (.func 118) #[.pointer (some ⟨b, 0, none⟩)] #[]] W fun e w' => ∃ (g : List IC.Seg) (l' : IC.Pt) (ad2 : Option Addr) (cap2 : Nat), e = .returned (.slice ad2 g.length cap2) ∧ g.length ≤ d ∧ (g = [] → ad2 = none ∧ cap2 = 0) ∧ (∀ e', R2 = .error e' → g = []) ∧ Own w' W.heap.size 94 7 IC.Seg.cells ad2 cap2 g ∧ PtIn64 l' ∧ (∀ v, RL = .ok v → v.1 = (g, l')) ∧ Rs x q w' R2 ∧ Pr w' b q k l' (.slice ad len cap) ∧ Mk2 q b W w') := fun W hW hP => by
    have := dsegs_any x q b k d R1 l (.slice ad len cap) W hW hP hqb hk3 hz2 h.inn hrch1 hp1
    rw [hRL, hR2] at this
    exact this
  have HEQ : Hid (∀ (g : List IC.Seg) (l' : IC.Pt), (∀ v, RL = .ok v → v.1 = (g, l')) → ∀ m, run (DP.runs x.bs (m + 1) kd acc l) R = run (DP.runs x.bs m k (acc ++ g) l') R2) := fun g l' hv m => by
    cases R with
    | error e => cases hN; cases hR1; cases hRL; cases hR2; rfl
    | ok s =>
      show run (DP.andThen (DP.num x.bs (DP.runRule kd acc.length s.pts)) fun y => DP.andThen (DP.segs x.bs (y % 4) (y / 4) [] l) fun r => DP.runs x.bs m (y % 4) (acc ++ r.1) r.2) (.ok s) = _
      rw [hlen]
      have hN' : run (DP.num x.bs (DP.runRule kd len s.pts)) (.ok s) = N := hN
      rw [run_then _ _ _ z (fun v e => by rw [hN'] at e; rw [← hz]; exact valOf_ok v e), hN', hR1, hk, hd, run_then _ _ _ (g, l') (fun v e => by rw [hRL] at e; exact hv v e), hRL, hR2]
  have HKP : Hid (∀ s', R2 = .ok s' → ∃ s, R = .ok s ∧ s'.far = s.far ∧ s'.cols = s.cols ∧ s'.used = s.used ∧ s'.cl = s.cl ∧ s'.pts ≤ 4000) := fun s' e => by
    rcases hz3 with ⟨-, -, -, -, s0, k0, e0, e1, e2⟩ | ⟨e', e1, -⟩
    · obtain ⟨s1, m, e3, e4⟩ := segs_keep hb d [] l R1 s' (by rw [hRL, hR2]; exact e)
      rw [e1] at e3
      cases e3
      rw [e4]
      exact ⟨s0, e0, rfl, rfl, rfl, rfl, e2⟩
    · rw [e1] at hRL
      cases hRL; cases hR2; cases e
  have HRC : Hid (∀ (g : List IC.Seg) (l' : IC.Pt), (∀ v, RL = .ok v → v.1 = (g, l')) → ∀ s, R2 = .ok s → IC.reach s.far l' = true) := fun g l' hv s e => by
    cases hq2 : RL with
    | error e' => rw [hq2] at hR2; cases hR2; cases e
    | ok v =>
      have := segs_reach hb d [] l R1 v hrch1 (hRL.trans hq2)
      rw [hq2] at hR2
      cases hR2; cases e
      rw [hv v hq2] at this
      exact this
  have HGL : Hid (∀ (g : List IC.Seg) (l' : IC.Pt), (∀ v, RL = .ok v → v.1 = (g, l')) → ∀ s, R2 = .ok s → g.length = d ∧ 1 ≤ d ∧ len + d ≤ 400) := fun g l' hv s e => by
    cases hq2 : RL with
    | error e' => rw [hq2] at hR2; cases hR2; cases e
    | ok v =>
      have := segs_len d [] l R1 v (hRL.trans hq2)
      rw [hv v hq2] at this
      rcases hz3 with ⟨-, a1, a2, a3, -⟩ | ⟨e', e1, -⟩
      · exact ⟨by simpa using this, a1, a3⟩
      · rw [e1] at hRL; rw [← hRL] at hq2; cases hq2
  have b0 : w.cell? ⟨b, 0, none⟩ = some (.pointer (some ⟨q, 0, none⟩)) := Blk.cell h.pr 0
  have HS := hid'' h
  have HPR := hid'' hpr
  have HLEN := hid'' hlen
  have hq := h.rs.lt
  clear hz3 hrch1 hp1 hN hz hR1 hRL hR2 hk hd hb hlen hpr h
  cases R2 with
  | error er =>
    go_enter Tryd.func103, Tryd.ntmps103
    go_upto_region 2 with (first
      | (go_at_call 46; refine kn.out.mono ?_; rintro e w1 ⟨rfl, h1⟩
         have H1 := hid'' h1
         clear h1
         have P1 : Pr w1 b q kd l (.slice ad len cap) := Blk.mk HPR.out H1.out.2 (by omega)
         have lt1 := Blk.lt P1
         have p1 : w1.cell? ⟨b, 1, none⟩ = some (.int .i64 kd) := Blk.cell P1 1
         have f1 := Blk.frozen P1 1))
    obtain ⟨W2, hW2⟩ : ∃ W2, w1.setCell ⟨b, 1, none⟩ (.int .i64 k) = W2 := ⟨_, rfl⟩
    have S2 : Hid (Rs x q W2 R1) := by rw [← hW2]; exact H1.out.1.far (p := ⟨b, 1, none⟩) hqb P1 (by decide) (by decide) _
    have P2 : Hid (Pr W2 b q k l (.slice ad len cap)) := by rw [← hW2]; exact Blk.set (j := 1) P1 _
    have O2 : Hid (Own W2 (b + 1) 94 7 IC.Seg.cells ad cap acc) := by rw [← hW2]; exact (HS.out.own.mk H1.out.2 (by omega)).setLow (p := ⟨b, 1, none⟩) (by show b < b + 1; omega) _
    have L2 : Hid (Lo q b w W2) := by rw [← hW2]; exact (Lo.of (b := b) H1.out.2 (Nat.le_of_lt hblt)).set (p := ⟨b, 1, none⟩) (.inl (Nat.le_refl b)) _
    have lt2 : b < W2.heap.size := Blk.lt P2.out
    have b0 : W2.cell? ⟨b, 0, none⟩ = some (.pointer (some ⟨q, 0, none⟩)) := Blk.cell P2.out 0
    have b4 : W2.cell? ⟨b, 4, none⟩ = some (.slice ad len cap) := Blk.cell P2.out 4
    rw [hW2]
    clear hW2 P1 p1 f1 H1
    go_region_law (first
      | (go_simp; go_at_call 117; refine (kl.out _ (by first | exact S2.out.drew | exact S2.out) (by first | exact Blk.drew P2.out | exact P2.out)).mono ?_; rintro e w3 ⟨g, l', ad2, cap2, rfl, hgd, hnil, herr, hown2, hi', hv, hr3, hp3, hm3⟩
         have HI3 := hid'' hi'
         have HV3 := hid'' hv
         have HR3 := hid'' hr3
         have HP3 := hid'' hp3
         have HM3 : Hid (Mk2 q b W2 w3) := ⟨hm3.os, hm3.tape, hm3.output, hm3.size, hm3.block⟩
         have O3 : Hid (Own w3 (b + 1) 94 7 IC.Seg.cells ad cap acc) := O2.out.mk2 HM3.out (by omega) (by omega)
         have lt3 := Blk.lt hp3
         have c4 : w3.cell? ⟨b, 4, none⟩ = some (.slice ad len cap) := Blk.cell hp3 4
         have f4 := Blk.frozen hp3 4
         have hg0 := herr er rfl
         subst hg0
         obtain ⟨rfl, rfl⟩ := hnil rfl
         simp only [List.length_nil]
         have O3r : Hid (w3.ownsRow (b + 1) 94 7 (.slice ad len cap) len (acc.flatMap IC.Seg.cells)) := by
           have := O3.out
           unfold Own at this
           rw [HLEN.out] at this
           exact this
         clear hi' hv hr3 hp3 hm3 hown2 hgd hnil herr)
      | (refine step_none rfl (.tmp 20) (.tmp 29) 57 rfl (b + 1) 94 _ 7 56 Tryd.underlying57 infoSeg (.slice ad len cap) len (acc.flatMap IC.Seg.cells) (by simp [Act.eval]) O3r.out (by simp [Act.eval]) ?_))
    all_goals go_end0
    all_goals
      have HLE := HLEN.out
      refine ⟨rfl, k, acc ++ [], l', .error er, ad, cap, ⟨?_, ?_, ?_, ?_, hk3, HI3.out, fun s e => by cases e⟩, ?_, HEQ.out [] l' HV3.out, fun s' e => by cases e⟩
      · exact HR3.out.far (p := ⟨b, 4, none⟩) hqb HP3.out (by decide) (by decide) _
      · rw [List.append_nil, HLE]
        exact Blk.set (j := 4) HP3.out _
      · rw [List.append_nil]
        exact O3.out.setLow (p := ⟨b, 4, none⟩) (by show b < b + 1; omega) _
      · rw [List.append_nil, HLE]; omega
      · exact (L2.out.trans (Lo.of2 HM3.out (Nat.le_of_lt lt2))).set (p := ⟨b, 4, none⟩) (.inl (Nat.le_refl b)) _
  | ok s2 =>
    go_enter Tryd.func103, Tryd.ntmps103
    go_upto_region 2 with (first
      | (go_at_call 46; refine kn.out.mono ?_; rintro e w1 ⟨rfl, h1⟩
         have H1 := hid'' h1
         clear h1
         have P1 : Pr w1 b q kd l (.slice ad len cap) := Blk.mk HPR.out H1.out.2 (by omega)
         have lt1 := Blk.lt P1
         have p1 : w1.cell? ⟨b, 1, none⟩ = some (.int .i64 kd) := Blk.cell P1 1
         have f1 := Blk.frozen P1 1))
    obtain ⟨W2, hW2⟩ : ∃ W2, w1.setCell ⟨b, 1, none⟩ (.int .i64 k) = W2 := ⟨_, rfl⟩
    have S2 : Hid (Rs x q W2 R1) := by rw [← hW2]; exact H1.out.1.far (p := ⟨b, 1, none⟩) hqb P1 (by decide) (by decide) _
    have P2 : Hid (Pr W2 b q k l (.slice ad len cap)) := by rw [← hW2]; exact Blk.set (j := 1) P1 _
    have O2 : Hid (Own W2 (b + 1) 94 7 IC.Seg.cells ad cap acc) := by rw [← hW2]; exact (HS.out.own.mk H1.out.2 (by omega)).setLow (p := ⟨b, 1, none⟩) (by show b < b + 1; omega) _
    have L2 : Hid (Lo q b w W2) := by rw [← hW2]; exact (Lo.of (b := b) H1.out.2 (Nat.le_of_lt hblt)).set (p := ⟨b, 1, none⟩) (.inl (Nat.le_refl b)) _
    have lt2 : b < W2.heap.size := Blk.lt P2.out
    have b0 : W2.cell? ⟨b, 0, none⟩ = some (.pointer (some ⟨q, 0, none⟩)) := Blk.cell P2.out 0
    have b4 : W2.cell? ⟨b, 4, none⟩ = some (.slice ad len cap) := Blk.cell P2.out 4
    rw [hW2]
    clear hW2 P1 p1 f1 H1
    go_region_law (first
      | (go_simp; go_at_call 117; refine (kl.out _ (by first | exact S2.out.drew | exact S2.out) (by first | exact Blk.drew P2.out | exact P2.out)).mono ?_; rintro e w3 ⟨g, l', ad2, cap2, rfl, hgd, hnil, herr, hown2, hi', hv, hr3, hp3, hm3⟩
         have HI3 := hid'' hi'
         have HV3 := hid'' hv
         have HR3 := hid'' hr3
         have HP3 := hid'' hp3
         have HM3 : Hid (Mk2 q b W2 w3) := ⟨hm3.os, hm3.tape, hm3.output, hm3.size, hm3.block⟩
         have O3 : Hid (Own w3 (b + 1) 94 7 IC.Seg.cells ad cap acc) := O2.out.mk2 HM3.out (by omega) (by omega)
         have lt3 := Blk.lt hp3
         have c4 : w3.cell? ⟨b, 4, none⟩ = some (.slice ad len cap) := Blk.cell hp3 4
         have f4 := Blk.frozen hp3 4
         obtain ⟨hgl, hd1, hld⟩ := HGL.out g l' HV3.out s2 rfl
         have HO2 := hid'' hown2
         have HGl := hid'' hgl
         rw [hgl]
         clear hi' hv hr3 hp3 hm3 hown2 hgd hnil herr hgl)
      | (refine step_join (ad := ad) (cap := cap) rfl (.tmp 20) (.tmp 29) 57 rfl (b + 1) 94 _ 7 56 Tryd.underlying57 infoSeg rfl (by decide) IC.Seg.cells dseg_len acc g len d HLEN.out HGl.out (by omega) (by simp [Act.eval]) O3.out (ad2 := ad2) (cap2 := cap2) (by simp [Act.eval]) HO2.out (fun y _ => seg_one y) (by omega) (by omega) (by omega) ?_
         intro ad' cap' w4 hown' hg'
         have HO4 := hid'' hown'
         have HG4 := hid'' hg'
         have P4 : Blk w4 b 161 _ := Blk.grown HP3.out hg' (fun a e => by have := (O3.out.lt a e).1; omega)
         have lt4 := P4.lt
         have c44 : w4.cell? ⟨b, 4, none⟩ = some (.slice ad len cap) := P4.cell 4
         have f44 := P4.frozen 4
         clear hown' hg'))
    all_goals go_end0
    all_goals
      have hla : (acc ++ g).length = len + d := by rw [List.length_append, HLEN.out, HGl.out]
      refine ⟨rfl, k, acc ++ g, l', .ok s2, ad', cap', ⟨?_, ?_, ?_, ?_, hk3, HI3.out, HRC.out g l' HV3.out⟩, ?_, HEQ.out g l' HV3.out, fun s' e => ?_⟩
      · exact (HR3.out.grown O3.out HG4.out (by omega) (by decide) (by decide)).far (p := ⟨b, 4, none⟩) hqb P4 (by decide) (by decide) _
      · rw [hla]
        exact P4.set (j := 4) _
      · exact HO4.out.setLow (p := ⟨b, 4, none⟩) (by show b < b + 1; omega) _
      · rw [hla]; exact hld
      · exact ((L2.out.trans (Lo.of2 HM3.out (Nat.le_of_lt lt2))).grown HG4.out (fun a e => by have := (O3.out.lt a e).1; omega) (Nat.le_of_lt lt3)).set (p := ⟨b, 4, none⟩) (.inl (Nat.le_refl b)) _
      · obtain ⟨s, a1, a2, a3, a4, a5, a6⟩ := HKP.out s' e
        refine ⟨s, a1, a2, a3, a4, a5, a6, fun h => ?_⟩
        have := congrArg List.length h
        rw [hla] at this
        simp at this
        omega

end Go.Proofs.YtbfhehdinkbioaaDoor

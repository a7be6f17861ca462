import Derived.Test.YtcnlkdoifogkbaaGreatDoorJB
import Derived.Test.YtcnlkdoifogkbaaGreatDoorDecSegs
import Derived.Laws.AppendOwnNone
/-
  A reader reads a run of segments: its rule, walked over the program.
-/
namespace Go.Proofs.YtcnlkdoifogkbaaGreatDoor
open Go.RowKit

set_option maxRecDepth 20000 in
set_option maxHeartbeats 1000000 in
theorem runRule_any (x : Src) (q b n kd len : Nat) (l : IC.Pt) (ad : Option Addr) (cap : Nat) (s : DP.St) (w : World) (h : Rd x q w s) (hp : Pr w b q kd l (.slice ad len cap)) (hl : len ≤ 400) (hkd : kd ≤ 3) (hn : n < 18446744073709551616) :
    Calls Tryz.prog 119 #[.pointer (some ⟨b, 0, none⟩), .int .u64 n] w fun e w' => e = .returned (errO x.A (DP.runRule kd len s.pts n)) ∧ w' = w := by
  have c6 : w.cell? ⟨q, 6, none⟩ = some (.int .i64 s.pts) := h.blk.cell 6
  have b0 : w.cell? ⟨b, 0, none⟩ = some (.pointer (some ⟨q, 0, none⟩)) := Blk.cell hp 0
  have b1 : w.cell? ⟨b, 1, none⟩ = some (.int .i64 kd) := Blk.cell hp 1
  have b4 : w.cell? ⟨b, 4, none⟩ = some (.slice ad len cap) := Blk.cell hp 4
  have e4 := h.base.range
  have e9 := h.base.canon
  have e5 := h.base.limit
  have h4 := h.fit.pts
  clear h hp
  generalize s.pts = P at *
  obtain ⟨R, hR⟩ : ∃ R, DP.runRule kd len P n = R := ⟨_, rfl⟩
  have HR : Hid (DP.runRule kd len P n = R) := hR
  rw [hR]
  clear hR
  have h3 := low2_u64 n hn
  obtain ⟨d, hd⟩ : ∃ d, n / 4 = d := ⟨_, rfl⟩
  have hd' : (n : Int) / 4 = (d : Int) := by omega
  obtain ⟨k, hk⟩ : ∃ k, n % 4 = k := ⟨_, rfl⟩
  rw [hk] at h3
  have hk4 : k = 0 ∨ k = 1 ∨ k = 2 ∨ k = 3 := by omega
  have HD : Hid (n / 4 = d ∧ n % 4 = k) := ⟨hd, hk⟩
  have hdb : d < 4611686018427387904 := by omega
  clear hd hk
  by_cases d0 : d = 0
  · subst d0
    rcases hk4 with rfl | rfl | rfl | rfl <;>
    · go_enter Tryz.func119, Tryz.ntmps119
      go_wp2
      go_ret
      exact ⟨ret_w (by rw [← HR.out, DP.runRule, if_pos (.inr HD.out.1)]; rfl), rfl⟩
  · have d0' : ((d : Int) == 0) = false := by simp; omega
    have D0 : Hid (¬ d = 0) := d0
    rcases hk4 with rfl | rfl | rfl | rfl
    · go_enter Tryz.func119, Tryz.ntmps119
      go_wp2
      go_ret
      exact ⟨ret_w (by rw [← HR.out, DP.runRule, if_pos (.inl HD.out.2)]; rfl), rfl⟩
    · by_cases ck : kd = 1
      · subst ck
        go_enter Tryz.func119, Tryz.ntmps119
        go_wp2
        go_ret
        exact ⟨ret_w (by rw [← HR.out, DP.runRule, HD.out.1, HD.out.2, if_neg (by have := D0.out; omega), if_pos rfl]; rfl), rfl⟩
      · have ck' : ((1 : Int) == (kd : Int)) = false := by simp; omega
        have CK : Hid (¬ 1 = kd) := fun e => ck e.symm
        by_cases dl : 400 < len + d
        · go_enter Tryz.func119, Tryz.ntmps119
          go_wp2
          go_ret
          exact ⟨ret_w (by rw [← HR.out, DP.runRule, HD.out.1, HD.out.2, if_neg (by have := D0.out; omega), if_neg CK.out, if_pos (.inl dl)]; rfl), rfl⟩
        · by_cases pl : 4000 < P + 1 * d
          · go_enter Tryz.func119, Tryz.ntmps119
            go_wp2
            go_ret
            exact ⟨ret_w (by rw [← HR.out, DP.runRule, HD.out.1, HD.out.2, if_neg (by have := D0.out; omega), if_neg CK.out, if_pos (.inr pl)]; rfl), rfl⟩
          · go_enter Tryz.func119, Tryz.ntmps119
            go_wp2
            go_ret
            exact ⟨ret_w (by rw [← HR.out, DP.runRule, HD.out.1, HD.out.2, if_neg (by have := D0.out; omega), if_neg CK.out, if_neg (by omega)]; rfl), rfl⟩
    · by_cases ck : kd = 2
      · subst ck
        go_enter Tryz.func119, Tryz.ntmps119
        go_wp2
        go_ret
        exact ⟨ret_w (by rw [← HR.out, DP.runRule, HD.out.1, HD.out.2, if_neg (by have := D0.out; omega), if_pos rfl]; rfl), rfl⟩
      · have ck' : ((2 : Int) == (kd : Int)) = false := by simp; omega
        have CK : Hid (¬ 2 = kd) := fun e => ck e.symm
        by_cases dl : 400 < len + d
        · go_enter Tryz.func119, Tryz.ntmps119
          go_wp2
          go_ret
          exact ⟨ret_w (by rw [← HR.out, DP.runRule, HD.out.1, HD.out.2, if_neg (by have := D0.out; omega), if_neg CK.out, if_pos (.inl dl)]; rfl), rfl⟩
        · by_cases pl : 4000 < P + 2 * d
          · go_enter Tryz.func119, Tryz.ntmps119
            go_wp2
            go_ret
            exact ⟨ret_w (by rw [← HR.out, DP.runRule, HD.out.1, HD.out.2, if_neg (by have := D0.out; omega), if_neg CK.out, if_pos (.inr pl)]; rfl), rfl⟩
          · go_enter Tryz.func119, Tryz.ntmps119
            go_wp2
            go_ret
            exact ⟨ret_w (by rw [← HR.out, DP.runRule, HD.out.1, HD.out.2, if_neg (by have := D0.out; omega), if_neg CK.out, if_neg (by omega)]; rfl), rfl⟩
    · by_cases ck : kd = 3
      · subst ck
        go_enter Tryz.func119, Tryz.ntmps119
        go_wp2
        go_ret
        exact ⟨ret_w (by rw [← HR.out, DP.runRule, HD.out.1, HD.out.2, if_neg (by have := D0.out; omega), if_pos rfl]; rfl), rfl⟩
      · have ck' : ((3 : Int) == (kd : Int)) = false := by simp; omega
        have CK : Hid (¬ 3 = kd) := fun e => ck e.symm
        by_cases dl : 400 < len + d
        · go_enter Tryz.func119, Tryz.ntmps119
          go_wp2
          go_ret
          exact ⟨ret_w (by rw [← HR.out, DP.runRule, HD.out.1, HD.out.2, if_neg (by have := D0.out; omega), if_neg CK.out, if_pos (.inl dl)]; rfl), rfl⟩
        · by_cases pl : 4000 < P + 3 * d
          · go_enter Tryz.func119, Tryz.ntmps119
            go_wp2
            go_ret
            exact ⟨ret_w (by rw [← HR.out, DP.runRule, HD.out.1, HD.out.2, if_neg (by have := D0.out; omega), if_neg CK.out, if_pos (.inr pl)]; rfl), rfl⟩
          · go_enter Tryz.func119, Tryz.ntmps119
            go_wp2
            go_ret
            exact ⟨ret_w (by rw [← HR.out, DP.runRule, HD.out.1, HD.out.2, if_neg (by have := D0.out; omega), if_neg CK.out, if_neg (by omega)]; rfl), rfl⟩

theorem rule_run (x : Src) (q b kd len : Nat) (l : IC.Pt) (ad : Option Addr) (cap : Nat) (s : DP.St) (w : World) (h : Rd x q w s) (hp : Pr w b q kd l (.slice ad len cap)) (hl : len ≤ 400) (hkd : kd ≤ 3) : Rule x w (DP.runRule kd len s.pts) 119 #[.pointer (some ⟨b, 0, none⟩)] #[] :=
  ⟨ent_run, fun n W hn hb => (runRule_any x q b n kd len l ad cap s W (h.below hb) (Blk.below hp hb (Blk.lt hp)) hl hkd hn).mono fun e w' ⟨a, b⟩ => by subst b; exact ⟨a, Below.refl _ _⟩⟩

theorem r13 (a b p n c : Nat) (h : DP.runRule a b p n = some c) : c < 13 := by
  unfold DP.runRule at h
  split at h
  · cases h; decide
  · split at h
    · cases h; decide
    · split at h <;> cases h; decide

/-- A list behind a list of the call's own, in a drawn region. -/
theorem step_join {P : Program} {α : Type} {ops : Array Oper} {o : Oper} {a : Act} {w : World} {K : Act → World → Prop} {Q : Exit → Act → World → Prop} {E : Prop}
    (hgd : o.guard = none) (s x : Operand) (t : TypeId) (ho : o.op = Op.call { callee := Callee.builtin Builtin.append, args := #[s, x], argTypes := #[t, t] })
    (B : Nat) (e : TypeId) (z : Value) (size bytes : Nat) (ht : P.underlying t = some (.slice e)) (hi : (P.info? e).map (fun i => (i.zero, i.size, i.bytes)) = some (some z, size, bytes))
    (hzs : z.cells.size = size) (hsz : 0 < size) (f : α → List Value) (hf : ∀ y, (f y).length = size)
    {ad : Option Addr} {cap : Nat} (l l2 : List α) (n m : Nat) (hn : l.length = n) (hm : l2.length = m) (hm0 : 0 < m) (hs : a.eval s = .slice ad n cap) (hown : Own w B e size f ad cap l) {ad2 : Option Addr} {cap2 B2 : Nat} (hx : a.eval x = .slice ad2 m cap2)
    (hown2 : Own w B2 e size f ad2 cap2 l2) (h1 : ∀ y ∈ l2, ∀ u ∈ f y, u.oneCell' = true)
    (hbytes : (n + m) * bytes ≤ 140737488355328) (h63 : n + m ≤ 1000000) (hB : B ≤ w.heap.size)
    (hK : ∀ ad' cap' w', Own w' B e size f ad' cap' (l ++ l2) → w.grownBy w' (ad.map (·.block)) → K (a.put o.dst (.slice ad' (n + m) cap')) w') :
    if Region.wanted o (yielded ops a.tmps) = true then Oper.wp P o a w K Q else E := by
  have hw : Region.wanted o (yielded ops a.tmps) = true := by simp [Region.wanted, hgd]
  rw [if_pos hw]
  subst hn
  subst hm
  obtain ⟨i, hi0, hi1⟩ := Option.map_eq_some_iff.1 hi
  have hz : i.zero = some z := congrArg (·.1) hi1
  have hz1 : i.size = size := congrArg (·.2.1) hi1
  have hz2 : i.bytes = bytes := congrArg (·.2.2) hi1
  rcases (Own.many hown2).2 with ⟨_, e0⟩ | ⟨g, o2, c2, e1, e2, e3, e4, e5, e6⟩
  · omega
  have ead : ad2 = some ⟨g, o2, none⟩ ∧ cap2 = c2 := by simpa using e1
  rw [ead.1] at hx
  refine wp_append_own w s x t ho B e i z size bytes ht hi0 hz hz1 hz2 hzs hsz _ l.length (l.flatMap f) hs hown ⟨g, o2, none⟩ l2.length cap2 (l2.flatMap f) hx (flat_len f size hf l2) (fun j u hj => by rw [Addr.add_lit]; exact e6 j u hj) (fun u hu => by
    obtain ⟨y, hy, hu⟩ := List.mem_flatMap.1 hu
    exact h1 y hy u hu) (by unfold maxLen; omega) hbytes hB ?_
  intro v' w' hown' hg hnil
  have hlen : (l ++ l2).length = l.length + l2.length := by simp
  have hfl : l.flatMap f ++ l2.flatMap f = (l ++ l2).flatMap f := by simp
  rw [hfl, ← hlen] at hown'
  have hrow : (Value.slice ad l.length cap).ownBlock = ad.map (·.block) := by cases ad <;> rfl
  rw [hrow] at hg
  rcases hown'.2 with ⟨e1, e2⟩ | ⟨g', c, cur, e1, e2⟩
  · rw [hlen] at e2; omega
  · have e3 : v' = .slice (some ⟨g', 0, none⟩) (l.length + l2.length) c := by rw [e1, hlen]
    rw [e3] at hown' ⊢
    exact hK _ _ w' (by rw [← hlen] at hown'; exact hown') hg

end Go.Proofs.YtcnlkdoifogkbaaGreatDoor

/-
  A reader reads a run of segments: walked over the program.
-/
namespace Go.Proofs.YtcnlkdoifogkbaaGreatDoor
open Go.RowKit

/-- All that is below a block, but the reader, is as it was. -/
structure Lo (q b : Nat) (w w' : World) : Prop where
  os : w'.os = w.os
  tape : w'.tape = w.tape
  output : w'.output = w.output
  size : w.heap.size ≤ w'.heap.size
  block : ∀ k, k < b → k ≠ q → w'.heap[k]? = w.heap[k]?

theorem Lo.refl (q b : Nat) (w : World) : Lo q b w w := ⟨rfl, rfl, rfl, Nat.le_refl _, fun _ _ _ => rfl⟩
theorem Lo.trans {q b : Nat} {u v w : World} (h : Lo q b u v) (k : Lo q b v w) : Lo q b u w :=
  ⟨k.os.trans h.os, k.tape.trans h.tape, k.output.trans h.output, Nat.le_trans h.size k.size, fun i hi h1 => (k.block i hi h1).trans (h.block i hi h1)⟩
theorem Lo.of {q b : Nat} {w w' : World} (h : Mk q w w') (hb : b ≤ w.heap.size) : Lo q b w w' := ⟨h.os, h.tape, h.output, h.size, fun k hk h1 => h.block k (by omega) (fun e => h1 (by cases e; rfl))⟩
theorem Lo.of2 {q b : Nat} {w w' : World} (h : Mk2 q b w w') (hb : b ≤ w.heap.size) : Lo q b w w' := ⟨h.os, h.tape, h.output, h.size, fun k hk h1 => h.block k (by omega) h1 (by omega)⟩
theorem Lo.set {q b : Nat} {w w' : World} (h : Lo q b w w') {p : Addr} (hp : b ≤ p.block ∨ p.block = q) (v : Value) : Lo q b w (w'.setCell p v) :=
  ⟨h.os, h.tape, h.output, by simpa using h.size, fun k hk h1 => (Below.heap_setCell _ _ _ _ (by omega)).trans (h.block k hk h1)⟩
theorem Lo.grown {q b : Nat} {w w1 w' : World} {ad : Option Addr} (h : Lo q b w w1) (hg : w1.grownBy w' (ad.map (·.block))) (hr : ∀ a, ad = some a → b ≤ a.block) (hb : b ≤ w1.heap.size) : Lo q b w w' :=
  ⟨hg.os.trans h.os, hg.tape.trans h.tape, hg.output.trans h.output, Nat.le_trans h.size hg.size, fun k hk h1 => (hg.block k (by omega) (fun e => by
    cases ad with
    | none => simp at e
    | some a => have := hr a rfl; simp at e; omega)).trans (h.block k hk h1)⟩
theorem Lo.drew {q b : Nat} {w w' : World} (h : Lo q b w w') : Lo q b w w'.drew := ⟨h.os, h.tape, h.output, h.size, h.block⟩
theorem Lo.hide {q b : Nat} {w w' w'' : World} (h0 : Mk q w w') (h : Lo q b w' w'') (hb : w.heap.size ≤ b) : Mk q w w'' :=
  ⟨h.os.trans h0.os, h.tape.trans h0.tape, h.output.trans h0.output, Nat.le_trans h0.size h.size, fun k hk hn => (h.block k (by omega) (fun e => hn (by rw [e]))).trans (h0.block k hk hn)⟩

/-- Nothing behind a list of the call's own, in a drawn region. -/
theorem step_none {P : Program} {ops : Array Oper} {o : Oper} {a : Act} {w : World} {K : Act → World → Prop} {Q : Exit → Act → World → Prop} {E : Prop}
    (hgd : o.guard = none) (s x : Operand) (t : TypeId) (ho : o.op = Op.call { callee := Callee.builtin Builtin.append, args := #[s, x], argTypes := #[t, t] })
    (B : Nat) (e : TypeId) (z : Value) (size bytes : Nat) (ht : P.underlying t = some (.slice e)) (hi : (P.info? e).map (fun i => (i.zero, i.size, i.bytes)) = some (some z, size, bytes))
    (v : Value) (n : Nat) (xs : List Value) (hs : a.eval s = v) (hown : w.ownsRow B e size v n xs) (hx : a.eval x = .slice none 0 0) (hK : K (a.put o.dst v) w) :
    if Region.wanted o (yielded ops a.tmps) = true then Oper.wp P o a w K Q else E := by
  have hw : Region.wanted o (yielded ops a.tmps) = true := by simp [Region.wanted, hgd]
  rw [if_pos hw]
  obtain ⟨i, hi0, hi1⟩ := Option.map_eq_some_iff.1 hi
  have hrun := run_append_owned_none (P := P) (w := w) B t o.type e i size ht hi0 v n xs hown
  unfold Oper.wp
  simp [execOp, ho, resolve, invoke, builtin, hs, hx, hrun, Result.andThen]
  exact hK

def ptsOf : Except DP.Bad DP.St → Nat
  | .ok s => s.pts
  | .error _ => 0

theorem segs_len {bs : List Nat} {k : Nat} : ∀ (n : Nat) (acc : List IC.Seg) (l : IC.Pt) (R : Except DP.Bad DP.St) (v : (List IC.Seg × IC.Pt) × DP.St), run (DP.segs bs k n acc l) R = .ok v → v.1.1.length = acc.length + n := by
  intro n
  induction n with
  | zero =>
    intro acc l R v h
    cases R with
    | error e => cases h
    | ok s => cases h; rfl
  | succ n ih =>
    intro acc l R v h
    cases hr : run (DP.seg bs k l) R with
    | error e => rw [segs_err (e := e) (by rw [hr]; rfl)] at h; cases h
    | ok u =>
      have e2 : run (DP.segs bs k (n + 1) acc l) R = run (DP.segs bs k n (acc ++ [u.1.1]) u.1.2) (rest (run (DP.seg bs k l) R)) := run_then (DP.seg bs k l) (fun r => DP.segs bs k n (acc ++ [r.1]) r.2) R u.1 (fun v' hv => by rw [hr] at hv; cases hv; rfl)
      rw [e2] at h
      have := ih _ _ _ _ h
      simp at this
      omega

theorem segs_keep {bs : List Nat} {k : Nat} (hb : ∀ c ∈ bs, c < 256) : ∀ (n : Nat) (acc : List IC.Seg) (l : IC.Pt) (R : Except DP.Bad DP.St) (s' : DP.St), rest (run (DP.segs bs k n acc l) R) = .ok s' → ∃ s m, R = .ok s ∧ s' = { s with at' := s.at' + m, pts := s.pts + k * n } := by
  intro n
  induction n with
  | zero =>
    intro acc l R s' h
    have e := (run_ret (acc, l) R).1
    change rest (run (DP.ret (acc, l)) R) = _ at h
    rw [e] at h
    exact ⟨s', 0, h, rfl⟩
  | succ n ih =>
    intro acc l R s' h
    cases hr : run (DP.seg bs k l) R with
    | error e => rw [segs_err (e := e) (by rw [hr]; rfl)] at h; cases h
    | ok u =>
      have e2 : run (DP.segs bs k (n + 1) acc l) R = run (DP.segs bs k n (acc ++ [u.1.1]) u.1.2) (rest (run (DP.seg bs k l) R)) := run_then (DP.seg bs k l) (fun r => DP.segs bs k n (acc ++ [r.1]) r.2) R u.1 (fun v' hv => by rw [hr] at hv; cases hv; rfl)
      rw [e2] at h
      obtain ⟨s1, m1, e3, e4⟩ := ih _ _ _ _ h
      obtain ⟨s0, m0, e5, e6⟩ := seg_keep hb e3
      exact ⟨s0, m0 + m1, e5, by rw [e4, e6]; simp [Nat.add_assoc, Nat.mul_add, Nat.add_comm k]⟩

theorem segs_reach {bs : List Nat} {k : Nat} (hb : ∀ c ∈ bs, c < 256) : ∀ (n : Nat) (acc : List IC.Seg) (l : IC.Pt) (R : Except DP.Bad DP.St) (v : (List IC.Seg × IC.Pt) × DP.St), (∀ s, R = .ok s → IC.reach s.far l = true) → run (DP.segs bs k n acc l) R = .ok v → IC.reach v.2.far v.1.2 = true := by
  intro n
  induction n with
  | zero =>
    intro acc l R v hl h
    cases R with
    | error e => cases h
    | ok s => cases h; exact hl s rfl
  | succ n ih =>
    intro acc l R v hl h
    cases hr : run (DP.seg bs k l) R with
    | error e => rw [segs_err (e := e) (by rw [hr]; rfl)] at h; cases h
    | ok u =>
      have e2 : run (DP.segs bs k (n + 1) acc l) R = run (DP.segs bs k n (acc ++ [u.1.1]) u.1.2) (rest (run (DP.seg bs k l) R)) := run_then (DP.seg bs k l) (fun r => DP.segs bs k n (acc ++ [r.1]) r.2) R u.1 (fun v' hv => by rw [hr] at hv; cases hv; rfl)
      rw [e2, hr] at h
      exact ih _ _ _ _ (fun s e => by cases e; exact seg_reach hb hl hr) h

/-- What stands between two runs. -/
structure RunSt (x : Src) (q b : Nat) (kd : Nat) (acc : List IC.Seg) (l : IC.Pt) (R : Except DP.Bad DP.St) (ad : Option Addr) (cap : Nat) (w : World) : Prop where
  rs : Rs x q w R
  pr : Pr w b q kd l (.slice ad acc.length cap)
  own : Own w (b + 1) 103 7 IC.Seg.cells ad cap acc
  len : acc.length ≤ 400
  kd3 : kd ≤ 3
  inn : PtIn64 l
  rch : ∀ s, R = .ok s → IC.reach s.far l = true

set_option maxRecDepth 20000 in
set_option maxHeartbeats 2000000 in
theorem drun_any (x : Src) (q b kd : Nat) (acc : List IC.Seg) (l : IC.Pt) (R : Except DP.Bad DP.St) (ad : Option Addr) (cap : Nat) (w : World) (h : RunSt x q b kd acc l R ad cap w) (hqb : q < b) :
    Calls Tryz.prog 112 #[.pointer (some ⟨b, 0, none⟩)] w fun e w' => e = .returned (.tuple #[]) ∧ ∃ (kd' : Nat) (acc' : List IC.Seg) (l' : IC.Pt) (R' : Except DP.Bad DP.St) (ad' : Option Addr) (cap' : Nat), RunSt x q b kd' acc' l' R' ad' cap' w' ∧ Lo q b w w' ∧ (∀ m, run (DP.runs x.bs (m + 1) kd acc l) R = run (DP.runs x.bs m kd' acc' l') R') ∧ (∀ s', R' = .ok s' → ∃ s, R = .ok s ∧ s'.far = s.far ∧ s'.cols = s.cols ∧ s'.used = s.used ∧ s'.cl = s.cl ∧ s'.pts ≤ 4000 ∧ acc' ≠ []) := by
  have hb := h.rs.base.lt256
  have hblt : b < w.heap.size := Blk.lt h.pr
  obtain ⟨len, hlen⟩ : ∃ n, acc.length = n := ⟨_, rfl⟩
  have hl4 := h.len
  have hkd := h.kd3
  have hpr := h.pr
  rw [hlen] at hl4 hpr
  obtain ⟨N, hN⟩ : ∃ N, run (DP.num x.bs (DP.runRule kd len (ptsOf R))) R = N := ⟨_, rfl⟩
  obtain ⟨z, hz⟩ : ∃ z, valOf N = z := ⟨_, rfl⟩
  obtain ⟨R1, hR1⟩ : ∃ R1, rest N = R1 := ⟨_, rfl⟩
  have kn : Hid (Calls Tryz.prog 56 #[.pointer (some ⟨q, 0, none⟩), .func (.func 119) #[.pointer (some ⟨b, 0, none⟩)] #[]] w fun e w' => e = .returned (.int .u64 z) ∧ Rs x q w' R1 ∧ Mk q w w') := by
    have := rnum_any x q R (DP.runRule kd len (ptsOf R)) 119 #[.pointer (some ⟨b, 0, none⟩)] #[] w h.rs (fun s e => by subst e; exact rule_run x q b kd len l ad cap s w h.rs hpr hl4 hkd) (r13 _ _ _)
    rw [hN, hz, hR1] at this
    exact this
  -- what the number is
  have hzf : z < 18446744073709551616 ∧ z / 4 ≤ 400 ∧ ((R1 = .ok (match N with | .ok v => v.2 | .error _ => DP.st0) ∧ 1 ≤ z / 4 ∧ 1 ≤ z % 4 ∧ len + z / 4 ≤ 400 ∧ ∃ s k, R = .ok s ∧ R1 = .ok { s with at' := s.at' + k } ∧ s.pts + z % 4 * (z / 4) ≤ 4000) ∨ ∃ e, R1 = .error e ∧ z = 0) := by
    cases N with
    | error e =>
      cases hz; cases hR1
      exact ⟨by show 0 < _; omega, by show 0 / 4 ≤ _; omega, .inr ⟨e, rfl, rfl⟩⟩
    | ok v =>
      obtain ⟨n, s1⟩ := v
      cases hz; cases hR1
      cases R with
      | error e => cases hN
      | ok s =>
        obtain ⟨f1, f2, k, f3, -⟩ := num_facts hN hb
        unfold DP.runRule at f2
        split at f2
        · cases f2
        rename_i g1
        split at f2
        · cases f2
        rename_i g2
        split at f2
        · cases f2
        rename_i g3
        refine ⟨f1, by show n / 4 ≤ _; omega, .inl ⟨rfl, by show 1 ≤ n / 4; omega, by show 1 ≤ n % 4; omega, by show len + n / 4 ≤ 400; omega, s, k, rfl, by show Except.ok s1 = _; rw [f3], ?_⟩⟩
        show s.pts + n % 4 * (n / 4) ≤ 4000
        simp only [ptsOf] at g3
        omega
  obtain ⟨hz1, hz2, hz3⟩ := hzf
  have h3 := low2_u64 z hz1
  obtain ⟨k, hk⟩ : ∃ k, z % 4 = k := ⟨_, rfl⟩
  obtain ⟨d, hd⟩ : ∃ d, z / 4 = d := ⟨_, rfl⟩
  have hd' : (z : Int) / 4 = (d : Int) := by omega
  rw [hk] at h3 hz3
  rw [hd] at hz2 hz3
  have hk3 : k ≤ 3 := by omega
  obtain ⟨RL, hRL⟩ : ∃ RL, run (DP.segs x.bs k d [] l) R1 = RL := ⟨_, rfl⟩
  obtain ⟨R2, hR2⟩ : ∃ R2, rest RL = R2 := ⟨_, rfl⟩
  have hrch1 : ∀ s, R1 = .ok s → IC.reach s.far l = true := fun s e => by
    rcases hz3 with ⟨-, -, -, -, s0, k0, e0, e1, -⟩ | ⟨e', e1, -⟩
    · rw [e1] at e; cases e; exact h.rch s0 e0
    · rw [e1] at e; cases e
  have hp1 : ∀ s, R1 = .ok s → s.pts + k * d ≤ 4001 := fun s e => by
    rcases hz3 with ⟨-, -, -, -, s0, k0, e0, e1, e2⟩ | ⟨e', e1, -⟩
    · rw [e1] at e; cases e; show s0.pts + _ ≤ _; omega
    · rw [e1] at e; cases e
  have kl : Hid (∀ W, Rs x q W R1 → Pr W b q k l (.slice ad len cap) → Calls Tryz.prog 120 #[.pointer (some ⟨q, 0, none⟩), .int .u64 d, .func (.func 121) #[.pointer (some ⟨b, 0, none⟩)] #[]] W fun e w' => ∃ (g : List IC.Seg) (l' : IC.Pt) (ad2 : Option Addr) (cap2 : Nat), e = .returned (.slice ad2 g.length cap2) ∧ g.length ≤ d ∧ (g = [] → ad2 = none ∧ cap2 = 0) ∧ (∀ e', R2 = .error e' → g = []) ∧ Own w' W.heap.size 103 7 IC.Seg.cells ad2 cap2 g ∧ PtIn64 l' ∧ (∀ v, RL = .ok v → v.1 = (g, l')) ∧ Rs x q w' R2 ∧ Pr w' b q k l' (.slice ad len cap) ∧ Mk2 q b W w') := fun W hW hP => by
    have := dsegs_any x q b k d R1 l (.slice ad len cap) W hW hP hqb hk3 hz2 h.inn hrch1 hp1
    rw [hRL, hR2] at this
    exact this
  have HEQ : Hid (∀ (g : List IC.Seg) (l' : IC.Pt), (∀ v, RL = .ok v → v.1 = (g, l')) → ∀ m, run (DP.runs x.bs (m + 1) kd acc l) R = run (DP.runs x.bs m k (acc ++ g) l') R2) := fun g l' hv m => by
    cases R with
    | error e => cases hN; cases hR1; cases hRL; cases hR2; rfl
    | ok s =>
      show run (DP.andThen (DP.num x.bs (DP.runRule kd acc.length s.pts)) fun y => DP.andThen (DP.segs x.bs (y % 4) (y / 4) [] l) fun r => DP.runs x.bs m (y % 4) (acc ++ r.1) r.2) (.ok s) = _
      rw [hlen]
      have hN' : run (DP.num x.bs (DP.runRule kd len s.pts)) (.ok s) = N := hN
      rw [run_then _ _ _ z (fun v e => by rw [hN'] at e; rw [← hz]; exact valOf_ok v e), hN', hR1, hk, hd, run_then _ _ _ (g, l') (fun v e => by rw [hRL] at e; exact hv v e), hRL, hR2]
  have HKP : Hid (∀ s', R2 = .ok s' → ∃ s, R = .ok s ∧ s'.far = s.far ∧ s'.cols = s.cols ∧ s'.used = s.used ∧ s'.cl = s.cl ∧ s'.pts ≤ 4000) := fun s' e => by
    rcases hz3 with ⟨-, -, -, -, s0, k0, e0, e1, e2⟩ | ⟨e', e1, -⟩
    · obtain ⟨s1, m, e3, e4⟩ := segs_keep hb d [] l R1 s' (by rw [hRL, hR2]; exact e)
      rw [e1] at e3
      cases e3
      rw [e4]
      exact ⟨s0, e0, rfl, rfl, rfl, rfl, e2⟩
    · rw [e1] at hRL
      cases hRL; cases hR2; cases e
  have HRC : Hid (∀ (g : List IC.Seg) (l' : IC.Pt), (∀ v, RL = .ok v → v.1 = (g, l')) → ∀ s, R2 = .ok s → IC.reach s.far l' = true) := fun g l' hv s e => by
    cases hq2 : RL with
    | error e' => rw [hq2] at hR2; cases hR2; cases e
    | ok v =>
      have := segs_reach hb d [] l R1 v hrch1 (hRL.trans hq2)
      rw [hq2] at hR2
      cases hR2; cases e
      rw [hv v hq2] at this
      exact this
  have HGL : Hid (∀ (g : List IC.Seg) (l' : IC.Pt), (∀ v, RL = .ok v → v.1 = (g, l')) → ∀ s, R2 = .ok s → g.length = d ∧ 1 ≤ d ∧ len + d ≤ 400) := fun g l' hv s e => by
    cases hq2 : RL with
    | error e' => rw [hq2] at hR2; cases hR2; cases e
    | ok v =>
      have := segs_len d [] l R1 v (hRL.trans hq2)
      rw [hv v hq2] at this
      rcases hz3 with ⟨-, a1, a2, a3, -⟩ | ⟨e', e1, -⟩
      · exact ⟨by simpa using this, a1, a3⟩
      · rw [e1] at hRL; rw [← hRL] at hq2; cases hq2
  have b0 : w.cell? ⟨b, 0, none⟩ = some (.pointer (some ⟨q, 0, none⟩)) := Blk.cell h.pr 0
  have HS := hid'' h
  have HPR := hid'' hpr
  have HLEN := hid'' hlen
  have hq := h.rs.lt
  clear hz3 hrch1 hp1 hN hz hR1 hRL hR2 hk hd hb hlen hpr h
  cases R2 with
  | error er =>
    go_enter Tryz.func112, Tryz.ntmps112
    go_upto_region 2 with (first
      | (go_at_call 56; refine kn.out.mono ?_; rintro e w1 ⟨rfl, h1⟩
         have H1 := hid'' h1
         clear h1
         have P1 : Pr w1 b q kd l (.slice ad len cap) := Blk.mk HPR.out H1.out.2 (by omega)
         have lt1 := Blk.lt P1
         have p1 : w1.cell? ⟨b, 1, none⟩ = some (.int .i64 kd) := Blk.cell P1 1
         have f1 := Blk.frozen P1 1))
    obtain ⟨W2, hW2⟩ : ∃ W2, w1.setCell ⟨b, 1, none⟩ (.int .i64 k) = W2 := ⟨_, rfl⟩
    have S2 : Hid (Rs x q W2 R1) := by rw [← hW2]; exact H1.out.1.far (p := ⟨b, 1, none⟩) hqb P1 (by decide) (by decide) _
    have P2 : Hid (Pr W2 b q k l (.slice ad len cap)) := by rw [← hW2]; exact Blk.set (j := 1) P1 _
    have O2 : Hid (Own W2 (b + 1) 103 7 IC.Seg.cells ad cap acc) := by rw [← hW2]; exact (HS.out.own.mk H1.out.2 (by omega)).setLow (p := ⟨b, 1, none⟩) (by show b < b + 1; omega) _
    have L2 : Hid (Lo q b w W2) := by rw [← hW2]; exact (Lo.of (b := b) H1.out.2 (Nat.le_of_lt hblt)).set (p := ⟨b, 1, none⟩) (.inl (Nat.le_refl b)) _
    have lt2 : b < W2.heap.size := Blk.lt P2.out
    have b0 : W2.cell? ⟨b, 0, none⟩ = some (.pointer (some ⟨q, 0, none⟩)) := Blk.cell P2.out 0
    have b4 : W2.cell? ⟨b, 4, none⟩ = some (.slice ad len cap) := Blk.cell P2.out 4
    rw [hW2]
    clear hW2 P1 p1 f1 H1
    go_region_law (first
      | (go_simp; go_at_call 120; refine (kl.out _ (by first | exact S2.out.drew | exact S2.out) (by first | exact Blk.drew P2.out | exact P2.out)).mono ?_; rintro e w3 ⟨g, l', ad2, cap2, rfl, hgd, hnil, herr, hown2, hi', hv, hr3, hp3, hm3⟩
         have HI3 := hid'' hi'
         have HV3 := hid'' hv
         have HR3 := hid'' hr3
         have HP3 := hid'' hp3
         have HM3 : Hid (Mk2 q b W2 w3) := ⟨hm3.os, hm3.tape, hm3.output, hm3.size, hm3.block⟩
         have O3 : Hid (Own w3 (b + 1) 103 7 IC.Seg.cells ad cap acc) := O2.out.mk2 HM3.out (by omega) (by omega)
         have lt3 := Blk.lt hp3
         have c4 : w3.cell? ⟨b, 4, none⟩ = some (.slice ad len cap) := Blk.cell hp3 4
         have f4 := Blk.frozen hp3 4
         have hg0 := herr er rfl
         subst hg0
         obtain ⟨rfl, rfl⟩ := hnil rfl
         simp only [List.length_nil]
         have O3r : Hid (w3.ownsRow (b + 1) 103 7 (.slice ad len cap) len (acc.flatMap IC.Seg.cells)) := by
           have := O3.out
           unfold Own at this
           rw [HLEN.out] at this
           exact this
         clear hi' hv hr3 hp3 hm3 hown2 hgd hnil herr)
      | (refine step_none rfl (.tmp 20) (.tmp 29) 70 rfl (b + 1) 103 _ 7 56 Tryz.underlying70 infoSeg (.slice ad len cap) len (acc.flatMap IC.Seg.cells) (by simp [Act.eval]) O3r.out (by simp [Act.eval]) ?_))
    all_goals go_end0
    all_goals
      have HLE := HLEN.out
      refine ⟨rfl, k, acc ++ [], l', .error er, ad, cap, ⟨?_, ?_, ?_, ?_, hk3, HI3.out, fun s e => by cases e⟩, ?_, HEQ.out [] l' HV3.out, fun s' e => by cases e⟩
      · exact HR3.out.far (p := ⟨b, 4, none⟩) hqb HP3.out (by decide) (by decide) _
      · rw [List.append_nil, HLE]
        exact Blk.set (j := 4) HP3.out _
      · rw [List.append_nil]
        exact O3.out.setLow (p := ⟨b, 4, none⟩) (by show b < b + 1; omega) _
      · rw [List.append_nil, HLE]; omega
      · exact (L2.out.trans (Lo.of2 HM3.out (Nat.le_of_lt lt2))).set (p := ⟨b, 4, none⟩) (.inl (Nat.le_refl b)) _
  | ok s2 =>
    go_enter Tryz.func112, Tryz.ntmps112
    go_upto_region 2 with (first
      | (go_at_call 56; refine kn.out.mono ?_; rintro e w1 ⟨rfl, h1⟩
         have H1 := hid'' h1
         clear h1
         have P1 : Pr w1 b q kd l (.slice ad len cap) := Blk.mk HPR.out H1.out.2 (by omega)
         have lt1 := Blk.lt P1
         have p1 : w1.cell? ⟨b, 1, none⟩ = some (.int .i64 kd) := Blk.cell P1 1
         have f1 := Blk.frozen P1 1))
    obtain ⟨W2, hW2⟩ : ∃ W2, w1.setCell ⟨b, 1, none⟩ (.int .i64 k) = W2 := ⟨_, rfl⟩
    have S2 : Hid (Rs x q W2 R1) := by rw [← hW2]; exact H1.out.1.far (p := ⟨b, 1, none⟩) hqb P1 (by decide) (by decide) _
    have P2 : Hid (Pr W2 b q k l (.slice ad len cap)) := by rw [← hW2]; exact Blk.set (j := 1) P1 _
    have O2 : Hid (Own W2 (b + 1) 103 7 IC.Seg.cells ad cap acc) := by rw [← hW2]; exact (HS.out.own.mk H1.out.2 (by omega)).setLow (p := ⟨b, 1, none⟩) (by show b < b + 1; omega) _
    have L2 : Hid (Lo q b w W2) := by rw [← hW2]; exact (Lo.of (b := b) H1.out.2 (Nat.le_of_lt hblt)).set (p := ⟨b, 1, none⟩) (.inl (Nat.le_refl b)) _
    have lt2 : b < W2.heap.size := Blk.lt P2.out
    have b0 : W2.cell? ⟨b, 0, none⟩ = some (.pointer (some ⟨q, 0, none⟩)) := Blk.cell P2.out 0
    have b4 : W2.cell? ⟨b, 4, none⟩ = some (.slice ad len cap) := Blk.cell P2.out 4
    rw [hW2]
    clear hW2 P1 p1 f1 H1
    go_region_law (first
      | (go_simp; go_at_call 120; refine (kl.out _ (by first | exact S2.out.drew | exact S2.out) (by first | exact Blk.drew P2.out | exact P2.out)).mono ?_; rintro e w3 ⟨g, l', ad2, cap2, rfl, hgd, hnil, herr, hown2, hi', hv, hr3, hp3, hm3⟩
         have HI3 := hid'' hi'
         have HV3 := hid'' hv
         have HR3 := hid'' hr3
         have HP3 := hid'' hp3
         have HM3 : Hid (Mk2 q b W2 w3) := ⟨hm3.os, hm3.tape, hm3.output, hm3.size, hm3.block⟩
         have O3 : Hid (Own w3 (b + 1) 103 7 IC.Seg.cells ad cap acc) := O2.out.mk2 HM3.out (by omega) (by omega)
         have lt3 := Blk.lt hp3
         have c4 : w3.cell? ⟨b, 4, none⟩ = some (.slice ad len cap) := Blk.cell hp3 4
         have f4 := Blk.frozen hp3 4
         obtain ⟨hgl, hd1, hld⟩ := HGL.out g l' HV3.out s2 rfl
         have HO2 := hid'' hown2
         have HGl := hid'' hgl
         rw [hgl]
         clear hi' hv hr3 hp3 hm3 hown2 hgd hnil herr hgl)
      | (refine step_join (ad := ad) (cap := cap) rfl (.tmp 20) (.tmp 29) 70 rfl (b + 1) 103 _ 7 56 Tryz.underlying70 infoSeg rfl (by decide) IC.Seg.cells dseg_len acc g len d HLEN.out HGl.out (by omega) (by simp [Act.eval]) O3.out (ad2 := ad2) (cap2 := cap2) (by simp [Act.eval]) HO2.out (fun y _ => seg_one y) (by omega) (by omega) (by omega) ?_
         intro ad' cap' w4 hown' hg'
         have HO4 := hid'' hown'
         have HG4 := hid'' hg'
         have P4 : Blk w4 b 163 _ := Blk.grown HP3.out hg' (fun a e => by have := (O3.out.lt a e).1; omega)
         have lt4 := P4.lt
         have c44 : w4.cell? ⟨b, 4, none⟩ = some (.slice ad len cap) := P4.cell 4
         have f44 := P4.frozen 4
         clear hown' hg'))
    all_goals go_end0
    all_goals
      have hla : (acc ++ g).length = len + d := by rw [List.length_append, HLEN.out, HGl.out]
      refine ⟨rfl, k, acc ++ g, l', .ok s2, ad', cap', ⟨?_, ?_, ?_, ?_, hk3, HI3.out, HRC.out g l' HV3.out⟩, ?_, HEQ.out g l' HV3.out, fun s' e => ?_⟩
      · exact (HR3.out.grown O3.out HG4.out (by omega) (by decide) (by decide)).far (p := ⟨b, 4, none⟩) hqb P4 (by decide) (by decide) _
      · rw [hla]
        exact P4.set (j := 4) _
      · exact HO4.out.setLow (p := ⟨b, 4, none⟩) (by show b < b + 1; omega) _
      · rw [hla]; exact hld
      · exact ((L2.out.trans (Lo.of2 HM3.out (Nat.le_of_lt lt2))).grown HG4.out (fun a e => by have := (O3.out.lt a e).1; omega) (Nat.le_of_lt lt3)).set (p := ⟨b, 4, none⟩) (.inl (Nat.le_refl b)) _
      · obtain ⟨s, a1, a2, a3, a4, a5, a6⟩ := HKP.out s' e
        refine ⟨s, a1, a2, a3, a4, a5, a6, fun h => ?_⟩
        have := congrArg List.length h
        rw [hla] at this
        simp at this
        omega

end Go.Proofs.YtcnlkdoifogkbaaGreatDoor

/-
  A reader reads a path: walked over the program.
-/
namespace Go.Proofs.YtcnlkdoifogkbaaGreatDoor
open Go.RowKit

def clOf : Except DP.Bad DP.St → Bool
  | .ok s => s.cl
  | .error _ => false

theorem Row.mkq {w w' : World} {q : Nat} {a : Array Value} {t : TypeId} {size n : Nat} {v : Value} {xs : List Value} (h : Row w t size v n xs) (hq : Blk w q 84 a) (hm : Mk q w w') (ht : t ≠ 84) : Row w' t size v n xs := by
  refine ⟨h.1, ?_⟩
  rcases h.2 with h | ⟨g, o, cap, h1, h2, h3, h4, ⟨cur, h5⟩, h6⟩
  · exact .inl h
  · have hgq : g ≠ q := fun e => by unfold Blk at hq; rw [← e, h5] at hq; cases hq; exact ht rfl
    have e : w'.heap[g]? = w.heap[g]? := hm.block g h4 (fun e => hgq (by cases e; rfl))
    exact .inr ⟨g, o, cap, h1, h2, h3, Nat.lt_of_lt_of_le h4 hm.size, ⟨cur, e.trans h5⟩, fun j u hj => (World.cell?_of_block (a := ⟨g, o + j, none⟩) e).trans (h6 j u hj)⟩

theorem Rs.blk {x : Src} {q : Nat} {w : World} {R : Except DP.Bad DP.St} (h : Rs x q w R) : ∃ a, Blk w q 84 a := by
  cases R with
  | ok s => exact ⟨_, (show Rd x q w s from h).blk⟩
  | error e => obtain ⟨_, ⟨_, _, _, _, _, _, _, _, _, _, _, _, h, _⟩, _⟩ := h; exact ⟨_, h⟩

theorem PathOk.mkq {w w' : World} {x : Src} {q : Nat} {R : Except DP.Bad DP.St} {p : IC.Path} (h : PathOk w p) (hq : Rs x q w R) (hm : Mk q w w') : PathOk w' p := by
  obtain ⟨a, hq⟩ := hq.blk
  exact Row.mkq h hq hm (by decide)
theorem CmdOk.mkq {w w' : World} {x : Src} {q : Nat} {R : Except DP.Bad DP.St} {c : IC.Cmd} (h : CmdOk w c) (hq : Rs x q w R) (hm : Mk q w w') : CmdOk w' c := by
  obtain ⟨a, hb⟩ := hq.blk
  exact ⟨Row.mkq h.1 hb hm (by decide), fun p hp => (h.2 p hp).mkq hq hm⟩

/-- A list stays, where a store goes elsewhere. -/
theorem Row.farT {w : World} {t t' : TypeId} {size n : Nat} {v : Value} {xs : List Value} {a : Array Value} (h : Row w t size v n xs) {p : Addr} (hb : Blk w p.block t' a) (ht : t ≠ t') (u : Value) : Row (w.setCell p u) t size v n xs := by
  refine ⟨h.1, ?_⟩
  rcases h.2 with h | ⟨g, o, cap, h1, h2, h3, h4, ⟨cur, h5⟩, h6⟩
  · exact .inl h
  · have hgp : g ≠ p.block := fun e => by unfold Blk at hb; rw [← e, h5] at hb; cases hb; exact ht rfl
    have e : (w.setCell p u).heap[g]? = w.heap[g]? := Below.heap_setCell _ _ _ _ hgp
    exact .inr ⟨g, o, cap, h1, h2, h3, by simpa using h4, ⟨cur, e.trans h5⟩, fun j x hj => (World.cell?_of_block (a := ⟨g, o + j, none⟩) e).trans (h6 j x hj)⟩

theorem Blk.lo {w w' : World} {g q b : Nat} {t : TypeId} {a : Array Value} (h : Blk w g t a) (hl : Lo q b w w') (h1 : g < b) (h2 : g ≠ q) : Blk w' g t a := (hl.block g h1 h2).trans h

/-- What stands between two runs of a path. -/
structure PathSt2 (x : Src) (q b B0 B1 z : Nat) (W : World) (p : IC.Pt) (R3 : Except DP.Bad DP.St) (j : Nat) (kd : Nat) (acc : List IC.Seg) (l : IC.Pt) (R' : Except DP.Bad DP.St) (ad : Option Addr) (cap : Nat) (wr : World) : Prop where
  st : RunSt x q b kd acc l R' ad cap wr
  lo : Lo q b W wr
  eq : run (DP.runs x.bs (z / 2) 0 [] p) R3 = run (DP.runs x.bs (z / 2 - j) kd acc l) R'
  good : 0 < j → ∃ s, R' = .ok s
  keep : ∀ s', R' = .ok s' → ∃ s, R3 = .ok s ∧ s'.far = s.far ∧ s'.cols = s.cols ∧ s'.used = s.used ∧ s'.cl = s.cl ∧ (0 < j → s'.pts ≤ 4000)

theorem runs_zero (bs : List Nat) (kd : Nat) (acc : List IC.Seg) (l : IC.Pt) : DP.runs bs 0 kd acc l = DP.ret acc := rfl

theorem run_addPts (bs : List Nat) (n : Nat) (p : IC.Pt) (c : Bool) (R2 : Except DP.Bad DP.St) : run (fun s1 => DP.andThen (DP.runs bs n 0 [] p) (fun l => DP.ret (⟨p, DP.nov, l, c⟩ : IC.Path)) { s1 with pts := s1.pts + 1 }) R2 = run (DP.andThen (DP.runs bs n 0 [] p) (fun l => DP.ret (⟨p, DP.nov, l, c⟩ : IC.Path))) (addPts 1 R2) := by
  cases R2 <;> rfl

set_option maxRecDepth 20000 in
set_option maxHeartbeats 2000000 in
theorem dpath_any (x : Src) (q : Nat) (R : Except DP.Bad DP.St) (w : World) (h : Rs x q w R) (h4 : ∀ s, R = .ok s → s.pts ≤ 4000) :
    Calls Tryz.prog 90 #[.pointer (some ⟨q, 0, none⟩)] w fun e w' => ∃ P : IC.Path, e = .returned (.agg P.cells.toArray) ∧ PathOk w' P ∧ (∀ v, run (DP.path x.bs) R = .ok v → v.1 = { P with vs := DP.nov }) ∧ Rs x q w' (rest (run (DP.path x.bs) R)) ∧ Mk q w w' ∧ (∀ s', rest (run (DP.path x.bs) R) = .ok s' → ∃ s, R = .ok s ∧ s'.far = s.far ∧ s'.cols = s.cols ∧ s'.used = s.used ∧ s'.cl = s.cl ∧ s'.pts ≤ 4000) := by
  have hb := h.base.lt256
  have hq := h.lt
  obtain ⟨N, hN⟩ : ∃ N, run (DP.num x.bs (DP.pathRule (clOf R))) R = N := ⟨_, rfl⟩
  obtain ⟨z, hz⟩ : ∃ z, valOf N = z := ⟨_, rfl⟩
  obtain ⟨R1, hR1⟩ : ∃ R1, rest N = R1 := ⟨_, rfl⟩
  obtain ⟨RQ, hRQ⟩ : ∃ RQ, run (DP.point x.bs ⟨0, 0⟩) R1 = RQ := ⟨_, rfl⟩
  obtain ⟨R2, hR2⟩ : ∃ R2, rest RQ = R2 := ⟨_, rfl⟩
  have kn : Hid (∀ W, Below w.heap.size w W → Calls Tryz.prog 56 #[.pointer (some ⟨q, 0, none⟩), .func (.func 111) #[.pointer (some ⟨q, 0, none⟩)] #[]] W fun e w' => e = .returned (.int .u64 z) ∧ Rs x q w' R1 ∧ Mk q W w') := fun W hW => by
    have := rnum_any x q R (DP.pathRule (clOf R)) 111 #[.pointer (some ⟨q, 0, none⟩)] #[] W (h.below hW) (fun s e => by subst e; exact rule_path x q s W (Rs.below h hW)) (h13' _)
    rw [hN, hz, hR1] at this
    exact this
  have kp : Hid (∀ W, Rs x q W R1 → Calls Tryz.prog 109 #[.pointer (some ⟨q, 0, none⟩), .agg #[.int .i64 0, .int .i64 0]] W fun e w' => ∃ p : IC.Pt, e = .returned (.agg #[.int .i64 p.x, .int .i64 p.y]) ∧ PtIn64 p ∧ (∀ v, RQ = .ok v → v.1 = p) ∧ Rs x q w' R2 ∧ Mk q W w') := fun W hW => by
    have := dpoint_any x q R1 ⟨0, 0⟩ W hW zero_in (fun s e => zero_reach s.far (hW.farIn s e).1)
    rw [hRQ, hR2] at this
    exact this
  have hzf : z < 18446744073709551616 ∧ ((∃ e, R1 = .error e ∧ z = 0) ∨ (1 ≤ z / 2 ∧ ∃ s k, R = .ok s ∧ R1 = .ok { s with at' := s.at' + k })) := by
    cases N with
    | error e => cases hz; cases hR1; exact ⟨by show 0 < _; omega, .inl ⟨e, rfl, rfl⟩⟩
    | ok v =>
      obtain ⟨n, s1⟩ := v
      cases hz; cases hR1
      cases R with
      | error e => cases hN
      | ok s =>
        obtain ⟨f1, f2, k, f3, -⟩ := num_facts hN hb
        unfold DP.pathRule at f2
        split at f2
        · cases f2
        rename_i g1
        exact ⟨f1, .inr ⟨by show 1 ≤ n / 2; omega, s, k, rfl, by show Except.ok s1 = _; rw [f3]⟩⟩
  obtain ⟨hz1, hz2⟩ := hzf
  have HK2 : Hid (∀ s2, R2 = .ok s2 → ∃ s, R = .ok s ∧ s2.far = s.far ∧ s2.cols = s.cols ∧ s2.used = s.used ∧ s2.cl = s.cl ∧ s2.pts = s.pts) := fun s2 e => by
    obtain ⟨s1, k1, e1, e2⟩ := point_keep hb (by rw [hRQ, hR2]; exact e)
    rcases hz2 with ⟨e', e3, -⟩ | ⟨-, s0, k0, e3, e4⟩
    · rw [e3] at e1; cases e1
    · rw [e4] at e1; cases e1
      exact ⟨s0, e3, by rw [e2], by rw [e2], by rw [e2], by rw [e2], by rw [e2]⟩
  have HRC : Hid (∀ p, (∀ v, RQ = .ok v → v.1 = p) → ∀ s, R2 = .ok s → IC.reach s.far p = true) := fun p hv s e => by
    cases hq2 : RQ with
    | error e' => rw [hq2] at hR2; cases hR2; cases e
    | ok v =>
      have := point_reach hb (hRQ.trans hq2)
      rw [hq2] at hR2
      cases hR2; cases e
      rw [hv v hq2] at this
      exact this
  have HZ2 : Hid (∀ s2, R2 = .ok s2 → 1 ≤ z / 2) := fun s2 e => by
    obtain ⟨s1, k1, e1, e2⟩ := point_keep hb (by rw [hRQ, hR2]; exact e)
    rcases hz2 with ⟨e', e3, -⟩ | ⟨h1, -⟩
    · rw [e3] at e1; cases e1
    · exact h1
  have HEQ : Hid (∀ (p : IC.Pt), (∀ v, RQ = .ok v → v.1 = p) → run (DP.path x.bs) R = run (DP.andThen (DP.runs x.bs (z / 2) 0 [] p) (fun l => DP.ret (⟨p, DP.nov, l, decide (z % 2 = 1)⟩ : IC.Path))) (addPts 1 R2)) := fun p hv => by
    cases R with
    | error e => cases hN; cases hR1; cases hRQ; cases hR2; rfl
    | ok s =>
      show run (DP.andThen (DP.num x.bs (DP.pathRule s.cl)) (fun n => DP.andThen (DP.point x.bs ⟨0, 0⟩) fun p s1 => DP.andThen (DP.runs x.bs (n / 2) 0 [] p) (fun l => DP.ret (⟨p, DP.nov, l, decide (n % 2 = 1)⟩ : IC.Path)) { s1 with pts := s1.pts + 1 })) (.ok s) = _
      have hN' : run (DP.num x.bs (DP.pathRule s.cl)) (.ok s) = N := hN
      rw [run_then _ _ _ z (fun v e => by rw [hN'] at e; rw [← hz]; exact valOf_ok v e), hN', hR1, run_then _ _ _ p (fun v e => by rw [hRQ] at e; exact hv v e), hRQ, hR2]
      exact run_addPts x.bs (z / 2) p (decide (z % 2 = 1)) R2
  have kr : Hid (∀ (b kd : Nat) (acc : List IC.Seg) (l : IC.Pt) (R' : Except DP.Bad DP.St) (ad : Option Addr) (cap : Nat) (W : World), RunSt x q b kd acc l R' ad cap W → q < b → Calls Tryz.prog 112 #[.pointer (some ⟨b, 0, none⟩)] W fun e w' => e = .returned (.tuple #[]) ∧ ∃ (kd' : Nat) (acc' : List IC.Seg) (l' : IC.Pt) (R'' : Except DP.Bad DP.St) (ad' : Option Addr) (cap' : Nat), RunSt x q b kd' acc' l' R'' ad' cap' w' ∧ Lo q b W w' ∧ (∀ m, run (DP.runs x.bs (m + 1) kd acc l) R' = run (DP.runs x.bs m kd' acc' l') R'') ∧ (∀ s', R'' = .ok s' → ∃ s, R' = .ok s ∧ s'.far = s.far ∧ s'.cols = s.cols ∧ s'.used = s.used ∧ s'.cl = s.cl ∧ s'.pts ≤ 4000 ∧ acc' ≠ [])) := fun b kd acc l R' ad cap W h1 h2 => drun_any x q b kd acc l R' ad cap W h1 h2
  have h3 := low1_u64 z hz1
  obtain ⟨k, hk⟩ : ∃ k, z % 2 = k := ⟨_, rfl⟩
  obtain ⟨d, hd⟩ : ∃ d, z / 2 = d := ⟨_, rfl⟩
  have hd' : (z : Int) / 2 = (d : Int) := by omega
  have hdb : d < 9223372036854775808 := by omega
  rw [hk] at h3
  have HKD : Hid (z % 2 = k ∧ z / 2 = d) := ⟨hk, hd⟩
  have H4 := hid'' h4
  obtain ⟨RP, hRP⟩ : ∃ RP, run (DP.path x.bs) R = RP := ⟨_, rfl⟩
  rw [hRP] at HEQ
  rw [hRP]
  clear hRP hz2 hN hz hR1 hRQ hR2 hk hd hb h h4
  go_enter Tryz.func90, Tryz.ntmps90
  go_upto_region 3 with (first
    | (go_at_call 109; refine (kp.out _ H1.out.1).mono ?_; rintro e w2 ⟨⟨px, py⟩, rfl, hi2, hv2, h2⟩
       have HI2 := hid'' hi2
       have HV2 := hid'' hv2
       have H2 := hid'' h2
       clear hi2 hv2 h2
       have lt2 := H2.out.2.size
       have B2 := B1.mk H2.out.2 (by omega))
    | (go_at_call 56; refine (kn.out _ ((Below.refl _ _).alloc (Nat.le_refl _) _)).mono ?_; rintro e w1 ⟨rfl, h1⟩
       have H1 := hid'' h1
       clear h1
       have lt1 : w.heap.size < w1.heap.size := by have := H1.out.2.size; simp at this; omega
       have B1 : Blk w1 w.heap.size 72 #[.int .i64 0, .int .i64 0, .slice none 0 0, .bool false] := Blk.mk (blk_new w _ _) H1.out.2 (by omega)))
  obtain ⟨W3, hW3⟩ : ∃ W3, w2.alloc (.cells #[.int .i64 px, .int .i64 py] 57) = W3 := ⟨_, rfl⟩
  have S3 : Hid (Rs x q W3 R2) := by rw [← hW3]; exact H2.out.1.below ((Below.refl _ _).alloc (Nat.le_refl _) _)
  have B3 : Blk W3 w.heap.size 72 #[.int .i64 0, .int .i64 0, .slice none 0 0, .bool false] := by rw [← hW3]; exact B2.alloc _
  have C3 : Blk W3 w2.heap.size 57 #[.int .i64 px, .int .i64 py] := by rw [← hW3]; exact blk_new w2 _ _
  have M3 : Hid (Mk q w W3) := by rw [← hW3]; exact (((Mk.below ((Below.refl w.heap.size w).alloc (Nat.le_refl _) (Obj.cells #[.int .i64 0, .int .i64 0, .slice none 0 0, .bool false] 72))).trans H1.out.2).trans H2.out.2).alloc _
  have lt3 : W3.heap.size = w2.heap.size + 1 := by rw [← hW3]; simp
  rw [hW3]
  clear hW3 B1 B2 H1 H2
  obtain ⟨f6, z6, c6, hz6⟩ := S3.out.ptsCell
  obtain ⟨y, hy⟩ : ∃ y, IntKind.i64.wrap (z6 + 1) = y := ⟨_, rfl⟩
  have d0 := C3.cell 0
  have d1 := C3.cell 1
  simp at d0 d1
  have hq3 := S3.out.lt
  have HY : Hid (∀ s, R2 = .ok s → y = ((s.pts + 1 : Nat) : Int) ∧ s.pts + 1 ≤ 4001) := fun s e => by
    have e1 := hz6 s e
    obtain ⟨s0, e2, -, -, -, -, e3⟩ := HK2.out s e
    have e4 := H4.out s0 e2
    refine ⟨?_, by omega⟩
    rw [← hy, e1, IntKind.wrap_i64]
    omega
  clear hz6
  go_upto_region 5 with fail
  obtain ⟨W5, hW5⟩ : ∃ W5, (W3.setCell ⟨q, 6, none⟩ (.int .i64 y)).alloc (.cells #[.pointer (some ⟨q, 0, none⟩), .int .i64 0, .int .i64 px, .int .i64 py, .slice none 0 0] 163) = W5 := ⟨_, rfl⟩
  obtain ⟨b, hb⟩ : ∃ b, w2.heap.size + 1 = b := ⟨_, rfl⟩
  have S5 : Hid (Rs x q W5 (addPts 1 R2)) := by rw [← hW5]; exact (S3.out.addPts 1 y HY.out).below ((Below.refl _ _).alloc (Nat.le_refl _) _)
  have BW : Blk W5 w.heap.size 72 #[.int .i64 0, .int .i64 0, .slice none 0 0, .bool false] := by rw [← hW5]; exact (B3.far (p := ⟨q, 6, none⟩) (by show w.heap.size ≠ q; omega) _).alloc _
  have CW : Blk W5 w2.heap.size 57 #[.int .i64 px, .int .i64 py] := by rw [← hW5]; exact (C3.far (p := ⟨q, 6, none⟩) (by show w2.heap.size ≠ q; omega) _).alloc _
  have PW : Pr W5 b q (0 : Nat) ⟨px, py⟩ (.slice none 0 0) := by
    rw [← hW5]
    have := blk_new (W3.setCell ⟨q, 6, none⟩ (.int .i64 y)) 163 #[.pointer (some ⟨q, 0, none⟩), .int .i64 0, .int .i64 px, .int .i64 py, .slice none 0 0]
    simp only [World.size_setCell] at this
    rw [lt3, hb] at this
    exact this
  have M5 : Hid (Mk q w W5) := by rw [← hW5]; exact (M3.out.trans (Mk.self 6 _)).alloc _
  have hqb : q < b := by omega
  have hwb : w.heap.size < b := by omega
  have hw2b : w2.heap.size < b := by omega
  rw [hW5, hb]
  have HS0 : Hid (PathSt2 x q b w.heap.size w2.heap.size z W5 ⟨px, py⟩ (addPts 1 R2) 0 0 [] ⟨px, py⟩ (addPts 1 R2) none 0 W5) := ⟨⟨S5.out, PW, own_nil _ _ _ _ _, by simp, by omega, HI2.out, fun s e => by
    cases hR : R2 with
    | error e' => rw [hR] at e; cases e
    | ok s2 =>
      have := HRC.out ⟨px, py⟩ HV2.out s2 hR
      rw [hR] at e
      cases e
      exact this⟩, Lo.refl _ _ _, rfl, fun h => absurd h (by omega), fun s' e => ⟨s', e, rfl, rfl, rfl, rfl, fun h => absurd h (by omega)⟩⟩
  clear hW5 PW S5 B3 C3 M3 S3 c6 f6 d0 d1 hb lt3
  go_wp2
  go_loopw [26] (fun i wr => ∃ (j kd : Nat) (acc : List IC.Seg) (l : IC.Pt) (R' : Except DP.Bad DP.St) (ad : Option Addr) (cap : Nat), j ≤ d ∧ i = .int .u64 j ∧ Hid (PathSt2 x q b w.heap.size w2.heap.size z W5 ⟨px, py⟩ (addPts 1 R2) j kd acc l R' ad cap wr)) (fun i _ => d - (intOf i).toNat)
  case atStart => exact ⟨0, 0, [], _, _, none, 0, by omega, rfl, HS0⟩
  case round =>
    obtain ⟨j, kd, acc, l, R', ad, cap, hj, rfl, HS⟩ := hrel
    by_cases hjd : j < d
    · go_upto_region 8 with (first
        | (go_at_call 112; refine (kr.out b kd acc l R' ad cap _ HS.out.st hqb).mono ?_; rintro e WF ⟨rfl, kdF, accF, lF, RF, adF, capF, hst, hlo, heq, hkp⟩
           have HST := hid'' hst
           have HLO : Hid (Lo q b W5 WF) := HS.out.lo.trans hlo
           have HEF := hid'' heq
           have HKF := hid'' hkp
           have hqF := hst.rs.lt
           clear hst hlo heq hkp))
      have HEF2 : Hid (run (DP.runs x.bs (z / 2) 0 [] ⟨px, py⟩) (addPts 1 R2) = run (DP.runs x.bs (d - (j + 1)) kdF accF lF) RF) := by
        have := HS.out.eq
        rw [HKD.out.2, show d - j = d - (j + 1) + 1 by omega, HEF.out] at this
        rw [HKD.out.2]
        exact this
      cases RF with
      | error eF =>
        obtain ⟨gE, cE⟩ := HST.out.rs.errCell'
        have hE : RP = .error eF := by
          rw [HEQ.out ⟨px, py⟩ HV2.out, run_then _ _ _ [] (fun v e => by rw [HEF2.out] at e; cases e), HEF2.out]
          rfl
        have HREST : Hid (rest RP = .error eF) := by rw [hE]; rfl
        have HVAL : Hid (∀ v, RP = .ok v → v.1 = (⟨⟨px, py⟩, DP.nov, accF, (k : Int) == 1⟩ : IC.Path)) := fun v e => by rw [hE] at e; cases e
        have HKEEP : Hid (∀ s', rest RP = .ok s' → ∃ s, R = .ok s ∧ s'.far = s.far ∧ s'.cols = s.cols ∧ s'.used = s.used ∧ s'.cl = s.cl ∧ s'.pts ≤ 4000) := fun s' e => by rw [hE] at e; cases e
        clear hE
        have X0 := BW.lo HLO.out (by omega) (by omega)
        have Y0 := CW.lo HLO.out (by omega) (by omega)
        have lx0 := X0.lt
        have ly0 := Y0.lt
        have lb := Blk.lt HST.out.pr
        have x0 := X0.cell 0
        have x1 := X0.cell 1
        have x2 := X0.cell 2
        have x3 := X0.cell 3
        have y0 := Y0.cell 0
        have y1 := Y0.cell 1
        have fx0 := X0.frozen 0
        have fx1 := X0.frozen 1
        have fx2 := X0.frozen 2
        have fx3 := X0.frozen 3
        obtain ⟨la, hla⟩ : ∃ n, accF.length = n := ⟨_, rfl⟩
        have s4 : WF.cell? ⟨b, 4, none⟩ = some (.slice adF la capF) := by rw [← hla]; exact Blk.cell HST.out.pr 4
        simp at x0 x1 x2 x3 y0 y1
        go_wp2
        go_region
        all_goals go_wp2
        all_goals
          refine bodyPost_ret (v := .agg #[.int .i64 px, .int .i64 py, .slice adF la capF, .bool ((k : Int) == 1)]) (by simp [results, Tryz.results90, go_sem, X0.got 0 (by simp) (.int .i64 px), (X0.set (j := 0) (.int .i64 px)).got 1 (by simp) (.int .i64 py), ((X0.set (j := 0) (.int .i64 px)).set (j := 1) (.int .i64 py)).got 2 (by simp) (.slice adF la capF), (((X0.set (j := 0) (.int .i64 px)).set (j := 1) (.int .i64 py)).set (j := 2) (.slice adF la capF)).got 3 (by simp) (.bool ((k : Int) == 1))]) rfl ⟨⟨⟨px, py⟩, .slice adF la capF, accF, (k : Int) == 1⟩, rfl, ?_, ?_, ?_, ?_, ?_⟩
          · have o := (Own.many HST.out.own)
            rw [hla] at o
            exact Row.below (Row.farT (p := ⟨w.heap.size, 3, none⟩) (t' := 72) (Row.farT (p := ⟨w.heap.size, 2, none⟩) (t' := 72) (Row.farT (p := ⟨w.heap.size, 1, none⟩) (t' := 72) (Row.farT (p := ⟨w.heap.size, 0, none⟩) (t' := 72) o X0 (by decide) (.int .i64 px)) (X0.set (j := 0) _) (by decide) (.int .i64 py)) ((X0.set (j := 0) _).set (j := 1) _) (by decide) (.slice adF la capF)) (((X0.set (j := 0) _).set (j := 1) _).set (j := 2) _) (by decide) (.bool ((k : Int) == 1))) (by first | exact (Below.refl _ _).drew | exact Below.refl _ _)
          · intro v hv
            exact HVAL.out v hv
          · rw [HREST.out]
            have r := (((HST.out.rs.far (p := ⟨w.heap.size, 0, none⟩) (by show q < w.heap.size; omega) X0 (by decide) (by decide) (.int .i64 px)).far (p := ⟨w.heap.size, 1, none⟩) (by show q < w.heap.size; omega) (X0.set (j := 0) _) (by decide) (by decide) (.int .i64 py)).far (p := ⟨w.heap.size, 2, none⟩) (by show q < w.heap.size; omega) ((X0.set (j := 0) _).set (j := 1) _) (by decide) (by decide) (.slice adF la capF)).far (p := ⟨w.heap.size, 3, none⟩) (by show q < w.heap.size; omega) (((X0.set (j := 0) _).set (j := 1) _).set (j := 2) _) (by decide) (by decide) (.bool ((k : Int) == 1))
            first | exact r.drew | exact r
          · have m := (((((Lo.hide M5.out HLO.out (by omega)).set (p := ⟨w.heap.size, 0, none⟩) (Nat.le_refl _) (.int .i64 px)).set (p := ⟨w.heap.size, 1, none⟩) (Nat.le_refl _) (.int .i64 py)).set (p := ⟨w.heap.size, 2, none⟩) (Nat.le_refl _) (.slice adF la capF)).set (p := ⟨w.heap.size, 3, none⟩) (Nat.le_refl _) (.bool ((k : Int) == 1)))
            first | exact m.drew | exact m
          · exact HKEEP.out
      | ok sF =>
        have cE : WF.cell? ⟨q, 2, none⟩ = some .nilIface := HST.out.rs.errCell
        go_wp2
        go_roundw
        case rel =>
          refine ⟨j + 1, kdF, accF, lF, .ok sF, adF, capF, by omega, by go_num, HST.out, HLO.out, by rw [HEF2.out, HKD.out.2], fun _ => ⟨sF, rfl⟩, fun s' e => ?_⟩
          obtain ⟨s1, e1, a1, a2, a3, a4, a5, -⟩ := HKF.out s' e
          obtain ⟨s0, e0, c1, c2, c3, c4, -⟩ := HS.out.keep s1 e1
          exact ⟨s0, e0, a1.trans c1, a2.trans c2, a3.trans c3, a4.trans c4, fun _ => a5⟩
        case measure => simp [intOf]; omega
    · obtain rfl : j = d := by omega
      · obtain ⟨accF, hA⟩ : ∃ a, a = acc := ⟨_, rfl⟩
        obtain ⟨adF, hB⟩ : ∃ a, a = ad := ⟨_, rfl⟩
        obtain ⟨capF, hC⟩ : ∃ a, a = cap := ⟨_, rfl⟩
        obtain ⟨WF, hD⟩ : ∃ a, a = wr := ⟨_, rfl⟩
        subst hA hB hC hD
        have HST := hid'' HS.out.st
        have HLO := hid'' HS.out.lo
        have hE : RP = run (DP.ret (⟨⟨px, py⟩, DP.nov, accF, decide (z % 2 = 1)⟩ : IC.Path)) R' := by
          have e := HS.out.eq
          rw [HKD.out.2, Nat.sub_self, runs_zero] at e
          rw [HEQ.out ⟨px, py⟩ HV2.out, HKD.out.2, run_then _ _ _ accF (fun v hv => by rw [e] at hv; exact (run_ret _ _).2 v hv), e, (run_ret accF R').1]
        have hbk : decide (z % 2 = 1) = ((k : Int) == 1) := by
          rw [HKD.out.1]
          rcases Nat.eq_zero_or_pos k with h | h
          · subst h; rfl
          · have : k = 1 := by have := HKD.out.1; omega
            subst this; rfl
        rw [hbk] at hE
        have HREST : Hid (rest RP = R') := by rw [hE]; exact (run_ret _ _).1
        have HVAL : Hid (∀ v, RP = .ok v → v.1 = (⟨⟨px, py⟩, DP.nov, accF, (k : Int) == 1⟩ : IC.Path)) := fun v e => by rw [hE] at e; exact (run_ret _ _).2 v e
        have HKEEP : Hid (∀ s', rest RP = .ok s' → ∃ s, R = .ok s ∧ s'.far = s.far ∧ s'.cols = s.cols ∧ s'.used = s.used ∧ s'.cl = s.cl ∧ s'.pts ≤ 4000) := fun s' e => by
          rw [HREST.out] at e
          obtain ⟨s3, e3, a1, a2, a3, a4, a5⟩ := HS.out.keep s' e
          cases hR : R2 with
          | error e' => rw [hR] at e3; cases e3
          | ok s2 =>
            have hd1 := HZ2.out s2 hR
            rw [HKD.out.2] at hd1
            rw [hR] at e3
            cases e3
            obtain ⟨s0, e0, c1, c2, c3, c4, -⟩ := HK2.out s2 hR
            exact ⟨s0, e0, a1.trans c1, a2.trans c2, a3.trans c3, a4.trans c4, a5 hd1⟩
        clear hE hbk
        have X0 := BW.lo HLO.out (by omega) (by omega)
        have Y0 := CW.lo HLO.out (by omega) (by omega)
        have lx0 := X0.lt
        have ly0 := Y0.lt
        have lb := Blk.lt HST.out.pr
        have x0 := X0.cell 0
        have x1 := X0.cell 1
        have x2 := X0.cell 2
        have x3 := X0.cell 3
        have y0 := Y0.cell 0
        have y1 := Y0.cell 1
        have fx0 := X0.frozen 0
        have fx1 := X0.frozen 1
        have fx2 := X0.frozen 2
        have fx3 := X0.frozen 3
        obtain ⟨la, hla⟩ : ∃ n, accF.length = n := ⟨_, rfl⟩
        have s4 : WF.cell? ⟨b, 4, none⟩ = some (.slice adF la capF) := by rw [← hla]; exact Blk.cell HST.out.pr 4
        simp at x0 x1 x2 x3 y0 y1
        go_wp2
        go_region
        all_goals go_wp2
        all_goals
          refine bodyPost_ret (v := .agg #[.int .i64 px, .int .i64 py, .slice adF la capF, .bool ((k : Int) == 1)]) (by simp [results, Tryz.results90, go_sem, X0.got 0 (by simp) (.int .i64 px), (X0.set (j := 0) (.int .i64 px)).got 1 (by simp) (.int .i64 py), ((X0.set (j := 0) (.int .i64 px)).set (j := 1) (.int .i64 py)).got 2 (by simp) (.slice adF la capF), (((X0.set (j := 0) (.int .i64 px)).set (j := 1) (.int .i64 py)).set (j := 2) (.slice adF la capF)).got 3 (by simp) (.bool ((k : Int) == 1))]) rfl ⟨⟨⟨px, py⟩, .slice adF la capF, accF, (k : Int) == 1⟩, rfl, ?_, ?_, ?_, ?_, ?_⟩
          · have o := (Own.many HST.out.own)
            rw [hla] at o
            exact Row.below (Row.farT (p := ⟨w.heap.size, 3, none⟩) (t' := 72) (Row.farT (p := ⟨w.heap.size, 2, none⟩) (t' := 72) (Row.farT (p := ⟨w.heap.size, 1, none⟩) (t' := 72) (Row.farT (p := ⟨w.heap.size, 0, none⟩) (t' := 72) o X0 (by decide) (.int .i64 px)) (X0.set (j := 0) _) (by decide) (.int .i64 py)) ((X0.set (j := 0) _).set (j := 1) _) (by decide) (.slice adF la capF)) (((X0.set (j := 0) _).set (j := 1) _).set (j := 2) _) (by decide) (.bool ((k : Int) == 1))) (by first | exact (Below.refl _ _).drew | exact Below.refl _ _)
          · intro v hv
            exact HVAL.out v hv
          · rw [HREST.out]
            have r := (((HST.out.rs.far (p := ⟨w.heap.size, 0, none⟩) (by show q < w.heap.size; omega) X0 (by decide) (by decide) (.int .i64 px)).far (p := ⟨w.heap.size, 1, none⟩) (by show q < w.heap.size; omega) (X0.set (j := 0) _) (by decide) (by decide) (.int .i64 py)).far (p := ⟨w.heap.size, 2, none⟩) (by show q < w.heap.size; omega) ((X0.set (j := 0) _).set (j := 1) _) (by decide) (by decide) (.slice adF la capF)).far (p := ⟨w.heap.size, 3, none⟩) (by show q < w.heap.size; omega) (((X0.set (j := 0) _).set (j := 1) _).set (j := 2) _) (by decide) (by decide) (.bool ((k : Int) == 1))
            first | exact r.drew | exact r
          · have m := (((((Lo.hide M5.out HLO.out (by omega)).set (p := ⟨w.heap.size, 0, none⟩) (Nat.le_refl _) (.int .i64 px)).set (p := ⟨w.heap.size, 1, none⟩) (Nat.le_refl _) (.int .i64 py)).set (p := ⟨w.heap.size, 2, none⟩) (Nat.le_refl _) (.slice adF la capF)).set (p := ⟨w.heap.size, 3, none⟩) (Nat.le_refl _) (.bool ((k : Int) == 1)))
            first | exact m.drew | exact m
          · exact HKEEP.out

end Go.Proofs.YtcnlkdoifogkbaaGreatDoor

/-
  A reader reads a list of paths: walked over the program.
-/
namespace Go.Proofs.YtcnlkdoifogkbaaGreatDoor
open Go.RowKit

/-- A list stays, where another kind's list grows. -/
theorem Row.grownOwn {w w' : World} {t t2 : TypeId} {size n size2 : Nat} {v : Value} {xs : List Value} {α : Type} {B : Nat} {f : α → List Value} {ad : Option Addr} {cap : Nat} {l : List α} (h : Row w t size v n xs) (hown : Own w B t2 size2 f ad cap l) (hg : w.grownBy w' (ad.map (·.block))) (ht : t ≠ t2) : Row w' t size v n xs := by
  refine ⟨h.1, ?_⟩
  rcases h.2 with h | ⟨g, o, cp, h1, h2, h3, h4, ⟨cur, h5⟩, h6⟩
  · exact .inl h
  · have e : w'.heap[g]? = w.heap[g]? := hg.block g h4 (fun e => by
      cases ad with
      | none => simp at e
      | some a =>
        rcases hown.2 with ⟨e1, _⟩ | ⟨g2, c2, cur2, e1, _, e3, _⟩
        · cases e1
        · cases e1
          simp at e
          rw [e] at h5
          rw [h5] at e3
          simp at e3
          exact ht e3.2)
    exact .inr ⟨g, o, cp, h1, h2, h3, Nat.lt_of_lt_of_le h4 hg.size, ⟨cur, e.trans h5⟩, fun j u hj => (World.cell?_of_block (a := ⟨g, o + j, none⟩) e).trans (h6 j u hj)⟩

/-- What stands while a list of paths is read. -/
structure PathsSt (x : Src) (q n : Nat) (w : World) (R : Except DP.Bad DP.St) (j : Nat) (acc : List IC.Path) (R' : Except DP.Bad DP.St) (ad : Option Addr) (cap : Nat) (wr : World) : Prop where
  len : acc.length = j
  eq : run (DP.list (DP.path x.bs) n []) R = run (DP.list (DP.path x.bs) (n - j) (acc.map DP.barePath)) R'
  rs : Rs x q wr R'
  keep : ∀ s', R' = .ok s' → ∃ s, R = .ok s ∧ s'.far = s.far ∧ s'.cols = s.cols ∧ s'.used = s.used ∧ s'.cl = s.cl ∧ s'.pts ≤ 4000
  own : Own wr w.heap.size 72 4 IC.Path.cells ad cap acc
  oks : ∀ p ∈ acc, PathOk wr p
  kept : Mk q w wr

theorem PathsSt.next {x : Src} {q n : Nat} {w : World} {R : Except DP.Bad DP.St} {j : Nat} {acc : List IC.Path} {R' : Except DP.Bad DP.St} {ad : Option Addr} {cap : Nat} {wr : World} (h : PathsSt x q n w R j acc R' ad cap wr) (hj : j < n) {g : IC.Path} (hv : ∀ v, run (DP.path x.bs) R' = .ok v → v.1 = DP.barePath g) {w1 w3 : World} {o1 o2 : Obj} {ad' : Option Addr} {cap' : Nat}
    (hr : Rs x q w1 (rest (run (DP.path x.bs) R'))) (hok : PathOk w1 g) (hm : Mk q wr w1) (hqw : q < w.heap.size) (hkp : ∀ s', rest (run (DP.path x.bs) R') = .ok s' → ∃ s, R' = .ok s ∧ s'.far = s.far ∧ s'.cols = s.cols ∧ s'.used = s.used ∧ s'.cl = s.cl ∧ s'.pts ≤ 4000) (hown : Own w3 w.heap.size 72 4 IC.Path.cells ad' cap' (acc ++ [g])) (hg : ((w1.alloc o1).alloc o2).grownBy w3 (ad.map (·.block))) :
    PathsSt x q n w R (j + 1) (acc ++ [g]) (rest (run (DP.path x.bs) R')) ad' cap' w3 := by
  have b2 : Below w1.heap.size w1 ((w1.alloc o1).alloc o2) := ((Below.refl _ _).alloc (Nat.le_refl _) _).alloc (by simp) _
  have own1 : Own ((w1.alloc o1).alloc o2) w.heap.size 72 4 IC.Path.cells ad cap acc := ((h.own.mk hm hqw).alloc _).alloc _
  have hoks := h.oks
  have grow : ∀ p, PathOk ((w1.alloc o1).alloc o2) p → PathOk w3 p := fun p h => Row.grownOwn h own1 hg (by decide)
  refine ⟨by simp [h.len], ?_, (hr.below b2).grown own1 hg hqw (by decide) (by decide), ?_, hown, ?_, ?_⟩
  · rw [h.eq, show n - j = (n - (j + 1)) + 1 by omega, List.map_append]
    exact run_then _ _ _ _ hv
  · intro s' e
    obtain ⟨s1, e1, k1⟩ := hkp s' e
    obtain ⟨s0, e0, k0⟩ := h.keep s1 e1
    exact ⟨s0, e0, k1.1.trans k0.1, k1.2.1.trans k0.2.1, k1.2.2.1.trans k0.2.2.1, k1.2.2.2.1.trans k0.2.2.2.1, k1.2.2.2.2⟩
  · intro p hp
    rcases List.mem_append.1 hp with hp | hp
    · exact grow p (((hoks p hp).mkq h.rs hm).below b2)
    · rw [List.mem_singleton.1 hp]
      exact grow g (hok.below b2)
  · have m := ((h.kept.trans hm).alloc o1).alloc o2
    exact ⟨hg.os.trans m.os, hg.tape.trans m.tape, hg.output.trans m.output, Nat.le_trans m.size hg.size, fun k hk hn => (hg.block k (Nat.lt_of_lt_of_le hk m.size) (fun e => by
      cases ad with
      | none => simp at e
      | some a => have := (own1.lt a rfl).1; simp at e; omega)).trans (m.block k hk hn)⟩

theorem paths_err {bs : List Nat} {m : Nat} {acc : List IC.Path} {R : Except DP.Bad DP.St} {e : DP.Bad} (h : rest (run (DP.path bs) R) = .error e) : run (DP.list (DP.path bs) (m + 1) acc) R = .error e := by
  cases R with
  | error e' => cases h; rfl
  | ok s =>
    change rest (DP.path bs s) = _ at h
    cases hr : DP.path bs s with
    | error e' => rw [hr] at h; cases h; exact DP.andThen_err hr
    | ok v => rw [hr] at h; cases h

set_option maxRecDepth 20000 in
set_option maxHeartbeats 2000000 in
theorem dpaths_any (x : Src) (q n : Nat) (R : Except DP.Bad DP.St) (w : World) (h : Rs x q w R) (hn : n ≤ 200) (h4 : ∀ s, R = .ok s → s.pts ≤ 4000) :
    Calls Tryz.prog 88 #[.pointer (some ⟨q, 0, none⟩), .int .u64 n, .func (.func 90) #[.pointer (some ⟨q, 0, none⟩)] #[]] w fun e w' => ∃ (g : List IC.Path) (ad : Option Addr) (cap : Nat), e = .returned (.slice ad g.length cap) ∧ g.length ≤ n ∧ Own w' w.heap.size 72 4 IC.Path.cells ad cap g ∧ (∀ p ∈ g, PathOk w' p) ∧ (∀ v, run (DP.list (DP.path x.bs) n []) R = .ok v → v.1 = g.map DP.barePath) ∧ Rs x q w' (rest (run (DP.list (DP.path x.bs) n []) R)) ∧ Mk q w w' ∧ (∀ s', rest (run (DP.list (DP.path x.bs) n []) R) = .ok s' → ∃ s, R = .ok s ∧ s'.far = s.far ∧ s'.cols = s.cols ∧ s'.used = s.used ∧ s'.cl = s.cl ∧ s'.pts ≤ 4000) := by
  have hqw := h.lt
  have S0 : Hid (PathsSt x q n w R 0 [] R none 0 w) := ⟨rfl, rfl, h, fun s' e => ⟨s', e, rfl, rfl, rfl, rfl, h4 s' e⟩, own_nil _ _ _ _ _, fun _ h => absurd h (by simp), Mk.refl _ _⟩
  have ks : Hid (∀ (R' : Except DP.Bad DP.St) (W : World), Rs x q W R' → (∀ s, R' = .ok s → s.pts ≤ 4000) → Calls Tryz.prog 90 #[.pointer (some ⟨q, 0, none⟩)] W fun e w' => ∃ P : IC.Path, e = .returned (.agg P.cells.toArray) ∧ PathOk w' P ∧ (∀ v, run (DP.path x.bs) R' = .ok v → v.1 = DP.barePath P) ∧ Rs x q w' (rest (run (DP.path x.bs) R')) ∧ Mk q W w' ∧ (∀ s', rest (run (DP.path x.bs) R') = .ok s' → ∃ s, R' = .ok s ∧ s'.far = s.far ∧ s'.cols = s.cols ∧ s'.used = s.used ∧ s'.cl = s.cl ∧ s'.pts ≤ 4000)) := fun R' W a1 a2 => dpath_any x q R' W a1 a2
  clear h h4
  obtain ⟨RP, hRP⟩ : ∃ RP, run (DP.list (DP.path x.bs) n []) R = RP := ⟨_, rfl⟩
  have HRP := hid'' hRP
  rw [hRP]
  clear hRP
  go_enter Tryz.func88, Tryz.ntmps88
  go_wp2
  go_loopw [7, 10] (fun o i wr => ∃ (j : Nat) (acc : List IC.Path) (R' : Except DP.Bad DP.St) (ad : Option Addr) (cap : Nat), j ≤ n ∧ i = .int .u64 j ∧ o = .slice ad j cap ∧ Hid (PathsSt x q n w R j acc R' ad cap wr)) (fun _ i _ => n - (intOf i).toNat)
  case atStart => exact ⟨0, [], R, none, 0, by omega, rfl, rfl, S0⟩
  case round =>
    obtain ⟨j, acc, R', ad, cap, hj, rfl, rfl, HS⟩ := hrel
    by_cases hjn : j < n
    · go_upto_region 5 with (first
        | (go_at_call 90; refine (ks.out R' _ HS.out.rs (fun s e => by
             obtain ⟨s0, e1, k0⟩ := HS.out.keep s e
             exact k0.2.2.2.2)).mono ?_; rintro e w1 ⟨P1, rfl, hok1, hv1, hr1, hm1, hkp1⟩
           have HO1 : Hid (∀ u ∈ P1.cells, u.oneCell' = true) := path_one P1 (by obtain ⟨_, _, e, _⟩ := Many.len hok1; rw [e]; rfl)
           have HOK1 := hid'' hok1
           have HV1 := hid'' hv1
           have HR1 := hid'' hr1
           have HM1 := hid'' hm1
           have HKP1 := hid'' hkp1
           have hq1 := hr1.lt
           have hw1 := hm1.size
           obtain ⟨ads, caps, hvs, -, -⟩ := Many.len hok1
           obtain ⟨⟨sx, sy⟩, vs, sg, cl⟩ := P1
           obtain ⟨ls, hls⟩ : ∃ n, sg.length = n := ⟨_, rfl⟩
           replace hvs : vs = .slice ads sg.length caps := hvs
           rw [hls] at hvs
           subst hvs
           clear hls
           clear hok1 hv1 hr1 hm1 hkp1
           simp only [IC.Path.cells]))
      obtain ⟨R1, hR1⟩ : ∃ R1, rest (run (DP.path x.bs) R') = R1 := ⟨_, rfl⟩
      cases R1 with
      | error e =>
        obtain ⟨g, c2⟩ := Rs.errCell' (e := e) (by have := HR1.out; rw [hR1] at this; exact this)
        have HE : Hid (RP = .error e) := by
          rw [← HRP.out, HS.out.eq, show n - j = (n - j - 1) + 1 by omega]
          exact paths_err hR1
        have HR2 : Hid (Rs x q w1 (.error e)) := by have := HR1.out; rw [hR1] at this; exact this
        clear hR1
        go_wp2
        go_ret
        refine ⟨[], none, 0, rfl, by simp, own_nil _ _ _ _ _, fun _ h => absurd h (by simp), fun v hv => ?_, ?_, ?_, fun s' e => ?_⟩
        · rw [HE.out] at hv; cases hv
        · rw [HE.out]
          exact HR2.out.below ((Below.refl _ _).alloc (Nat.le_refl _) _)
        · exact (HS.out.kept.trans HM1.out).alloc _
        · rw [HE.out] at e; cases e
      | ok s1 =>
        have c2 : w1.cell? ⟨q, 2, none⟩ = some .nilIface := Rs.errCell (s := s1) (by have := HR1.out; rw [hR1] at this; exact this)
        have hlen := HS.out.len
        have hws := HS.out.kept.size
        clear hR1
        go_wp2_with (first
          | (at_builtin; refine wpList_push _ rfl (.tmp 19) (.tmp 21) 60 rfl w.heap.size 72 _ 4 48 Tryz.underlying60 infoPath rfl (by decide) IC.Path.cells dpath_len acc ⟨⟨sx, sy⟩, .slice ads ls caps, sg, cl⟩ j hlen rfl (((HS.out.own.mk HM1.out hqw).alloc _).alloc _) (w1.heap.size + 1) rfl (new_cells2 _ _ _ _ (by simp)) HO1.out (by omega) (by omega) (by simp; omega) ?_
             intro ad' cap' w3 hown' hg'
             have HT := hid'' (HS.out.next hjn HV1.out HR1.out HOK1.out HM1.out hqw HKP1.out hown' hg')
             clear hown' hg'))
        go_roundw
        case rel => exact ⟨j + 1, _, _, _, _, by omega, by go_num, by go_num, HT⟩
        case measure => simp [intOf]; omega
    · obtain rfl : j = n := by omega
      have hlen := HS.out.len
      go_wp2
      go_ret
      have e := HS.out.eq
      rw [Nat.sub_self, HRP.out] at e
      have er : RP = run (DP.ret (acc.map DP.barePath)) R' := e
      rw [er, (run_ret (acc.map DP.barePath) R').1]
      exact ⟨acc, ad, cap, ret_w (by rw [hlen]; rfl), by omega, HS.out.own, HS.out.oks, (run_ret _ R').2, HS.out.rs, HS.out.kept, HS.out.keep⟩

end Go.Proofs.YtcnlkdoifogkbaaGreatDoor

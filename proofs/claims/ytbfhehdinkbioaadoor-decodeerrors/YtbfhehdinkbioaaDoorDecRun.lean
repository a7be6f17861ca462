/-
  A reader reads a run of segments: its rule, walked over the program.
-/
import Derived.Test.YtbfhehdinkbioaaDoorDecSegs
namespace Go.Proofs.YtbfhehdinkbioaaDoor
open Go.RowKit

set_option maxRecDepth 20000 in
set_option maxHeartbeats 1000000 in
theorem runRule_any (x : Src) (q b n kd len : Nat) (l : IC.Pt) (ad : Option Addr) (cap : Nat) (s : DP.St) (w : World) (h : Rd x q w s) (hp : Pr w b q kd l (.slice ad len cap)) (hl : len ≤ 400) (hkd : kd ≤ 3) (hn : n < 18446744073709551616) :
    Calls Tryd.prog 116 #[.pointer (some ⟨b, 0, none⟩), .int .u64 n] w fun e w' => e = .returned (errO x.A (DP.runRule kd len s.pts n)) ∧ w' = w := by
  have c6 : w.cell? ⟨q, 6, none⟩ = some (.int .i64 s.pts) := h.blk.cell 6
  have b0 : w.cell? ⟨b, 0, none⟩ = some (.pointer (some ⟨q, 0, none⟩)) := Blk.cell hp 0
  have b1 : w.cell? ⟨b, 1, none⟩ = some (.int .i64 kd) := Blk.cell hp 1
  have b4 : w.cell? ⟨b, 4, none⟩ = some (.slice ad len cap) := Blk.cell hp 4
  have e4 := h.base.range
  have e9 := h.base.canon
  have e5 := h.base.limit
  have h4 := h.fit.pts
  clear h hp
  generalize s.pts = P at *
  obtain ⟨R, hR⟩ : ∃ R, DP.runRule kd len P n = R := ⟨_, rfl⟩
  have HR : Hid (DP.runRule kd len P n = R) := hR
  rw [hR]
  clear hR
  have h3 := low2_u64 n hn
  obtain ⟨d, hd⟩ : ∃ d, n / 4 = d := ⟨_, rfl⟩
  have hd' : (n : Int) / 4 = (d : Int) := by omega
  obtain ⟨k, hk⟩ : ∃ k, n % 4 = k := ⟨_, rfl⟩
  rw [hk] at h3
  have hk4 : k = 0 ∨ k = 1 ∨ k = 2 ∨ k = 3 := by omega
  have HD : Hid (n / 4 = d ∧ n % 4 = k) := ⟨hd, hk⟩
  have hdb : d < 4611686018427387904 := by omega
  clear hd hk
  by_cases d0 : d = 0
  · subst d0
    rcases hk4 with rfl | rfl | rfl | rfl <;>
    · go_enter Tryd.func116, Tryd.ntmps116
      go_wp2
      go_ret
      exact ⟨ret_w (by rw [← HR.out, DP.runRule, if_pos (.inr HD.out.1)]; rfl), rfl⟩
  · have d0' : ((d : Int) == 0) = false := by simp; omega
    have D0 : Hid (¬ d = 0) := d0
    rcases hk4 with rfl | rfl | rfl | rfl
    · go_enter Tryd.func116, Tryd.ntmps116
      go_wp2
      go_ret
      exact ⟨ret_w (by rw [← HR.out, DP.runRule, if_pos (.inl HD.out.2)]; rfl), rfl⟩
    · by_cases ck : kd = 1
      · subst ck
        go_enter Tryd.func116, Tryd.ntmps116
        go_wp2
        go_ret
        exact ⟨ret_w (by rw [← HR.out, DP.runRule, HD.out.1, HD.out.2, if_neg (by have := D0.out; omega), if_pos rfl]; rfl), rfl⟩
      · have ck' : ((1 : Int) == (kd : Int)) = false := by simp; omega
        have CK : Hid (¬ 1 = kd) := fun e => ck e.symm
        by_cases dl : 400 < len + d
        · go_enter Tryd.func116, Tryd.ntmps116
          go_wp2
          go_ret
          exact ⟨ret_w (by rw [← HR.out, DP.runRule, HD.out.1, HD.out.2, if_neg (by have := D0.out; omega), if_neg CK.out, if_pos (.inl dl)]; rfl), rfl⟩
        · by_cases pl : 4000 < P + 1 * d
          · go_enter Tryd.func116, Tryd.ntmps116
            go_wp2
            go_ret
            exact ⟨ret_w (by rw [← HR.out, DP.runRule, HD.out.1, HD.out.2, if_neg (by have := D0.out; omega), if_neg CK.out, if_pos (.inr pl)]; rfl), rfl⟩
          · go_enter Tryd.func116, Tryd.ntmps116
            go_wp2
            go_ret
            exact ⟨ret_w (by rw [← HR.out, DP.runRule, HD.out.1, HD.out.2, if_neg (by have := D0.out; omega), if_neg CK.out, if_neg (by omega)]; rfl), rfl⟩
    · by_cases ck : kd = 2
      · subst ck
        go_enter Tryd.func116, Tryd.ntmps116
        go_wp2
        go_ret
        exact ⟨ret_w (by rw [← HR.out, DP.runRule, HD.out.1, HD.out.2, if_neg (by have := D0.out; omega), if_pos rfl]; rfl), rfl⟩
      · have ck' : ((2 : Int) == (kd : Int)) = false := by simp; omega
        have CK : Hid (¬ 2 = kd) := fun e => ck e.symm
        by_cases dl : 400 < len + d
        · go_enter Tryd.func116, Tryd.ntmps116
          go_wp2
          go_ret
          exact ⟨ret_w (by rw [← HR.out, DP.runRule, HD.out.1, HD.out.2, if_neg (by have := D0.out; omega), if_neg CK.out, if_pos (.inl dl)]; rfl), rfl⟩
        · by_cases pl : 4000 < P + 2 * d
          · go_enter Tryd.func116, Tryd.ntmps116
            go_wp2
            go_ret
            exact ⟨ret_w (by rw [← HR.out, DP.runRule, HD.out.1, HD.out.2, if_neg (by have := D0.out; omega), if_neg CK.out, if_pos (.inr pl)]; rfl), rfl⟩
          · go_enter Tryd.func116, Tryd.ntmps116
            go_wp2
            go_ret
            exact ⟨ret_w (by rw [← HR.out, DP.runRule, HD.out.1, HD.out.2, if_neg (by have := D0.out; omega), if_neg CK.out, if_neg (by omega)]; rfl), rfl⟩
    · by_cases ck : kd = 3
      · subst ck
        go_enter Tryd.func116, Tryd.ntmps116
        go_wp2
        go_ret
        exact ⟨ret_w (by rw [← HR.out, DP.runRule, HD.out.1, HD.out.2, if_neg (by have := D0.out; omega), if_pos rfl]; rfl), rfl⟩
      · have ck' : ((3 : Int) == (kd : Int)) = false := by simp; omega
        have CK : Hid (¬ 3 = kd) := fun e => ck e.symm
        by_cases dl : 400 < len + d
        · go_enter Tryd.func116, Tryd.ntmps116
          go_wp2
          go_ret
          exact ⟨ret_w (by rw [← HR.out, DP.runRule, HD.out.1, HD.out.2, if_neg (by have := D0.out; omega), if_neg CK.out, if_pos (.inl dl)]; rfl), rfl⟩
        · by_cases pl : 4000 < P + 3 * d
          · go_enter Tryd.func116, Tryd.ntmps116
            go_wp2
            go_ret
            exact ⟨ret_w (by rw [← HR.out, DP.runRule, HD.out.1, HD.out.2, if_neg (by have := D0.out; omega), if_neg CK.out, if_pos (.inr pl)]; rfl), rfl⟩
          · go_enter Tryd.func116, Tryd.ntmps116
            go_wp2
            go_ret
            exact ⟨ret_w (by rw [← HR.out, DP.runRule, HD.out.1, HD.out.2, if_neg (by have := D0.out; omega), if_neg CK.out, if_neg (by omega)]; rfl), rfl⟩

theorem rule_run (x : Src) (q b kd len : Nat) (l : IC.Pt) (ad : Option Addr) (cap : Nat) (s : DP.St) (w : World) (h : Rd x q w s) (hp : Pr w b q kd l (.slice ad len cap)) (hl : len ≤ 400) (hkd : kd ≤ 3) : Rule x w (DP.runRule kd len s.pts) 116 #[.pointer (some ⟨b, 0, none⟩)] #[] :=
  ⟨ent_run, fun n W hn hb => (runRule_any x q b n kd len l ad cap s W (h.below hb) (Blk.below hp hb (Blk.lt hp)) hl hkd hn).mono fun e w' ⟨a, b⟩ => by subst b; exact ⟨a, Below.refl _ _⟩⟩

theorem r13 (a b p n c : Nat) (h : DP.runRule a b p n = some c) : c < 13 := by
  unfold DP.runRule at h
  split at h
  · cases h; decide
  · split at h
    · cases h; decide
    · split at h <;> cases h; decide

/-- A list behind a list of the call's own, in a drawn region. -/
theorem step_join {P : Program} {α : Type} {ops : Array Oper} {o : Oper} {a : Act} {w : World} {K : Act → World → Prop} {Q : Exit → Act → World → Prop} {E : Prop}
    (hgd : o.guard = none) (s x : Operand) (t : TypeId) (ho : o.op = Op.call { callee := Callee.builtin Builtin.append, args := #[s, x], argTypes := #[t, t] })
    (B : Nat) (e : TypeId) (z : Value) (size bytes : Nat) (ht : P.underlying t = some (.slice e)) (hi : (P.info? e).map (fun i => (i.zero, i.size, i.bytes)) = some (some z, size, bytes))
    (hzs : z.cells.size = size) (hsz : 0 < size) (f : α → List Value) (hf : ∀ y, (f y).length = size)
    {ad : Option Addr} {cap : Nat} (l l2 : List α) (n m : Nat) (hn : l.length = n) (hm : l2.length = m) (hm0 : 0 < m) (hs : a.eval s = .slice ad n cap) (hown : Own w B e size f ad cap l) {ad2 : Option Addr} {cap2 B2 : Nat} (hx : a.eval x = .slice ad2 m cap2)
    (hown2 : Own w B2 e size f ad2 cap2 l2) (h1 : ∀ y ∈ l2, ∀ u ∈ f y, u.oneCell' = true)
    (hbytes : (n + m) * bytes ≤ 140737488355328) (h63 : n + m ≤ 1000000) (hB : B ≤ w.heap.size)
    (hK : ∀ ad' cap' w', Own w' B e size f ad' cap' (l ++ l2) → w.grownBy w' (ad.map (·.block)) → K (a.put o.dst (.slice ad' (n + m) cap')) w') :
    if Region.wanted o (yielded ops a.tmps) = true then Oper.wp P o a w K Q else E := by
  have hw : Region.wanted o (yielded ops a.tmps) = true := by simp [Region.wanted, hgd]
  rw [if_pos hw]
  subst hn
  subst hm
  obtain ⟨i, hi0, hi1⟩ := Option.map_eq_some_iff.1 hi
  have hz : i.zero = some z := congrArg (·.1) hi1
  have hz1 : i.size = size := congrArg (·.2.1) hi1
  have hz2 : i.bytes = bytes := congrArg (·.2.2) hi1
  rcases (Own.many hown2).2 with ⟨_, e0⟩ | ⟨g, o2, c2, e1, e2, e3, e4, e5, e6⟩
  · omega
  have ead : ad2 = some ⟨g, o2, none⟩ ∧ cap2 = c2 := by simpa using e1
  rw [ead.1] at hx
  refine wp_append_own w s x t ho B e i z size bytes ht hi0 hz hz1 hz2 hzs hsz _ l.length (l.flatMap f) hs hown ⟨g, o2, none⟩ l2.length cap2 (l2.flatMap f) hx (flat_len f size hf l2) (fun j u hj => by rw [Addr.add_lit]; exact e6 j u hj) (fun u hu => by
    obtain ⟨y, hy, hu⟩ := List.mem_flatMap.1 hu
    exact h1 y hy u hu) (by unfold maxLen; omega) hbytes hB ?_
  intro v' w' hown' hg hnil
  have hlen : (l ++ l2).length = l.length + l2.length := by simp
  have hfl : l.flatMap f ++ l2.flatMap f = (l ++ l2).flatMap f := by simp
  rw [hfl, ← hlen] at hown'
  have hrow : (Value.slice ad l.length cap).ownBlock = ad.map (·.block) := by cases ad <;> rfl
  rw [hrow] at hg
  rcases hown'.2 with ⟨e1, e2⟩ | ⟨g', c, cur, e1, e2⟩
  · rw [hlen] at e2; omega
  · have e3 : v' = .slice (some ⟨g', 0, none⟩) (l.length + l2.length) c := by rw [e1, hlen]
    rw [e3] at hown' ⊢
    exact hK _ _ w' (by rw [← hlen] at hown'; exact hown') hg

end Go.Proofs.YtbfhehdinkbioaaDoor

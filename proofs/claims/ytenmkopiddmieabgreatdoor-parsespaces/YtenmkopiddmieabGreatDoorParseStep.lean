/-
  A step's letter, and the vals of a list; walked over the program.
-/
import Derived.Test.YtenmkopiddmieabGreatDoorParseRef
namespace Go.Proofs.YtenmkopiddmieabGreatDoor
open Go.RowKit

set_option maxRecDepth 20000 in
theorem letter_any (t : List UInt8) (W : World) : Calls Tryz.prog 115 #[.string ⟨t.toArray⟩] W fun e w' => e = .returned (.tuple #[.int .i64 ((PP.letter t).1 : Nat), .int .i64 ((PP.letter t).2 : Nat)]) ∧ w' = W := by
  obtain ⟨T, hT⟩ : ∃ T : ByteArray, ⟨t.toArray⟩ = T := ⟨_, rfl⟩
  have hl : T.toList = t := by rw [← hT, Go.ByteArray.toList_mk]
  have key : ∀ c : UInt8, (T.toList == [c]) = decide (t = [c]) := fun c => by rw [hl, Bool.eq_iff_iff]; simp
  have e1 := key 77
  have e2 := key 76
  have e3 := key 81
  have e4 := key 67
  have e5 := key 65
  have e6 := key 66
  have e7 := key 90
  have HP : Hid (PP.letter t = if t = [77] then (1, 2) else if t = [76] then (2, 2) else if t = [81] then (3, 4) else if t = [67] then (4, 6) else if t = [65] then (5, 2) else if t = [66] then (6, 2) else if t = [90] then (7, 0) else (0, 0)) := by show _ = _; rfl
  rw [HP.out, hT]
  clear hl key HP hT
  by_cases h1 : t = [77]
  · rw [decide_eq_true h1] at e1
    rw [if_pos h1]
    clear e2 e3 e4 e5 e6 e7
    go_enter Tryz.func115, Tryz.ntmps115
    go_wp2
    exact bodyPost_ret (v := .tuple #[.int .i64 1, .int .i64 2]) (by simp [results, Tryz.results115, go_sem]) rfl ⟨rfl, rfl⟩
  rw [decide_eq_false h1] at e1
  rw [if_neg h1]
  by_cases h2 : t = [76]
  · rw [decide_eq_true h2] at e2
    rw [if_pos h2]
    clear e3 e4 e5 e6 e7
    go_enter Tryz.func115, Tryz.ntmps115
    go_wp2
    exact bodyPost_ret (v := .tuple #[.int .i64 2, .int .i64 2]) (by simp [results, Tryz.results115, go_sem]) rfl ⟨rfl, rfl⟩
  rw [decide_eq_false h2] at e2
  rw [if_neg h2]
  by_cases h3 : t = [81]
  · rw [decide_eq_true h3] at e3
    rw [if_pos h3]
    clear e4 e5 e6 e7
    go_enter Tryz.func115, Tryz.ntmps115
    go_wp2
    exact bodyPost_ret (v := .tuple #[.int .i64 3, .int .i64 4]) (by simp [results, Tryz.results115, go_sem]) rfl ⟨rfl, rfl⟩
  rw [decide_eq_false h3] at e3
  rw [if_neg h3]
  by_cases h4 : t = [67]
  · rw [decide_eq_true h4] at e4
    rw [if_pos h4]
    clear e5 e6 e7
    go_enter Tryz.func115, Tryz.ntmps115
    go_wp2
    exact bodyPost_ret (v := .tuple #[.int .i64 4, .int .i64 6]) (by simp [results, Tryz.results115, go_sem]) rfl ⟨rfl, rfl⟩
  rw [decide_eq_false h4] at e4
  rw [if_neg h4]
  by_cases h5 : t = [65]
  · rw [decide_eq_true h5] at e5
    rw [if_pos h5]
    clear e6 e7
    go_enter Tryz.func115, Tryz.ntmps115
    go_wp2
    exact bodyPost_ret (v := .tuple #[.int .i64 5, .int .i64 2]) (by simp [results, Tryz.results115, go_sem]) rfl ⟨rfl, rfl⟩
  rw [decide_eq_false h5] at e5
  rw [if_neg h5]
  by_cases h6 : t = [66]
  · rw [decide_eq_true h6] at e6
    rw [if_pos h6]
    clear e7
    go_enter Tryz.func115, Tryz.ntmps115
    go_wp2
    exact bodyPost_ret (v := .tuple #[.int .i64 6, .int .i64 2]) (by simp [results, Tryz.results115, go_sem]) rfl ⟨rfl, rfl⟩
  rw [decide_eq_false h6] at e6
  rw [if_neg h6]
  by_cases h7 : t = [90]
  · rw [decide_eq_true h7] at e7
    rw [if_pos h7]
    go_enter Tryz.func115, Tryz.ntmps115
    go_wp2
    exact bodyPost_ret (v := .tuple #[.int .i64 7, .int .i64 0]) (by simp [results, Tryz.results115, go_sem]) rfl ⟨rfl, rfl⟩
  rw [decide_eq_false h7] at e7
  rw [if_neg h7]
  go_enter Tryz.func115, Tryz.ntmps115
  go_wp2
  exact bodyPost_ret (v := .tuple #[.int .i64 0, .int .i64 0]) (by simp [results, Tryz.results115, go_sem]) rfl ⟨rfl, rfl⟩

theorem putRow_append (l2 : List Value) : ∀ (l1 : List Value) (a : Array Value) (i : Nat), putRow a i (l1 ++ l2) = putRow (putRow a i l1) (i + l1.length) l2
  | [], a, i => by simp [putRow]
  | v :: l1, a, i => by
    show putRow (a.setIfInBounds i v) (i + 1) (l1 ++ l2) = putRow (putRow (a.setIfInBounds i v) (i + 1) l1) (i + (l1.length + 1)) l2
    rw [putRow_append l2 l1, show i + 1 + l1.length = i + (l1.length + 1) by omega]
theorem putRow_size : ∀ (l : List Value) (a : Array Value) (i : Nat), (putRow a i l).size = a.size
  | [], _, _ => rfl
  | v :: l, a, i => by show (putRow (a.setIfInBounds i v) (i + 1) l).size = _; rw [putRow_size l]; simp
theorem Blk.some {w : World} {b j : Nat} {t : TypeId} {a : Array Value} (h : Blk w b t a) (hj : j < a.size) : w.cell? ⟨b, j, none⟩ = some a[j] := by rw [h.cell]; simp [hj]

theorem vals_cut (s : PP.St) : ∀ (i k : Nat) (acc : List PP.Val) (s' : PP.St), i < k → PP.vals k s = (acc ++ (PP.vals (k - i) s').1, (PP.vals (k - i) s').2) →
    PP.vals k s = ((acc ++ [(PP.val s').1]) ++ (PP.vals (k - (i + 1)) (PP.val s').2).1, (PP.vals (k - (i + 1)) (PP.val s').2).2) := by
  intro i k acc s' hi h
  rw [h, show k - i = (k - (i + 1)) + 1 by omega]
  simp [PP.vals]

/-- All blocks but two are as they were. -/
def Fr (q g : Nat) (w w' : World) : Prop := ∀ (c : Nat) (t : TypeId) (a : Array Value), c ≠ q → c ≠ g → Blk w c t a → Blk w' c t a

set_option maxRecDepth 20000 in
set_option maxHeartbeats 1000000 in
theorem vals_any {x : Cx} {q g o k cap : Nat} {t : TypeId} {a : Array Value} {w0 W : World} {s : PP.St} (h : Hid (At x q w0 s W)) (hb : Blk W g t a) (ht : t ≠ 77) (hq : q < g) (h0 : w0.heap.size ≤ g) (ho : o + k * 3 ≤ a.size) (hk : k ≤ 1000) (hkc : k ≤ cap) :
    Calls Tryz.prog 105 #[.pointer (some ⟨q, 0, none⟩), .slice (some ⟨g, o, none⟩) k cap] W fun e w' => e = .returned (.tuple #[]) ∧ Hid (At x q w0 (PP.vals k s).2 w') ∧ Hid (Blk w' g t (putRow a o ((PP.vals k s).1.flatMap valL))) ∧ Hid (Fr q g W w') := by
  have HB := hid'' hb
  have HR : Hid (PP.vals k s = ([] ++ (PP.vals (k - 0) s).1, (PP.vals (k - 0) s).2)) := by show _ = _; simp
  obtain ⟨R, hR⟩ : ∃ R, PP.vals k s = R := ⟨_, rfl⟩
  have HC : Hid (∀ (i : Nat) (acc : List PP.Val) (s' : PP.St), i < k → R = (acc ++ (PP.vals (k - i) s').1, (PP.vals (k - i) s').2) → R = ((acc ++ [(PP.val s').1]) ++ (PP.vals (k - (i + 1)) (PP.val s').2).1, (PP.vals (k - (i + 1)) (PP.val s').2).2)) := fun i acc s' hi e => by
    rw [← hR] at e ⊢
    exact vals_cut s i k acc s' hi e
  rw [hR] at HR ⊢
  have HH := h
  clear hb hR h
  go_enter Tryz.func105, Tryz.ntmps105
  go_wp2
  go_loopw [7] (fun i wr => ∃ (n : Nat) (acc : List PP.Val) (s' : PP.St), n ≤ k ∧ i = .int .i64 n ∧ acc.length = n ∧ Hid (At x q w0 s' wr) ∧ Hid (Blk wr g t (putRow a o (acc.flatMap valL))) ∧ Hid (Fr q g W wr) ∧ Hid (R = (acc ++ (PP.vals (k - n) s').1, (PP.vals (k - n) s').2))) (fun i _ => k - (intOf i).toNat)
  case atStart => exact ⟨0, [], s, by omega, rfl, rfl, HH, HB, (show Fr q g W W from fun _ _ _ _ _ h => h), HR⟩
  case round =>
    clear HH HB HR
    obtain ⟨n, acc, s', hn, rfl, ha, HH, HB, HF, HR⟩ := hrel
    by_cases hnk : n < k
    · have HX := hid'' (HC.out n acc s' hnk HR.out)
      have hnk' : (n : Int) < (k : Int) := by omega
      have kv : Hid (∀ W, Hid (At x q wr s' W) → Calls Tryz.prog 81 #[.pointer (some ⟨q, 0, none⟩)] W fun e w' => e = .returned (.agg (valL (PP.val s').1).toArray) ∧ Hid (At x q wr (PP.val s').2 w')) := fun W H => val_any H
      obtain ⟨v, hv⟩ : ∃ v, (PP.val s').1 = v := ⟨_, rfl⟩
      obtain ⟨s2, hs2⟩ : ∃ s2, (PP.val s').2 = s2 := ⟨_, rfl⟩
      rw [hv, hs2] at kv HX
      obtain ⟨nm, nn, np⟩ := v
      have hvv : (valL ⟨nm, nn, np⟩).toArray = #[.string ⟨nm.toArray⟩, .int .i64 nn, .int .i64 (np : Nat)] := rfl
      rw [hvv] at kv
      clear hv hs2
      go_wp2_with (first
        | go_at_call 81
          refine (kv.out _ (At.new HH)).mono ?_
          rintro e w2 ⟨rfl, H2⟩
          have X2 : Hid (Blk w2 g t (putRow a o (acc.flatMap valL))) := At.box H2 HB.out (by omega)
          have x0 := X2.out.some (j := o + n * 3) (by rw [putRow_size]; omega)
          have x1 := X2.out.some (j := o + n * 3 + 1) (by rw [putRow_size]; omega)
          have x2 := X2.out.some (j := o + n * 3 + 2) (by rw [putRow_size]; omega)
          have y0 := X2.out.frozen (o + n * 3)
          have y1 := X2.out.frozen (o + n * 3 + 1)
          have y2 := X2.out.frozen (o + n * 3 + 2)
          have hx := X2.out.lt)
      have R2 := At.row (At.onto (At.mk' HH) H2) X2.out ht hq h0 (o + n * 3) (valL ⟨nm, nn, np⟩)
      have R3 := hid'' (Blk.row (valL ⟨nm, nn, np⟩) (o + n * 3) _ _ X2.out)
      rw [show o + n * 3 = o + (acc.flatMap valL).length by rw [flat_len valL 3 valL_len, ha], ← putRow_append, show acc.flatMap valL ++ valL (⟨nm, nn, np⟩ : PP.Val) = (acc ++ [(⟨nm, nn, np⟩ : PP.Val)]).flatMap valL by simp, show o + (acc.flatMap valL).length = o + n * 3 by rw [flat_len valL 3 valL_len, ha]] at R3
      have RF : Hid (Fr q g W (setRow w2 g (o + n * 3) (valL ⟨nm, nn, np⟩))) := fun c t' a' h1 h2 hb => Blk.rowFar h2 _ _ _ _ (At.box H2 (HF.out c t' a' h1 h2 hb) h1)
      refine ⟨⟨n + 1, acc ++ [(⟨nm, nn, np⟩ : PP.Val)], s2, by omega, by go_num, by simp [ha], R2, R3, RF, HX⟩, by simp [intOf]; omega⟩
    · obtain rfl : n = k := by omega
      have HZ : Hid (R = (acc, s')) := by show _ = _; rw [HR.out, Nat.sub_self]; simp [PP.vals]
      have hnk' : ¬ (n : Int) < (n : Int) := by omega
      clear HR
      go_wp2
      go_end0
      exact ⟨rfl, by rw [HZ.out]; exact HH, by rw [HZ.out]; exact HB, HF⟩

end Go.Proofs.YtenmkopiddmieabGreatDoor

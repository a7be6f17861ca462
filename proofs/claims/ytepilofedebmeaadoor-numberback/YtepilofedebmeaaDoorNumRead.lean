/-
  The program's reading of a number: walked whole.
-/
import Derived.Test.YtepilofedebmeaaDoorNumParse
namespace Go.Proofs.YtepilofedebmeaaDoor
open Go.RowKit

def pv (a : Addr) : Option Int → Value
  | some n => .tuple #[.int .i64 n, .nilIface]
  | none => .tuple #[.int .i64 0, .iface 105 (.pointer (some a))]

theorem mill_some_any (s : ByteArray) (n : Nat) (h : NP.mill s.data.toList = some n) (w : World) :
    Calls Tryd.prog 19 #[.string s] w fun e w' => e = .returned (.tuple #[.int .i64 (n : Int), .bool true]) ∧ w' = w := by
  have := mill_any s w
  rw [h] at this
  exact this
theorem mill_none_any (s : ByteArray) (h : NP.mill s.data.toList = none) (w : World) :
    Calls Tryd.prog 19 #[.string s] w fun e w' => e = .returned (.tuple #[.int .i64 0, .bool false]) ∧ w' = w := by
  have := mill_any s w
  rw [h] at this
  exact this

theorem trim_le (l p : List UInt8) : (Lib.trimPrefix l p).length ≤ l.length := by
  unfold Lib.trimPrefix
  split
  · rw [List.length_drop]; omega
  · exact Nat.le_refl _



set_option maxRecDepth 20000 in
set_option maxHeartbeats 1000000 in
theorem parse_any (s : ByteArray) (w : World) (hs : s.size ≤ 1000) (a : Addr) (hE : w.cell? ⟨0, 0, none⟩ = some (.iface 105 (.pointer (some a)))) :
    Calls Tryd.prog 8 #[.string s] w fun e w' => e = .returned (pv a (NP.parse s.data.toList)) ∧ ∃ m, w' = w.drewN m := by
  obtain ⟨t, ht⟩ : ∃ t : ByteArray, (⟨(Lib.trimPrefix s.data.toList [45]).toArray⟩ : ByteArray) = t := ⟨_, rfl⟩
  obtain ⟨m, hm⟩ : ∃ m, Lib.hasPrefix s.data.toList [45] = m := ⟨_, rfl⟩
  obtain ⟨V, hV⟩ : ∃ V, pv a (NP.parse s.data.toList) = V := ⟨_, rfl⟩
  rw [hV]
  have k1 : Hid (∀ W, Calls Tryd.prog 17 #[.string s, .string ⟨#[45]⟩] W fun e w' => e = .returned (.tuple #[.string t, .bool m]) ∧ w' = W) := fun W => by
    have := Tryd.strings_CutPrefix s ⟨#[45]⟩ W
    rw [← ht, ← hm]
    exact this
  have htl : t.data.toList = Lib.trimPrefix s.data.toList [45] := by rw [← ht]
  have hts : t.size ≤ 1000 := by
    have := trim_le s.data.toList [45]
    rw [Lib.size_eq, htl]
    rw [Lib.size_eq] at hs
    omega
  have hP : NP.parse s.data.toList = NP.parse2 m t.data.toList := by unfold NP.parse; rw [hm, htl]
  rw [hP] at hV
  obtain ⟨R, hR⟩ : ∃ R, NP.cutAt t.data.toList = R := ⟨_, rfl⟩
  have k2 := hid'' (fun W => cut_any t W hts)
  rw [hR] at k2
  obtain ⟨x, hx⟩ : ∃ x, (⟨R.1.toArray⟩ : ByteArray) = x := ⟨_, rfl⟩
  have hxl : x.data.toList = R.1 := by rw [← hx]
  unfold NP.parse2 at hV
  rw [hR] at hV
  clear ht hm hP htl hts hR
  cases hu : NP.whole R.1 with
  | none =>
    have HV : Hid (V = .tuple #[.int .i64 0, .iface 105 (.pointer (some a))]) := by
      show _ = _
      rw [← hV, hu]; rfl
    have k3 := hid'' (fun W => whole_none_any x (by rw [hxl]; exact hu) W)
    have k2' : Hid (∀ W, ∃ y b, Calls Tryd.prog 18 #[.string t, .string ⟨#[46]⟩] W fun e w' => e = .returned (.tuple #[.string x, .string y, .bool b]) ∧ ∃ m, w' = W.drewN m) := fun W => ⟨_, _, by have := k2.out W; unfold cv at this; rw [hx] at this; exact this⟩
    clear hV hu hx hxl k2
    obtain ⟨y, b, k4⟩ := k2'.out w
    have K4 := hid'' k4
    clear k4 k2'
    go_enter Tryd.func8, Tryd.ntmps8
    go_wp2_with (first
      | (go_at_call 17; refine (k1.out _).mono ?_; rintro e w1 ⟨rfl, rfl⟩)
      | (go_at_call 18; refine K4.out.mono ?_; rintro e w1 ⟨rfl, q, rfl⟩)
      | (go_at_call 10; refine (k3.out _).mono ?_; rintro e w1 ⟨rfl, rfl⟩))
    go_quiet (fail)
    go_wp2
    exact bodyPost_ret (v := .tuple #[.int .i64 0, .iface 105 (.pointer (some a))]) (by simp [results, Tryd.results8, go_sem]) rfl ⟨by rw [HV.out], _, World.drewN_drewN _ _ _⟩
  | some u =>
    have hul := NP.whole_lt hu
    have k3 := hid'' (fun W => whole_some_any x u (by rw [hxl]; exact hu) W)
    rw [hu] at hV
    cases hb : R.2 with
    | none =>
      have HV : Hid (V = .tuple #[.int .i64 (NP.sgn m (u * 1000000)), .nilIface]) := by
        show _ = _
        rw [← hV, hb]; rfl
      have k4 : Hid (∀ W, Calls Tryd.prog 18 #[.string t, .string ⟨#[46]⟩] W fun e w' => e = .returned (.tuple #[.string x, .string ⟨#[]⟩, .bool false]) ∧ ∃ m, w' = W.drewN m) := fun W => by have := k2.out W; unfold cv at this; rw [hx, hb] at this; exact this
      clear hV hu hx hxl hb k2
      go_enter Tryd.func8, Tryd.ntmps8
      cases m with
      | true =>
        go_wp2_with (first
          | (go_at_call 17; refine (k1.out _).mono ?_; rintro e w1 ⟨rfl, rfl⟩)
          | (go_at_call 18; refine (k4.out _).mono ?_; rintro e w1 ⟨rfl, q, rfl⟩)
          | (go_at_call 10; refine (k3.out _).mono ?_; rintro e w1 ⟨rfl, rfl⟩))
        exact bodyPost_ret (v := .tuple #[.int .i64 (-((u : Int) * 1000000)), .nilIface]) (by simp [results, Tryd.results8, go_sem]) rfl ⟨by rw [HV.out]; simp [NP.sgn], _, rfl⟩
      | false =>
        go_wp2_with (first
          | (go_at_call 17; refine (k1.out _).mono ?_; rintro e w1 ⟨rfl, rfl⟩)
          | (go_at_call 18; refine (k4.out _).mono ?_; rintro e w1 ⟨rfl, q, rfl⟩)
          | (go_at_call 10; refine (k3.out _).mono ?_; rintro e w1 ⟨rfl, rfl⟩))
        exact bodyPost_ret (v := .tuple #[.int .i64 ((u : Int) * 1000000), .nilIface]) (by simp [results, Tryd.results8, go_sem]) rfl ⟨by rw [HV.out]; simp [NP.sgn], _, rfl⟩
    | some b =>
      obtain ⟨y, hy⟩ : ∃ y : ByteArray, (⟨b.toArray⟩ : ByteArray) = y := ⟨_, rfl⟩
      have hyl : y.data.toList = b := by rw [← hy]
      have k4 : Hid (∀ W, Calls Tryd.prog 18 #[.string t, .string ⟨#[46]⟩] W fun e w' => e = .returned (.tuple #[.string x, .string y, .bool true]) ∧ ∃ m, w' = W.drewN m) := fun W => by have := k2.out W; unfold cv at this; rw [hx, hb] at this; rw [← hy]; exact this
      rw [hb] at hV
      cases hf : NP.mill b with
      | none =>
        have HV : Hid (V = .tuple #[.int .i64 0, .iface 105 (.pointer (some a))]) := by
          show _ = _
          rw [← hV]; simp only [hf]; rfl
        have k5 := hid'' (fun W => mill_none_any y (by rw [hyl]; exact hf) W)
        clear hV hu hx hxl hb k2 hf hy hyl
        go_enter Tryd.func8, Tryd.ntmps8
        go_wp2_with (first
          | (go_at_call 17; refine (k1.out _).mono ?_; rintro e w1 ⟨rfl, rfl⟩)
          | (go_at_call 18; refine (k4.out _).mono ?_; rintro e w1 ⟨rfl, q, rfl⟩)
          | (go_at_call 10; refine (k3.out _).mono ?_; rintro e w1 ⟨rfl, rfl⟩)
          | (go_at_call 19; refine (k5.out _).mono ?_; rintro e w1 ⟨rfl, rfl⟩))
        go_quiet (fail)
        go_wp2
        exact bodyPost_ret (v := .tuple #[.int .i64 0, .iface 105 (.pointer (some a))]) (by simp [results, Tryd.results8, go_sem]) rfl ⟨by rw [HV.out], _, World.drewN_drewN _ _ _⟩
      | some f =>
        have hfl := NP.mill_lt hf
        have HV : Hid (V = .tuple #[.int .i64 (NP.sgn m (u * 1000000 + f)), .nilIface]) := by
          show _ = _
          rw [← hV]; simp only [hf]; rfl
        have k5 := hid'' (fun W => mill_some_any y f (by rw [hyl]; exact hf) W)
        clear hV hu hx hxl hb k2 hf hy hyl
        go_enter Tryd.func8, Tryd.ntmps8
        cases m with
        | true =>
          go_wp2_with (first
            | (go_at_call 17; refine (k1.out _).mono ?_; rintro e w1 ⟨rfl, rfl⟩)
            | (go_at_call 18; refine (k4.out _).mono ?_; rintro e w1 ⟨rfl, q, rfl⟩)
            | (go_at_call 10; refine (k3.out _).mono ?_; rintro e w1 ⟨rfl, rfl⟩)
            | (go_at_call 19; refine (k5.out _).mono ?_; rintro e w1 ⟨rfl, rfl⟩))
          exact bodyPost_ret (v := .tuple #[.int .i64 (-((u : Int) * 1000000 + (f : Int))), .nilIface]) (by simp [results, Tryd.results8, go_sem]) rfl ⟨by rw [HV.out]; simp [NP.sgn], _, rfl⟩
        | false =>
          go_wp2_with (first
            | (go_at_call 17; refine (k1.out _).mono ?_; rintro e w1 ⟨rfl, rfl⟩)
            | (go_at_call 18; refine (k4.out _).mono ?_; rintro e w1 ⟨rfl, q, rfl⟩)
            | (go_at_call 10; refine (k3.out _).mono ?_; rintro e w1 ⟨rfl, rfl⟩)
            | (go_at_call 19; refine (k5.out _).mono ?_; rintro e w1 ⟨rfl, rfl⟩))
          exact bodyPost_ret (v := .tuple #[.int .i64 ((u : Int) * 1000000 + (f : Int)), .nilIface]) (by simp [results, Tryd.results8, go_sem]) rfl ⟨by rw [HV.out]; simp [NP.sgn], _, rfl⟩

end Go.Proofs.YtepilofedebmeaaDoor

/-
  Any text as a number, any number as a text, any text as a whole one: the program's answers are the document's: walked.
-/
import Derived.Test.YtepilofedebmeaaDoorNumRefParse
import Derived.Test.YtepilofedebmeaaDoorNumIs
namespace Go.Proofs.YtepilofedebmeaaDoor
open Go.RowKit

set_option maxRecDepth 20000 in
set_option maxHeartbeats 2000000 in
theorem wnumsays (s : ByteArray) (n : Int) (w : World) (A : Nat → Addr) (hE : Errs13 w A) (htab : Lib.TabIs Tryd.prog w "internal/strconv.uint64pow10" .u64 Lib.pow10Tab) (hs : s.size ≤ maxLen) :
    Calls Tryd.prog 3 #[.string s, .int .i64 n] w fun e w' => e = .returned (.bool true) ∧ Below w.heap.size w w' := by
  have kf := Lib.hid (first9_any w htab)
  unfold maxLen at hs
  by_cases h30 : s.size ≤ 30
  · obtain ⟨N, e1, b1, b2⟩ := rem_down n 1000000000000 (by omega)
    have HTB := Lib.hid htab
    have HE := Lib.hid hE
    have e0 : ∀ W, Below w.heap.size w W → W.cell? ⟨0, 0, none⟩ = some (.iface 105 (.pointer (some (A 0)))) := fun W hb => ((HE.out.below hb) 0 (by omega)).1
    have ks : Hid (∀ W, Below w.heap.size w W → Calls Tryd.prog 13 #[.int .i64 N] W fun e w' => e = .returned (.string ⟨(NP.text N).toArray⟩) ∧ Below W.heap.size W w') := fun W hb => show_any N (by omega) (by omega) W (tab_below HTB.out hb)
    have kr : Hid (∀ W, Below w.heap.size w W → Calls Tryd.prog 14 #[.int .i64 N] W fun e w' => e = .returned (.string ⟨(NP.text N).toArray⟩) ∧ Below W.heap.size W w') := fun W hb => rshow_any N (by omega) (by omega) W (tab_below HTB.out hb)
    obtain ⟨F, hF⟩ : ∃ F : ByteArray, (⟨(NP.text N).toArray⟩ : ByteArray) = F := ⟨_, rfl⟩
    rw [hF] at ks kr
    have kw := Lib.hid (fun W => whole_any s W)
    have kv := Lib.hid (fun W => rwhole_any s W)
    obtain ⟨X, hX⟩ : ∃ X : Int, (((NP.whole s.data.toList).getD 0 : Nat) : Int) = X := ⟨_, rfl⟩
    obtain ⟨Y, hY⟩ : ∃ Y, (NP.whole s.data.toList).isSome = Y := ⟨_, rfl⟩
    unfold wv at kw kv
    rw [hX, hY] at kw kv
    have kp : Hid (∀ W, Below w.heap.size w W → Calls Tryd.prog 8 #[.string s] W fun e w' => e = .returned (pv (A 0) (NP.parse s.data.toList)) ∧ ∃ m, w' = W.drewN m) := fun W hb => parse_any s W (by omega) (A 0) (e0 W hb)
    have kq := Lib.hid (fun W => rparse_any s W h30)
    have ki : Hid (∀ W, Below w.heap.size w W → Calls Tryd.prog 12 #[.iface 105 (.pointer (some (A 0))), .int .i64 101] W fun e w' => e = .returned (.bool true) ∧ Below W.heap.size W w') := fun W hb => is_bare A W (HE.out.below hb) 0 (by omega) _ rfl 101 rfl
    have kj : Hid (∀ W, Calls Tryd.prog 12 #[.nilIface, .int .i64 0] W fun e w' => e = .returned (.bool true) ∧ Below W.heap.size W w') := fun W => is_nil W
    obtain ⟨a, ha⟩ : ∃ a, A 0 = a := ⟨_, rfl⟩
    rw [ha] at kp ki
    have h30' : ¬ (30 < (s.size : Int)) := by omega
    cases hP : NP.parse s.data.toList with
    | none =>
      rw [hP, show pv a none = .tuple #[.int .i64 0, .iface 105 (.pointer (some a))] from rfl] at kp
      rw [hP, show rv none = .tuple #[.int .i64 0, .bool false] from rfl] at kq
      clear hP hX hY e0 hE htab ha hF kj
      go_enter Tryd.func3, Tryd.ntmps3
      go_wp2_with (first
        | (go_at_call 7; refine kf.out.mono ?_; rintro e w1 ⟨rfl, hb1⟩; have B1 := Lib.hid hb1; clear hb1)
        | (go_at_call 8; refine (kp.out _ B1.out).mono ?_; rintro e w2 ⟨rfl, m, rfl⟩; have B2 := Lib.hid (below_drewN B1.out m))
        | (go_at_call 9; refine (kq.out _).mono ?_; rintro e w3 ⟨rfl, rfl⟩)
        | (go_at_call 10; refine (kw.out _).mono ?_; rintro e w3 ⟨rfl, rfl⟩)
        | (go_at_call 11; refine (kv.out _).mono ?_; rintro e w3 ⟨rfl, rfl⟩)
        | (go_at_call 12; refine (ki.out _ B2.out).mono ?_; rintro e w4 ⟨rfl, hb4⟩; have B4 := Lib.hid (B2.out.trans (hb4.mono B2.out.size)); clear hb4)
        | (go_at_call 13; refine (ks.out _ B4.out).mono ?_; rintro e w5 ⟨rfl, hb5⟩; have B5 := Lib.hid (B4.out.trans (hb5.mono B4.out.size)); clear hb5)
        | (go_at_call 14; refine (kr.out _ B5.out).mono ?_; rintro e w6 ⟨rfl, hb6⟩; have B6 := Lib.hid (B5.out.trans (hb6.mono B5.out.size)); clear hb6))
      go_ret
      exact ⟨rfl, B6.out⟩
    | some v =>
      rw [hP, show pv a (some v) = .tuple #[.int .i64 v, .nilIface] from rfl] at kp
      rw [hP, show rv (some v) = .tuple #[.int .i64 v, .bool true] from rfl] at kq
      clear hP hX hY e0 hE htab ha hF ki
      go_enter Tryd.func3, Tryd.ntmps3
      go_wp2_with (first
        | (go_at_call 7; refine kf.out.mono ?_; rintro e w1 ⟨rfl, hb1⟩; have B1 := Lib.hid hb1; clear hb1)
        | (go_at_call 8; refine (kp.out _ B1.out).mono ?_; rintro e w2 ⟨rfl, m, rfl⟩; have B2 := Lib.hid (below_drewN B1.out m))
        | (go_at_call 9; refine (kq.out _).mono ?_; rintro e w3 ⟨rfl, rfl⟩)
        | (go_at_call 10; refine (kw.out _).mono ?_; rintro e w3 ⟨rfl, rfl⟩)
        | (go_at_call 11; refine (kv.out _).mono ?_; rintro e w3 ⟨rfl, rfl⟩)
        | (go_at_call 12; refine (kj.out _).mono ?_; rintro e w4 ⟨rfl, hb4⟩; have B4 := Lib.hid (B2.out.trans (hb4.mono B2.out.size)); clear hb4)
        | (go_at_call 13; refine (ks.out _ B4.out).mono ?_; rintro e w5 ⟨rfl, hb5⟩; have B5 := Lib.hid (B4.out.trans (hb5.mono B4.out.size)); clear hb5)
        | (go_at_call 14; refine (kr.out _ B5.out).mono ?_; rintro e w6 ⟨rfl, hb6⟩; have B6 := Lib.hid (B5.out.trans (hb6.mono B5.out.size)); clear hb6))
      go_ret
      exact ⟨rfl, B6.out⟩
  · have h30' : 30 < (s.size : Int) := by omega
    clear htab hE
    go_enter Tryd.func3, Tryd.ntmps3
    go_wp2_with (go_at_call 7; refine kf.out.mono ?_; rintro e w1 ⟨rfl, hb1⟩)
    go_ret
    exact ⟨rfl, hb1⟩

end Go.Proofs.YtepilofedebmeaaDoor

/-
  The reader's numbers and colors, walked over the program.
-/
import Derived.Test.YtenmkopiddmieabGreatDoorParseTry
namespace Go.Proofs.YtenmkopiddmieabGreatDoor
open Go.RowKit

theorem size_t (t : List UInt8) : (⟨t.toArray⟩ : ByteArray).size = t.length := by rw [Lib.size_eq]

theorem num_any {x : Cx} {q : Nat} {w0 W : World} {s : PP.St} (t : List UInt8) (ht : t.length ≤ 24) (h : Hid (At x q w0 s W)) :
    Calls Tryz.prog 92 #[.string ⟨t.toArray⟩] W fun e w' => e = .returned (pv x.ea (NP.parse t)) ∧ Hid (At x q w0 s w') := by
  refine (parse_any ⟨t.toArray⟩ W (by rw [size_t]; omega) x.ea (At.errs h).1).mono ?_
  rintro e w' ⟨rfl, m, rfl⟩
  exact ⟨rfl, At.drewN h m⟩
theorem whl_any {x : Cx} {q : Nat} {w0 W : World} {s : PP.St} (t : List UInt8) (h : Hid (At x q w0 s W)) :
    Calls Tryz.prog 48 #[.string ⟨t.toArray⟩] W fun e w' => e = .returned (wv (NP.whole t)) ∧ Hid (At x q w0 s w') := by
  refine (whole_any ⟨t.toArray⟩ W).mono ?_
  rintro e w' ⟨rfl, rfl⟩
  exact ⟨rfl, h⟩
def Ccells (c : PP.Col) : Array Value := #[.int .u8 (c.r : Nat), .int .u8 (c.g : Nat), .int .u8 (c.b : Nat), .int .u8 (c.a : Nat)]
def clv (a : Addr) : Option PP.Col → Value
  | some c => .tuple #[.agg (Ccells c), .nilIface]
  | none => .tuple #[.agg #[.int .u8 0, .int .u8 0, .int .u8 0, .int .u8 0], .iface 167 (.pointer (some a))]
theorem col_any {x : Cx} {q : Nat} {w0 W : World} {s : PP.St} (t : List UInt8) (h : Hid (At x q w0 s W)) :
    Calls Tryz.prog 93 #[.string ⟨t.toArray⟩] W fun e w' => e = .returned (clv x.ea (PP.colOf t)) ∧ Hid (At x q w0 s w') := by
  refine (CW.parse_any ⟨t.toArray⟩ x.ea W ⟨(At.errs h).1, (At.errs h).2.2.1⟩).mono ?_
  rintro e w' ⟨h1, hb⟩
  refine ⟨?_, At.keep h hb⟩
  have hc : CP.bytes ⟨t.toArray⟩ = t.map UInt8.toNat := by unfold CP.bytes; simp
  rw [hc] at h1
  unfold PP.colOf
  rcases h1 with ⟨r, g, b, a, h2, rfl⟩ | ⟨h2, rfl⟩
  · rw [h2]; rfl
  · rw [h2]; rfl

set_option maxRecDepth 20000 in
theorem number_any {x : Cx} {q : Nat} {w0 W : World} {s : PP.St} (h : Hid (At x q w0 s W)) :
    Calls Tryz.prog 77 #[.pointer (some ⟨q, 0, none⟩)] W fun e w' => e = .returned (.int .i64 (PP.numb s).1) ∧ Hid (At x q w0 (PP.numb s).2 w') := by
  have k1 := hid'' (next_any h)
  have hfit := (nx_fit (At.rd h)).1
  have h1 : wagg s.nx = .agg #[.int .i64 (s.nx.1 : Nat), .int .i64 (s.nx.2.1 : Nat), .string ⟨s.nx.2.2.toArray⟩] := rfl
  rw [h1] at k1
  obtain ⟨f0, f1, f2⟩ := fld_w (s.nx.1 : Nat) (s.nx.2.1 : Nat) ⟨s.nx.2.2.toArray⟩
  have kn : Hid (∀ w0 W, Hid (At x q w0 s W) → Calls Tryz.prog 92 #[.string ⟨s.nx.2.2.toArray⟩] W fun e w' => e = .returned (pv x.ea (NP.parse s.nx.2.2)) ∧ Hid (At x q w0 s w')) := fun w0 W H => num_any _ hfit H
  have HA : Hid (PP.numb s = match NP.parse s.nx.2.2 with | some n => (n, s.tl) | none => (0, (s.fail 0).tl)) := by show _ = _; rfl
  rw [HA.out]
  obtain ⟨R, hR⟩ : ∃ R, NP.parse s.nx.2.2 = R := ⟨_, rfl⟩
  rw [hR] at kn ⊢
  clear h h1 hfit hR HA
  cases R with
  | some n =>
    simp only [pv] at kn ⊢
    go_enter Tryz.func77, Tryz.ntmps77
    go_wp2_with (first
      | (go_at_call 50; refine (take_any H2).mono ?_; rintro e w3 ⟨rfl, H3⟩)
      | (go_at_call 92; refine (kn.out _ _ H1).mono ?_; rintro e w2 ⟨rfl, H2⟩)
      | (go_at_call 49; refine k1.out.mono ?_; rintro e w1 ⟨rfl, H1, B1⟩))
    go_ret
    exact ⟨rfl, H3⟩
  | none =>
    simp only [pv] at kn ⊢
    go_enter Tryz.func77, Tryz.ntmps77
    go_wp2_with (first
      | (go_at_call 50; refine (take_any H3).mono ?_; rintro e w4 ⟨rfl, H4⟩)
      | (go_at_call 47; refine (fail0_any H2).mono ?_; rintro e w3 ⟨rfl, H3⟩)
      | (go_at_call 92; refine (kn.out _ _ H1).mono ?_; rintro e w2 ⟨rfl, H2⟩; obtain ⟨c1, c2, c3, c4, c5⟩ := At.errs H2)
      | (go_at_call 49; refine k1.out.mono ?_; rintro e w1 ⟨rfl, H1, B1⟩))
    go_ret
    exact ⟨rfl, H4⟩

set_option maxRecDepth 20000 in
theorem wholeR_any {x : Cx} {q : Nat} {w0 W : World} {s : PP.St} (h : Hid (At x q w0 s W)) :
    Calls Tryz.prog 27 #[.pointer (some ⟨q, 0, none⟩)] W fun e w' => e = .returned (.int .i64 ((PP.whol s).1 : Nat)) ∧ Hid (At x q w0 (PP.whol s).2 w') := by
  have k1 := hid'' (next_any h)
  have h1 : wagg s.nx = .agg #[.int .i64 (s.nx.1 : Nat), .int .i64 (s.nx.2.1 : Nat), .string ⟨s.nx.2.2.toArray⟩] := rfl
  rw [h1] at k1
  obtain ⟨f0, f1, f2⟩ := fld_w (s.nx.1 : Nat) (s.nx.2.1 : Nat) ⟨s.nx.2.2.toArray⟩
  have kn : Hid (∀ w0 W, Hid (At x q w0 s W) → Calls Tryz.prog 48 #[.string ⟨s.nx.2.2.toArray⟩] W fun e w' => e = .returned (wv (NP.whole s.nx.2.2)) ∧ Hid (At x q w0 s w')) := fun w0 W H => whl_any _ H
  have HA : Hid (PP.whol s = match NP.whole s.nx.2.2 with | some n => (n, s.tl) | none => (0, (s.fail 0).tl)) := by show _ = _; rfl
  rw [HA.out]
  obtain ⟨R, hR⟩ : ∃ R, NP.whole s.nx.2.2 = R := ⟨_, rfl⟩
  rw [hR] at kn ⊢
  clear h h1 hR HA
  cases R with
  | some n =>
    simp only [wv, Option.getD_some, Option.isSome_some] at kn ⊢
    go_enter Tryz.func27, Tryz.ntmps27
    go_wp2_with (first
      | (go_at_call 50; refine (take_any H2).mono ?_; rintro e w3 ⟨rfl, H3⟩)
      | (go_at_call 48; refine (kn.out _ _ H1).mono ?_; rintro e w2 ⟨rfl, H2⟩)
      | (go_at_call 49; refine k1.out.mono ?_; rintro e w1 ⟨rfl, H1, B1⟩))
    go_ret
    exact ⟨rfl, H3⟩
  | none =>
    simp only [wv, Option.getD_none, Option.isSome_none] at kn ⊢
    go_enter Tryz.func27, Tryz.ntmps27
    go_wp2_with (first
      | (go_at_call 50; refine (take_any H3).mono ?_; rintro e w4 ⟨rfl, H4⟩)
      | (go_at_call 47; refine (fail0_any H2).mono ?_; rintro e w3 ⟨rfl, H3⟩)
      | (go_at_call 48; refine (kn.out _ _ H1).mono ?_; rintro e w2 ⟨rfl, H2⟩; obtain ⟨c1, c2, c3, c4, c5⟩ := At.errs H2)
      | (go_at_call 49; refine k1.out.mono ?_; rintro e w1 ⟨rfl, H1, B1⟩))
    go_ret
    exact ⟨rfl, H4⟩

set_option maxRecDepth 20000 in
theorem turn_any {x : Cx} {q : Nat} {w0 W : World} {s : PP.St} (h : Hid (At x q w0 s W)) :
    Calls Tryz.prog 108 #[.pointer (some ⟨q, 0, none⟩)] W fun e w' => e = .returned (.int .i64 ((PP.turn s).1 : Nat)) ∧ Hid (At x q w0 (PP.turn s).2 w') := by
  have k1 := hid'' (next_any h)
  have h1 : wagg s.nx = .agg #[.int .i64 (s.nx.1 : Nat), .int .i64 (s.nx.2.1 : Nat), .string ⟨s.nx.2.2.toArray⟩] := rfl
  rw [h1] at k1
  obtain ⟨f0, f1, f2⟩ := fld_w (s.nx.1 : Nat) (s.nx.2.1 : Nat) ⟨s.nx.2.2.toArray⟩
  have kn : Hid (∀ w0 W, Hid (At x q w0 s W) → Calls Tryz.prog 48 #[.string ⟨s.nx.2.2.toArray⟩] W fun e w' => e = .returned (wv (NP.whole s.nx.2.2)) ∧ Hid (At x q w0 s w')) := fun w0 W H => whl_any _ H
  have HA : Hid (PP.turn s = PP.whol (match NP.whole s.nx.2.2 with | some n => if 3 < n then s.fail 5 else s | none => s)) := by show _ = _; rfl
  rw [HA.out]
  obtain ⟨R, hR⟩ : ∃ R, NP.whole s.nx.2.2 = R := ⟨_, rfl⟩
  rw [hR] at kn ⊢
  clear h h1 hR HA
  cases R with
  | some n =>
    simp only [wv, Option.getD_some, Option.isSome_some] at kn ⊢
    by_cases h3 : 3 < n
    · rw [if_pos h3]
      have d3 : (3 : Int) < (n : Int) := by omega
      go_enter Tryz.func108, Tryz.ntmps108
      go_wp2_with (first
        | (go_at_call 27; refine (wholeR_any H3).mono ?_; rintro e w4 ⟨rfl, H4⟩)
        | (go_at_call 47; refine (fail5_any H2).mono ?_; rintro e w3 ⟨rfl, H3⟩)
        | (go_at_call 48; refine (kn.out _ _ H1).mono ?_; rintro e w2 ⟨rfl, H2⟩; obtain ⟨c1, c2, c3, c4, c5⟩ := At.errs H2)
        | (go_at_call 49; refine k1.out.mono ?_; rintro e w1 ⟨rfl, H1, B1⟩))
      go_ret
      exact ⟨rfl, H4⟩
    · rw [if_neg h3]
      have d3 : ¬ (3 : Int) < (n : Int) := by omega
      go_enter Tryz.func108, Tryz.ntmps108
      go_wp2_with (first
        | (go_at_call 27; refine (wholeR_any H2).mono ?_; rintro e w4 ⟨rfl, H4⟩)
        | (go_at_call 48; refine (kn.out _ _ H1).mono ?_; rintro e w2 ⟨rfl, H2⟩)
        | (go_at_call 49; refine k1.out.mono ?_; rintro e w1 ⟨rfl, H1, B1⟩))
      go_ret
      exact ⟨rfl, H4⟩
  | none =>
    simp only [wv, Option.getD_none, Option.isSome_none] at kn ⊢
    go_enter Tryz.func108, Tryz.ntmps108
    go_wp2_with (first
      | (go_at_call 27; refine (wholeR_any H2).mono ?_; rintro e w4 ⟨rfl, H4⟩)
      | (go_at_call 48; refine (kn.out _ _ H1).mono ?_; rintro e w2 ⟨rfl, H2⟩)
      | (go_at_call 49; refine k1.out.mono ?_; rintro e w1 ⟨rfl, H1, B1⟩))
    go_ret
    exact ⟨rfl, H4⟩

end Go.Proofs.YtenmkopiddmieabGreatDoor

/-
  The reader's steps with a word that has to be there, or may be; walked over the program.
-/
import Derived.Test.YtenmkopiddmieabGreatDoorParseRow
namespace Go.Proofs.YtenmkopiddmieabGreatDoor
open Go.RowKit

theorem fail0_any {x : Cx} {q : Nat} {w0 W : World} {s : PP.St} (h : Hid (At x q w0 s W)) :
    Calls Tryz.prog 47 #[.pointer (some ⟨q, 0, none⟩), .iface 167 (.pointer (some x.ea))] W fun e w' => e = .returned (.tuple #[]) ∧ Hid (At x q w0 (s.fail 0) w') := fail_any 0 h
theorem fail5_any {x : Cx} {q : Nat} {w0 W : World} {s : PP.St} (h : Hid (At x q w0 s W)) :
    Calls Tryz.prog 47 #[.pointer (some ⟨q, 0, none⟩), .iface 167 (.pointer (some x.el))] W fun e w' => e = .returned (.tuple #[]) ∧ Hid (At x q w0 (s.fail 5) w') := fail_any 5 h
/-- The errors' variables, in hand. -/
theorem At.errs {x : Cx} {q : Nat} {w0 w : World} {s : PP.St} (h : Hid (At x q w0 s w)) : w.cell? ⟨1, 0, none⟩ = some (.iface 167 (.pointer (some x.ea))) ∧ w.cell? ⟨0, 0, none⟩ = some (.iface 167 (.pointer (some x.el))) ∧ 1 < w.heap.size ∧ 0 < w.heap.size ∧ 0 < w.heap.size := by
  have h1 := (At.rd h).lt
  have h2 := (At.rd h).q13
  exact ⟨(At.rd h).et, (At.rd h).el, by omega, by omega, by omega⟩

def St.try' (s : PP.St) (t : List UInt8) : PP.St := if s.is t = true then s.tl else s

set_option maxRecDepth 20000 in
theorem try_any {x : Cx} {q : Nat} {w0 W : World} {s : PP.St} (t : List UInt8) (h : Hid (At x q w0 s W)) :
    Calls Tryz.prog 28 #[.pointer (some ⟨q, 0, none⟩), .string ⟨t.toArray⟩] W fun e w' => e = .returned (.bool (s.is t)) ∧ Hid (At x q w0 (St.try' s t) w') := by
  have k1 := hid'' (is_any t h)
  have HN : Hid (St.try' s t = if s.is t = true then s.tl else s) := by show _ = _; rfl
  obtain ⟨b, hb⟩ : ∃ b, s.is t = b := ⟨_, rfl⟩
  rw [hb] at k1 HN ⊢
  obtain ⟨T, hT⟩ : ∃ T : ByteArray, ⟨t.toArray⟩ = T := ⟨_, rfl⟩
  rw [hT] at k1 ⊢
  clear h hb hT
  rw [HN.out]
  cases b with
  | true =>
    go_enter Tryz.func28, Tryz.ntmps28
    go_wp2_with (first
      | (go_at_call 50; refine (take_any H1).mono ?_; rintro e w2 ⟨rfl, H2⟩)
      | (go_at_call 51; refine k1.out.mono ?_; rintro e w1 ⟨rfl, H1, B1⟩))
    go_ret
    exact ⟨rfl, H2⟩
  | false =>
    go_enter Tryz.func28, Tryz.ntmps28
    go_wp2_with (first
      | (go_at_call 51; refine k1.out.mono ?_; rintro e w1 ⟨rfl, H1, B1⟩))
    go_ret
    exact ⟨rfl, H1⟩

set_option maxRecDepth 20000 in
theorem skip_any {x : Cx} {q : Nat} {w0 W : World} {s : PP.St} (t : List UInt8) (h : Hid (At x q w0 s W)) :
    Calls Tryz.prog 26 #[.pointer (some ⟨q, 0, none⟩), .string ⟨t.toArray⟩] W fun e w' => e = .returned (.tuple #[]) ∧ Hid (At x q w0 (s.skip t) w') := by
  have k1 := hid'' (try_any t h)
  have HN : Hid (s.skip t = if s.is t = true then s.tl else s.fail 0) := by show _ = _; rfl
  have HT : Hid (St.try' s t = if s.is t = true then s.tl else s) := by show _ = _; rfl
  obtain ⟨b, hb⟩ : ∃ b, s.is t = b := ⟨_, rfl⟩
  rw [hb] at k1 HN HT
  obtain ⟨T, hT⟩ : ∃ T : ByteArray, ⟨t.toArray⟩ = T := ⟨_, rfl⟩
  rw [hT] at k1 ⊢
  rw [HT.out] at k1
  rw [HN.out]
  clear h hb hT HN HT
  cases b with
  | true =>
    go_enter Tryz.func26, Tryz.ntmps26
    go_wp2_with (go_at_call 28; refine k1.out.mono ?_; rintro e w1 ⟨rfl, H1⟩)
    go_end0
    exact ⟨rfl, H1⟩
  | false =>
    go_enter Tryz.func26, Tryz.ntmps26
    go_wp2_with (first
      | (go_at_call 47; refine (fail0_any H1).mono ?_; rintro e w2 ⟨rfl, H2⟩)
      | (go_at_call 28; refine k1.out.mono ?_; rintro e w1 ⟨rfl, H1⟩; have H1 : Hid (At x q w0 s w1) := H1; obtain ⟨c1, c2, c3, c4, c5⟩ := At.errs H1))
    go_end0
    exact ⟨rfl, H2⟩

set_option maxRecDepth 20000 in
theorem name_any {x : Cx} {q : Nat} {w0 W : World} {s : PP.St} (h : Hid (At x q w0 s W)) :
    Calls Tryz.prog 76 #[.pointer (some ⟨q, 0, none⟩)] W fun e w' => e = .returned (wagg (PP.nameW s).1) ∧ Hid (At x q w0 (PP.nameW s).2 w') := by
  have HW := At.alloc (At.new h) (.cells #[.int .i64 0, .int .i64 0, .string ⟨#[]⟩] 83)
  have k1 := hid'' (need_any 1 (At.new HW))
  have HM : Hid (Mk q w0 (W.alloc (.cells #[.int .i64 0, .int .i64 0, .string ⟨#[]⟩] 83))) := (At.mk' h).alloc _
  have B0 : Hid (Blk (W.alloc (.cells #[.int .i64 0, .int .i64 0, .string ⟨#[]⟩] 83)) W.heap.size 83 #[.int .i64 0, .int .i64 0, .string ⟨#[]⟩]) := blk_new _ _ _
  have hq : q < W.heap.size := (At.rd h).lt
  have hs0 := At.size h
  have HA : Hid (PP.nameW s = ((s.need 1).nx, (s.need 1).tl)) := by show _ = _; rfl
  rw [HA.out]
  obtain ⟨z, hz⟩ : ∃ z, s.need 1 = z := ⟨_, rfl⟩
  rw [hz] at k1 ⊢
  have hv : wagg z.nx = .agg #[.int .i64 (z.nx.1 : Nat), .int .i64 (z.nx.2.1 : Nat), .string ⟨z.nx.2.2.toArray⟩] := rfl
  have kt : Hid (∀ w0 W, Hid (At x q w0 z W) → Calls Tryz.prog 50 #[.pointer (some ⟨q, 0, none⟩)] W fun e w' => e = .returned (.agg #[.int .i64 (z.nx.1 : Nat), .int .i64 (z.nx.2.1 : Nat), .string ⟨z.nx.2.2.toArray⟩]) ∧ Hid (At x q w0 z.tl w')) := fun w0 W H => by
    have := take_any H
    rw [hv] at this
    exact this
  show Calls _ _ _ _ fun e w' => e = .returned (wagg z.nx) ∧ Hid (At x q w0 z.tl w')
  rw [hv]
  clear h HA hz hv HW
  go_enter Tryz.func76, Tryz.ntmps76
  go_wp2_with (first
    | go_at_call 50
      refine (kt.out _ _ H1).mono ?_
      rintro e w2 ⟨rfl, H2⟩
      have X1 : Hid (Blk w2 W.heap.size 83 #[.int .i64 0, .int .i64 0, .string ⟨#[]⟩]) := At.box H2 B0.out (by omega)
      have hx := X1.out.lt
      obtain ⟨⟨x0, x1, x2⟩, y0, y1, y2⟩ := blk3 X1.out
    | (go_at_call 52; refine k1.out.mono ?_; rintro e w1 ⟨rfl, H1⟩))
  have R1 := At.row (At.onto HM.out H2) X1.out (by decide) hq hs0 0 [.int .i64 (z.nx.1 : Nat), .int .i64 (z.nx.2.1 : Nat), .string ⟨z.nx.2.2.toArray⟩]
  refine bodyPost_ret (v := .agg #[.int .i64 (z.nx.1 : Nat), .int .i64 (z.nx.2.1 : Nat), .string ⟨z.nx.2.2.toArray⟩]) (by simp [results, Tryz.results76, go_sem, x0, x1, x2]) rfl ⟨rfl, ?_⟩
  exact R1

end Go.Proofs.YtenmkopiddmieabGreatDoor

/-
  The reader's vals and refs, walked over the program.
-/
import Derived.Test.YtenmkopiddmieabGreatDoorParseVal2
namespace Go.Proofs.YtenmkopiddmieabGreatDoor
open Go.RowKit

def valL (v : PP.Val) : List Value := [.string ⟨v.name.toArray⟩, .int .i64 v.n, .int .i64 (v.pos : Nat)]
def refL (r : PP.Ref) : List Value := [.string ⟨r.name.toArray⟩, .int .u8 (r.c.r : Nat), .int .u8 (r.c.g : Nat), .int .u8 (r.c.b : Nat), .int .u8 (r.c.a : Nat), .int .i64 (r.pos : Nat)]
theorem valL_len (v : PP.Val) : (valL v).length = 3 := rfl
theorem refL_len (v : PP.Ref) : (refL v).length = 6 := rfl

set_option maxRecDepth 20000 in
set_option maxHeartbeats 1000000 in
theorem val_any {x : Cx} {q : Nat} {w0 W : World} {s : PP.St} (h : Hid (At x q w0 s W)) :
    Calls Tryz.prog 81 #[.pointer (some ⟨q, 0, none⟩)] W fun e w' => e = .returned (.agg (valL (PP.val s).1).toArray) ∧ Hid (At x q w0 (PP.val s).2 w') := by
  have HW := At.alloc (At.new h) (.cells #[.string ⟨#[]⟩, .int .i64 0, .int .i64 0] 65)
  have k1 := hid'' (next_any (At.new HW))
  have HM : Hid (Mk q w0 (W.alloc (.cells #[.string ⟨#[]⟩, .int .i64 0, .int .i64 0] 65))) := (At.mk' h).alloc _
  have B0 : Hid (Blk (W.alloc (.cells #[.string ⟨#[]⟩, .int .i64 0, .int .i64 0] 65)) W.heap.size 65 #[.string ⟨#[]⟩, .int .i64 0, .int .i64 0]) := blk_new _ _ _
  have hq : q < W.heap.size := (At.rd h).lt
  have hs0 := At.size h
  have h1 : wagg s.nx = .agg #[.int .i64 (s.nx.1 : Nat), .int .i64 (s.nx.2.1 : Nat), .string ⟨s.nx.2.2.toArray⟩] := rfl
  rw [h1] at k1
  obtain ⟨z, hz⟩ : ∃ z, s.nx.1 = z := ⟨_, rfl⟩
  obtain ⟨p, hp⟩ : ∃ p, s.nx.2.1 = p := ⟨_, rfl⟩
  obtain ⟨U, hU⟩ : ∃ U : ByteArray, ⟨s.nx.2.2.toArray⟩ = U := ⟨_, rfl⟩
  have HV : Hid (wagg s.nx = .agg #[.int .i64 (z : Nat), .int .i64 (p : Nat), .string U]) := by show _ = _; rw [h1, hz, hp, hU]
  have HA : Hid (PP.val s = if z = 1 then (⟨s.nx.2.2, 0, p⟩, s.tl) else (⟨[], (PP.numb s).1, p⟩, (PP.numb s).2)) := by show _ = _; rw [← hz, ← hp]; rfl
  rw [hz, hp, hU] at k1
  rw [HA.out]
  by_cases hk : z = 1
  · subst hk
    rw [if_pos rfl]
    have e1 : (Value.agg (valL ⟨s.nx.2.2, 0, p⟩).toArray) = .agg #[.string U, .int .i64 0, .int .i64 (p : Nat)] := by rw [← hU]; rfl
    show Calls _ _ _ _ fun e w' => e = .returned (.agg (valL ⟨s.nx.2.2, 0, p⟩).toArray) ∧ Hid (At x q w0 s.tl w')
    rw [e1]
    have kt : Hid (∀ w0 W, Hid (At x q w0 s W) → Calls Tryz.prog 50 #[.pointer (some ⟨q, 0, none⟩)] W fun e w' => e = .returned (.agg #[.int .i64 1, .int .i64 (p : Nat), .string U]) ∧ Hid (At x q w0 s.tl w')) := fun w0 W H => by
      have := take_any H
      rw [HV.out] at this
      exact this
    obtain ⟨f0, f1, f2⟩ := fld_w 1 (p : Nat) U
    clear h h1 hz hp hU HV HA e1 HW
    go_enter Tryz.func81, Tryz.ntmps81
    go_wp2_with (first
      | go_at_call 49
        refine k1.out.mono ?_
        rintro e w1 ⟨rfl, H1, B1⟩
        have H2 := At.new (At.alloc H1 (.cells #[.int .i64 1, .int .i64 (p : Nat), .string U] 83)))
    go_region_with (first
      | go_at_call 50
        refine (kt.out _ _ (by first | exact H2 | exact At.drew H2)).mono ?_
        rintro e w3 ⟨rfl, H3⟩
        have X1 : Hid (Blk w3 W.heap.size 65 #[.string ⟨#[]⟩, .int .i64 0, .int .i64 0]) := At.box H3 (Blk.alloc (At.box H1 B0.out (by omega)) _) (by omega)
        have hx := X1.out.lt
        obtain ⟨⟨x0, x1, x2⟩, y0, y1, y2⟩ := blk3 X1.out
        have Z1 : Hid (Blk w3 w1.heap.size 83 #[.int .i64 1, .int .i64 (p : Nat), .string U]) := At.box H3 (blk_new _ _ _) (by have := (At.rd H1).lt; omega)
        obtain ⟨⟨z0, z1, z2⟩, -⟩ := blk3 Z1.out
        have hz := Z1.out.lt)
    all_goals go_wp2
    all_goals
      have R1 := At.row (At.onto HM.out (At.onto ((At.mk' H1).alloc _) H3)) X1.out (by decide) hq hs0 0 [.string U, .int .i64 0, .int .i64 (p : Nat)]
      refine bodyPost_ret (v := .agg #[.string U, .int .i64 0, .int .i64 (p : Nat)]) (by simp [results, Tryz.results81, go_sem, x0, x1, x2]) rfl ⟨rfl, ?_⟩
      first | exact R1 | exact At.drew R1
  · rw [if_neg hk]
    obtain ⟨m, hm⟩ : ∃ m, (PP.numb s).1 = m := ⟨_, rfl⟩
    have e1 : (Value.agg (valL ⟨[], m, p⟩).toArray) = .agg #[.string ⟨#[]⟩, .int .i64 m, .int .i64 (p : Nat)] := by rfl
    show Calls _ _ _ _ fun e w' => e = .returned (.agg (valL ⟨[], (PP.numb s).1, p⟩).toArray) ∧ Hid (At x q w0 (PP.numb s).2 w')
    rw [hm, e1]
    have kt : Hid (∀ w0 W, Hid (At x q w0 s W) → Calls Tryz.prog 77 #[.pointer (some ⟨q, 0, none⟩)] W fun e w' => e = .returned (.int .i64 m) ∧ Hid (At x q w0 (PP.numb s).2 w')) := fun w0 W H => by
      have := number_any H
      rw [hm] at this
      exact this
    obtain ⟨f0, f1, f2⟩ := fld_w (z : Nat) (p : Nat) U
    have d1 : ((z : Int) == 1) = false := by simp; omega
    have d2 : ¬ (z : Int) = 1 := by omega
    clear h h1 hz hp hU HV HA e1 HW hm hk
    go_enter Tryz.func81, Tryz.ntmps81
    go_wp2_with (first
      | go_at_call 49
        refine k1.out.mono ?_
        rintro e w1 ⟨rfl, H1, B1⟩
        have H2 := At.new (At.alloc H1 (.cells #[.int .i64 (z : Nat), .int .i64 (p : Nat), .string U] 83)))
    go_region_with (first
      | go_at_call 77
        refine (kt.out _ _ (by first | exact H2 | exact At.drew H2)).mono ?_
        rintro e w3 ⟨rfl, H3⟩
        have X1 : Hid (Blk w3 W.heap.size 65 #[.string ⟨#[]⟩, .int .i64 0, .int .i64 0]) := At.box H3 (Blk.alloc (At.box H1 B0.out (by omega)) _) (by omega)
        have hx := X1.out.lt
        obtain ⟨⟨x0, x1, x2⟩, y0, y1, y2⟩ := blk3 X1.out
        have Z1 : Hid (Blk w3 w1.heap.size 83 #[.int .i64 (z : Nat), .int .i64 (p : Nat), .string U]) := At.box H3 (blk_new _ _ _) (by have := (At.rd H1).lt; omega)
        obtain ⟨⟨z0, z1, z2⟩, -⟩ := blk3 Z1.out
        have hz := Z1.out.lt)
    all_goals go_wp2
    all_goals
      have R1 := At.row (At.onto HM.out (At.onto ((At.mk' H1).alloc _) H3)) X1.out (by decide) hq hs0 0 [.string ⟨#[]⟩, .int .i64 m, .int .i64 (p : Nat)]
      refine bodyPost_ret (v := .agg #[.string ⟨#[]⟩, .int .i64 m, .int .i64 (p : Nat)]) (by simp [results, Tryz.results81, go_sem, x0, x1, x2]) rfl ⟨rfl, ?_⟩
      first | exact R1 | exact At.drew R1

end Go.Proofs.YtenmkopiddmieabGreatDoor

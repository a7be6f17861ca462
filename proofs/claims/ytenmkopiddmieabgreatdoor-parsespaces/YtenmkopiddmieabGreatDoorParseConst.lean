/-
  A constant with its name, walked over the program.
-/
import Derived.Test.YtenmkopiddmieabGreatDoorParseItems
namespace Go.Proofs.YtenmkopiddmieabGreatDoor
open Go.RowKit

set_option maxRecDepth 20000 in
set_option maxHeartbeats 4000000 in
theorem const_any {x : Cx} {q : Nat} {w0 W : World} {s : PP.St} (h : Hid (At x q w0 s W)) :
    Calls Tryz.prog 54 #[.pointer (some ⟨q, 0, none⟩)] W fun e w' => e = .returned (.agg (valL (PP.const s).1).toArray) ∧ Hid (At x q w0 (PP.const s).2 w') := by
  have HW := At.alloc (At.new h) (.cells #[.string ⟨#[]⟩, .int .i64 0, .int .i64 0] 54)
  have HM : Hid (Mk q w0 (W.alloc (.cells #[.string ⟨#[]⟩, .int .i64 0, .int .i64 0] 54))) := (At.mk' h).alloc _
  have B0 : Hid (Blk (W.alloc (.cells #[.string ⟨#[]⟩, .int .i64 0, .int .i64 0] 54)) W.heap.size 54 #[.string ⟨#[]⟩, .int .i64 0, .int .i64 0]) := blk_new _ _ _
  have hq : q < W.heap.size := (At.rd h).lt
  have hs0 := At.size h
  have k1 := hid'' (name_any (At.new HW))
  obtain ⟨n, hn⟩ : ∃ n, PP.nameW s = n := ⟨_, rfl⟩
  obtain ⟨⟨nk, np, nm⟩, s1⟩ := n
  rw [hn] at k1
  have k1 : Hid (Calls Tryz.prog 76 #[.pointer (some ⟨q, 0, none⟩)] (W.alloc (.cells #[.string ⟨#[]⟩, .int .i64 0, .int .i64 0] 54)) fun e w' => e = .returned (.agg #[.int .i64 (nk : Nat), .int .i64 (np : Nat), .string ⟨nm.toArray⟩]) ∧ Hid (At x q (W.alloc (.cells #[.string ⟨#[]⟩, .int .i64 0, .int .i64 0] 54)) s1 w')) := k1
  obtain ⟨s2, hs2⟩ : ∃ s2, s1.skip PP.m_eq = s2 := ⟨_, rfl⟩
  obtain ⟨v, hv⟩ : ∃ v, PP.numb s2 = v := ⟨_, rfl⟩
  obtain ⟨m, s3⟩ := v
  have HA : Hid (PP.const s = (⟨nm, m, np⟩, s3.skip PP.m_semi)) := by
    show _ = _
    unfold PP.const
    rw [hn]
    simp only [hs2, hv]
  rw [HA.out]
  have ks : Hid (∀ w0 W, Hid (At x q w0 s1 W) → Calls Tryz.prog 26 #[.pointer (some ⟨q, 0, none⟩), .string ⟨#[61]⟩] W fun e w' => e = .returned (.tuple #[]) ∧ Hid (At x q w0 s2 w')) := fun w0 W H => by
    have := skip_any PP.m_eq H
    rw [hs2] at this
    exact this
  have kv : Hid (∀ w0 W, Hid (At x q w0 s2 W) → Calls Tryz.prog 77 #[.pointer (some ⟨q, 0, none⟩)] W fun e w' => e = .returned (.int .i64 m) ∧ Hid (At x q w0 s3 w')) := fun w0 W H => by
    have := number_any H
    rw [hv] at this
    exact this
  have ke : Hid (∀ w0 W, Hid (At x q w0 s3 W) → Calls Tryz.prog 26 #[.pointer (some ⟨q, 0, none⟩), .string ⟨#[59]⟩] W fun e w' => e = .returned (.tuple #[]) ∧ Hid (At x q w0 (s3.skip PP.m_semi) w')) := fun w0 W H => skip_any PP.m_semi H
  obtain ⟨U, hU⟩ : ∃ U : ByteArray, ⟨nm.toArray⟩ = U := ⟨_, rfl⟩
  have HV : Hid ((Value.agg (valL ⟨nm, m, np⟩).toArray) = .agg #[.string U, .int .i64 m, .int .i64 (np : Nat)]) := by show _ = _; rw [← hU]; rfl
  rw [HV.out]
  rw [hU] at k1
  obtain ⟨f0, f1, f2⟩ := fld_w (nk : Nat) (np : Nat) U
  clear h hn hs2 hv HA HV hU HW
  go_enter Tryz.func54, Tryz.ntmps54
  go_upto_region 3 with (first
    | go_at_call 26
      refine (ks.out _ _ H2).mono ?_
      rintro e w3 ⟨rfl, H3⟩
      have Z3 : Hid (Blk w3 w1.heap.size 83 #[.int .i64 (nk : Nat), .int .i64 (np : Nat), .string U]) := At.box H3 (blk_new _ _ _) (by have := (At.rd H1).lt; omega)
      obtain ⟨⟨a0, a1, a2⟩, -⟩ := blk3 Z3.out
      have la := Z3.out.lt
    | go_at_call 76
      refine k1.out.mono ?_
      rintro e w1 ⟨rfl, H1⟩
      have H2 := At.new (At.alloc H1 (.cells #[.int .i64 (nk : Nat), .int .i64 (np : Nat), .string U] 83)))
  go_region_with (first
    | go_at_call 77
      refine (kv.out _ _ (by first | exact H3 | exact At.drew H3)).mono ?_
      rintro e w4 ⟨rfl, H4⟩
      have Z4 : Hid (Blk w4 w1.heap.size 83 #[.int .i64 (nk : Nat), .int .i64 (np : Nat), .string U]) := At.box H4 (blk_new _ _ _) (by have := (At.rd H1).lt; omega)
      obtain ⟨⟨b0, b1, b2⟩, -⟩ := blk3 Z4.out
      have lb := Z4.out.lt
    | go_at_call 77
      refine (kv.out _ _ (by first | exact At.drew (At.new (At.alloc H3 _)) | exact At.new (At.alloc H3 _))).mono ?_
      rintro e w4 ⟨rfl, H4⟩
      have Z4 : Hid (Blk w4 w1.heap.size 83 #[.int .i64 (nk : Nat), .int .i64 (np : Nat), .string U]) := At.box H4 (Blk.alloc Z3.out _) (by have := (At.rd H1).lt; omega)
      have C4 : Hid (Blk w4 w3.heap.size 54 #[.string ⟨#[]⟩, .int .i64 0, .int .i64 0]) := At.box H4 (blk_new w3 _ _) (by have := (At.rd H3).lt; omega)
      obtain ⟨⟨b0, b1, b2⟩, -⟩ := blk3 Z4.out
      have lb := Z4.out.lt
      obtain ⟨⟨c0, c1, c2⟩, d0, d1, d2⟩ := blk3 C4.out
      have lc := C4.out.lt)
  all_goals first
    | go_wp2_with (first
        | go_at_call 26
          refine (ke.out _ _ (At.new (by first | exact At.alloc H4 _ | exact At.drew (At.alloc H4 _) | exact At.alloc (At.drew H4) _))).mono ?_
          rintro e w5 ⟨rfl, H5⟩
          have X5 : Hid (Blk w5 W.heap.size 54 #[.string ⟨#[]⟩, .int .i64 0, .int .i64 0]) := At.box H5 (Blk.alloc (At.box H4 (Blk.alloc (At.box H1 B0.out (by omega)) _) (by omega)) _) (by omega)
          obtain ⟨⟨x0, x1, x2⟩, y0, y1, y2⟩ := blk3 X5.out
          have hx := X5.out.lt
          have S5 : Hid (Blk w5 w4.heap.size 54 #[.string U, .int .i64 m, .int .i64 (np : Nat)]) := At.box H5 (blk_new w4 _ _) (by have := (At.rd H4).lt; omega)
          obtain ⟨⟨z0, z1, z2⟩, -⟩ := blk3 S5.out
          have hz := S5.out.lt)
      have R1 := At.row (At.onto HM.out (At.onto ((At.mk' H1).alloc _) (At.onto ((At.mk' H4).alloc (.cells #[.string U, .int .i64 m, .int .i64 (np : Nat)] 54)) H5))) X5.out (by decide) hq hs0 0 [.string U, .int .i64 m, .int .i64 (np : Nat)]
      exact bodyPost_ret (v := .agg #[.string U, .int .i64 m, .int .i64 (np : Nat)]) (by simp [results, Tryz.results54, go_sem, x0, x1, x2]) rfl ⟨rfl, R1⟩
    | have h13 := At.size H3
      have h03 := At.size H1
      simp only [World.size_alloc] at h13 h03
      have HB := At.row (At.onto HM.out (At.onto ((At.mk' H1).alloc _) (At.onto ((At.mk' H3).alloc (.cells #[.string ⟨#[]⟩, .int .i64 0, .int .i64 0] 54)) H4))) C4.out (by decide) (by omega) (by omega) 0 [.string U, .int .i64 m, .int .i64 (np : Nat)]
      have XB : Hid (Blk (setRow w4 w3.heap.size 0 [.string U, .int .i64 m, .int .i64 (np : Nat)]) W.heap.size 54 #[.string ⟨#[]⟩, .int .i64 0, .int .i64 0]) := Blk.rowFar (by omega) _ _ _ _ (At.box H4 (Blk.alloc (At.box H3 (Blk.alloc (At.box H1 B0.out (by omega)) _) (by omega)) _) (by omega))
      have SB : Hid (Blk (setRow w4 w3.heap.size 0 [.string U, .int .i64 m, .int .i64 (np : Nat)]) w3.heap.size 54 #[.string U, .int .i64 m, .int .i64 (np : Nat)]) := Blk.row [.string U, .int .i64 m, .int .i64 (np : Nat)] 0 _ _ C4.out
      go_wp2_with (first
        | go_at_call 26
          refine (ke.out _ _ (At.new (by first | exact HB | exact At.drew HB))).mono ?_
          rintro e w5 ⟨rfl, H5⟩
          have X5 : Hid (Blk w5 W.heap.size 54 #[.string ⟨#[]⟩, .int .i64 0, .int .i64 0]) := At.box H5 XB.out (by omega)
          obtain ⟨⟨x0, x1, x2⟩, y0, y1, y2⟩ := blk3 X5.out
          have hx := X5.out.lt
          have S5 : Hid (Blk w5 w3.heap.size 54 #[.string U, .int .i64 m, .int .i64 (np : Nat)]) := At.box H5 SB.out (by omega)
          obtain ⟨⟨z0, z1, z2⟩, -⟩ := blk3 S5.out
          have hz := S5.out.lt)
      have R1 := At.row (At.onto (At.mk' HB) H5) X5.out (by decide) hq hs0 0 [.string U, .int .i64 m, .int .i64 (np : Nat)]
      exact bodyPost_ret (v := .agg #[.string U, .int .i64 m, .int .i64 (np : Nat)]) (by simp [results, Tryz.results54, go_sem, x0, x1, x2]) rfl ⟨rfl, R1⟩

end Go.Proofs.YtenmkopiddmieabGreatDoor

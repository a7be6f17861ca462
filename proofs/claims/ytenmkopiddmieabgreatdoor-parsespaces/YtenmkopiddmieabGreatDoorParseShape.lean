/-
  A shape with its name, walked over the program.
-/
import Derived.Test.YtenmkopiddmieabGreatDoorParseItems
namespace Go.Proofs.YtenmkopiddmieabGreatDoor
open Go.RowKit

set_option maxRecDepth 20000 in
set_option maxHeartbeats 4000000 in
theorem shape_any {x : Cx} {q : Nat} {w0 W : World} {s : PP.St} (h : Hid (At x q w0 s W)) :
    Calls Tryz.prog 58 #[.pointer (some ⟨q, 0, none⟩)] W fun e w' => ∃ y : PP.Shape × Value, e = .returned (.agg (shapeL y).toArray) ∧ y.1 = (PP.shape s).1 ∧ Hid (At x q w0 (PP.shape s).2 w') ∧ ShapeOk w' y := by
  have HW := At.alloc (At.new h) (.cells #[.string ⟨#[]⟩, .int .i64 0, .slice none 0 0] 62)
  have HM : Hid (Mk q w0 (W.alloc (.cells #[.string ⟨#[]⟩, .int .i64 0, .slice none 0 0] 62))) := (At.mk' h).alloc _
  have B0 : Hid (Blk (W.alloc (.cells #[.string ⟨#[]⟩, .int .i64 0, .slice none 0 0] 62)) W.heap.size 62 #[.string ⟨#[]⟩, .int .i64 0, .slice none 0 0]) := blk_new _ _ _
  have hq : q < W.heap.size := (At.rd h).lt
  have hs0 := At.size h
  have k1 := hid'' (name_any (At.new HW))
  obtain ⟨n, hn⟩ : ∃ n, PP.nameW s = n := ⟨_, rfl⟩
  obtain ⟨⟨nk, np, nm⟩, s1⟩ := n
  rw [hn] at k1
  have k1 : Hid (Calls Tryz.prog 76 #[.pointer (some ⟨q, 0, none⟩)] (W.alloc (.cells #[.string ⟨#[]⟩, .int .i64 0, .slice none 0 0] 62)) fun e w' => e = .returned (.agg #[.int .i64 (nk : Nat), .int .i64 (np : Nat), .string ⟨nm.toArray⟩]) ∧ Hid (At x q (W.alloc (.cells #[.string ⟨#[]⟩, .int .i64 0, .slice none 0 0] 62)) s1 w')) := k1
  obtain ⟨v, hv⟩ : ∃ v, PP.items s1 = v := ⟨_, rfl⟩
  obtain ⟨it, s3⟩ := v
  have HA : Hid (PP.shape s = (⟨nm, np, it⟩, s3)) := by
    show _ = _
    unfold PP.shape
    rw [hn]
    simp only [hv]
  rw [HA.out]
  have kv : Hid (∀ w0 W, Hid (At x q w0 s1 W) → Calls Tryz.prog 79 #[.pointer (some ⟨q, 0, none⟩)] W fun e w' => ∃ ad n cap, e = .returned (.slice ad n cap) ∧ ItemsAt w' (.slice ad n cap) it ∧ Hid (At x q w0 s3 w')) := fun w0 W H => by
    refine (items_any H).mono ?_
    rintro e w' ⟨v, rfl, h1, h2⟩
    rw [hv] at h1 h2
    obtain ⟨ad, n, cap, rfl⟩ := h1.slice
    exact ⟨ad, n, cap, rfl, h1, h2⟩
  obtain ⟨U, hU⟩ : ∃ U : ByteArray, ⟨nm.toArray⟩ = U := ⟨_, rfl⟩
  have HV : Hid (∀ v, (Value.agg (shapeL (⟨nm, np, it⟩, v)).toArray) = .agg #[.string U, .int .i64 (np : Nat), v]) := fun v => by rw [← hU]; rfl
  rw [hU] at k1
  obtain ⟨f0, f1, f2⟩ := fld_w (nk : Nat) (np : Nat) U
  clear h hn hv HA hU HW
  go_enter Tryz.func58, Tryz.ntmps58
  go_upto_region 2 with (first
    | go_at_call 76
      refine k1.out.mono ?_
      rintro e w1 ⟨rfl, H1⟩
      have H2 := At.new (At.alloc H1 (.cells #[.int .i64 (nk : Nat), .int .i64 (np : Nat), .string U] 83)))
  go_region_with (first
    | go_at_call 79
      refine (kv.out _ _ (by first | exact H2 | exact At.drew H2)).mono ?_
      rintro e w4 ⟨ad, n, cap, rfl, hit, H4⟩
      have HIT := hid'' hit
      have Z4 : Hid (Blk w4 w1.heap.size 83 #[.int .i64 (nk : Nat), .int .i64 (np : Nat), .string U]) := At.box H4 (blk_new _ _ _) (by have := (At.rd H1).lt; omega)
      obtain ⟨⟨b0, b1, b2⟩, -⟩ := blk3 Z4.out
      have lb := Z4.out.lt
      have X4 : Hid (Blk w4 W.heap.size 62 #[.string ⟨#[]⟩, .int .i64 0, .slice none 0 0]) := At.box H4 (Blk.alloc (At.box H1 B0.out (by omega)) _) (by omega)
      obtain ⟨⟨x0, x1, x2⟩, y0, y1, y2⟩ := blk3 X4.out
      have hx := X4.out.lt
      clear hit)
  all_goals go_wp2
  all_goals
    have R1 := At.row (At.onto HM.out (At.onto ((At.mk' H1).alloc _) H4)) X4.out (by decide) hq hs0 0 [.string U, .int .i64 (np : Nat), .slice ad n cap]
    refine bodyPost_ret (v := .agg #[.string U, .int .i64 (np : Nat), .slice ad n cap]) (by simp [results, Tryz.results58, go_sem, x0, x1, x2]) rfl ⟨(⟨nm, np, it⟩, .slice ad n cap), by rw [HV.out], rfl, by first | exact R1 | exact At.drew R1, ?_⟩
    have hit2 : ItemsAt (setRow w4 W.heap.size 0 [.string U, .int .i64 (np : Nat), .slice ad n cap]) (.slice ad n cap) it := HIT.out.kt (t := 62) (Kt.row X4.out 0 _)
    first | exact hit2 | exact ItemsAt.kt (t := 9) hit2 (Kt.below (Below.refl _ _).drew)

end Go.Proofs.YtenmkopiddmieabGreatDoor

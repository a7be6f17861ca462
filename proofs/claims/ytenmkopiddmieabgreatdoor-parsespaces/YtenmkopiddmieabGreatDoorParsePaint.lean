/-
  A command's rule and paint, walked over the program.
-/
import Derived.Test.YtenmkopiddmieabGreatDoorParseLaw
namespace Go.Proofs.YtenmkopiddmieabGreatDoor
open Go.RowKit

theorem paintL_one (p : PP.Paint) : (paintL p).toArray.all (·.oneCell') = true := by simp [paintL, Value.oneCell']
def paint0 : Array Value := #[.int .i64 0, .string ⟨#[]⟩, .int .u8 0, .int .u8 0, .int .u8 0, .int .u8 0, .int .i64 0, .string ⟨#[]⟩, .int .u8 0, .int .u8 0, .int .u8 0, .int .u8 0, .int .i64 0, .string ⟨#[]⟩, .int .i64 0, .int .i64 0, .string ⟨#[]⟩, .int .i64 0, .int .i64 0, .string ⟨#[]⟩, .int .i64 0, .int .i64 0, .string ⟨#[]⟩, .int .i64 0, .int .i64 0]
theorem paint0_size : paint0.size = 25 := rfl

set_option maxRecDepth 20000 in
theorem rule_any {x : Cx} {q : Nat} {w0 W : World} {s : PP.St} (h : Hid (At x q w0 s W)) :
    Calls Tryz.prog 80 #[.pointer (some ⟨q, 0, none⟩)] W fun e w' => e = .returned (.int .i64 ((PP.rule s).1 : Nat)) ∧ Hid (At x q w0 (PP.rule s).2 w') := by
  have k1 := hid'' (try_any PP.k_nonzero h)
  unfold PP.k_nonzero at k1
  have ks : Hid (∀ w0 W, Hid (At x q w0 s W) → Calls Tryz.prog 26 #[.pointer (some ⟨q, 0, none⟩), .string ⟨#[101, 118, 101, 110, 111, 100, 100]⟩] W fun e w' => e = .returned (.tuple #[]) ∧ Hid (At x q w0 (s.skip PP.k_evenodd) w')) := fun w0 W H => skip_any PP.k_evenodd H
  have HT : Hid (St.try' s [110, 111, 110, 122, 101, 114, 111] = if s.is [110, 111, 110, 122, 101, 114, 111] = true then s.tl else s) := by show _ = _; rfl
  have HA : Hid (PP.rule s = if s.is [110, 111, 110, 122, 101, 114, 111] = true then (1, s.tl) else (0, s.skip PP.k_evenodd)) := by show _ = _; rfl
  rw [HA.out]
  obtain ⟨b, hb⟩ : ∃ b, s.is [110, 111, 110, 122, 101, 114, 111] = b := ⟨_, rfl⟩
  rw [hb] at k1 HT ⊢
  rw [HT.out] at k1
  clear h hb HA HT
  cases b with
  | true =>
    have k1 : Hid (Calls Tryz.prog 28 #[.pointer (some ⟨q, 0, none⟩), .string ⟨#[110, 111, 110, 122, 101, 114, 111]⟩] W fun e w' => e = .returned (.bool true) ∧ Hid (At x q w0 s.tl w')) := k1
    go_enter Tryz.func80, Tryz.ntmps80
    go_wp2_with (go_at_call 28; refine k1.out.mono ?_; rintro e w1 ⟨rfl, H1⟩)
    go_ret
    exact ⟨rfl, H1⟩
  | false =>
    have k1 : Hid (Calls Tryz.prog 28 #[.pointer (some ⟨q, 0, none⟩), .string ⟨#[110, 111, 110, 122, 101, 114, 111]⟩] W fun e w' => e = .returned (.bool false) ∧ Hid (At x q w0 s w')) := k1
    go_enter Tryz.func80, Tryz.ntmps80
    go_wp2_with (first
      | (go_at_call 26; refine (ks.out _ _ H1).mono ?_; rintro e w2 ⟨rfl, H2⟩)
      | (go_at_call 28; refine k1.out.mono ?_; rintro e w1 ⟨rfl, H1⟩))
    go_ret
    exact ⟨rfl, H2⟩

theorem slice_v4 (K : Nat) (hK : K ≤ 4) (b : Nat) (W : World) : (Instr.sliceAt 67 (.pointer (some ⟨b, 13, none⟩)) none (some (.int .i64 (K : Nat))) none).run Tryz.prog W = .ok (.slice (some ⟨b, 13, none⟩) K 4) W := by
  have e : Tryz.prog.arrayLen 67 = 4 := by kernel_rfl
  have h := run_sliceAt_array_h (P := Tryz.prog) W 67 ⟨b, 13, none⟩ (by kernel_rfl) .i64 (K : Nat) (by omega) (by rw [e]; omega)
  rw [h, e]
  simp [go_sem, slicedAt, Addr.add]

set_option maxRecDepth 20000 in
set_option maxHeartbeats 2000000 in
theorem between1_any {x : Cx} {q : Nat} {w0 W : World} {s : PP.St} (h : Hid (At x q w0 s W)) :
    Calls Tryz.prog 96 #[.pointer (some ⟨q, 0, none⟩), .int .i64 1, .int .i64 4] W fun e w' => e = .returned (.agg (paintL (PP.between 1 4 s).1).toArray) ∧ Hid (At x q w0 (PP.between 1 4 s).2 w') := by
  have HW := At.alloc (At.new h) (.cells paint0 69)
  have HM : Hid (Mk q w0 (W.alloc (.cells paint0 69))) := (At.mk' h).alloc _
  have B0 : Hid (Blk (W.alloc (.cells paint0 69)) W.heap.size 69 paint0) := blk_new _ _ _
  have hq : q < W.heap.size := (At.rd h).lt
  have hs0 := At.size h
  have hpi : (Tryz.prog.info? 69).map (·.size) = some 25 := by kernel_rfl
  have k1 := hid'' (ref_any (At.new HW))
  obtain ⟨va, hva⟩ : ∃ v, PP.ref s = v := ⟨_, rfl⟩
  obtain ⟨⟨an, ⟨ar, ag, ab, aa⟩, ap⟩, s1⟩ := va
  obtain ⟨vb, hvb⟩ : ∃ v, PP.ref s1 = v := ⟨_, rfl⟩
  obtain ⟨⟨bn, ⟨br, bg, bb, ba⟩, bp⟩, s2⟩ := vb
  obtain ⟨vc, hvc⟩ : ∃ v, PP.val s2 = v := ⟨_, rfl⟩
  obtain ⟨⟨cn, ci, cp⟩, s3⟩ := vc
  obtain ⟨vd, hvd⟩ : ∃ v, PP.val s3 = v := ⟨_, rfl⟩
  obtain ⟨⟨dn, di, dp⟩, s4⟩ := vd
  obtain ⟨ve, hve⟩ : ∃ v, PP.val s4 = v := ⟨_, rfl⟩
  obtain ⟨⟨en, ei, ep⟩, s5⟩ := ve
  obtain ⟨vf, hvf⟩ : ∃ v, PP.val s5 = v := ⟨_, rfl⟩
  obtain ⟨⟨fn, fi, fp⟩, s6⟩ := vf
  have hvs : PP.vals 4 s2 = ([⟨cn, ci, cp⟩, ⟨dn, di, dp⟩, ⟨en, ei, ep⟩, ⟨fn, fi, fp⟩], s6) := by simp only [PP.vals, hvc, hvd, hve, hvf]
  have HA : Hid (PP.between 1 4 s = (⟨1, ⟨an, ⟨ar, ag, ab, aa⟩, ap⟩, ⟨bn, ⟨br, bg, bb, ba⟩, bp⟩, ⟨cn, ci, cp⟩, ⟨dn, di, dp⟩, ⟨en, ei, ep⟩, ⟨fn, fi, fp⟩⟩, s6)) := by
    show _ = _
    unfold PP.between
    rw [hva]
    simp only [hvb, hvs]
    rfl
  rw [HA.out]
  rw [hva] at k1
  have k1 : Hid (Calls Tryz.prog 97 #[.pointer (some ⟨q, 0, none⟩)] (W.alloc (.cells paint0 69)) fun e w' => e = .returned (.agg #[.string ⟨an.toArray⟩, .int .u8 (ar : Nat), .int .u8 (ag : Nat), .int .u8 (ab : Nat), .int .u8 (aa : Nat), .int .i64 (ap : Nat)]) ∧ Hid (At x q (W.alloc (.cells paint0 69)) s1 w')) := k1
  have k2 : Hid (∀ w0 W, Hid (At x q w0 s1 W) → Calls Tryz.prog 97 #[.pointer (some ⟨q, 0, none⟩)] W fun e w' => e = .returned (.agg #[.string ⟨bn.toArray⟩, .int .u8 (br : Nat), .int .u8 (bg : Nat), .int .u8 (bb : Nat), .int .u8 (ba : Nat), .int .i64 (bp : Nat)]) ∧ Hid (At x q w0 s2 w')) := fun w0 W H => by
    have := ref_any H
    rw [hvb] at this
    exact this
  obtain ⟨C, hC⟩ : ∃ C : Array Value, #[.int .i64 1, .string ⟨an.toArray⟩, .int .u8 (ar : Nat), .int .u8 (ag : Nat), .int .u8 (ab : Nat), .int .u8 (aa : Nat), .int .i64 (ap : Nat), .string ⟨bn.toArray⟩, .int .u8 (br : Nat), .int .u8 (bg : Nat), .int .u8 (bb : Nat), .int .u8 (ba : Nat), .int .i64 (bp : Nat), .string ⟨#[]⟩, .int .i64 0, .int .i64 0, .string ⟨#[]⟩, .int .i64 0, .int .i64 0, .string ⟨#[]⟩, .int .i64 0, .int .i64 0, .string ⟨#[]⟩, .int .i64 0, .int .i64 0] = C := ⟨_, rfl⟩
  obtain ⟨D, hD⟩ : ∃ D : Array Value, #[.int .i64 1, .string ⟨an.toArray⟩, .int .u8 (ar : Nat), .int .u8 (ag : Nat), .int .u8 (ab : Nat), .int .u8 (aa : Nat), .int .i64 (ap : Nat), .string ⟨bn.toArray⟩, .int .u8 (br : Nat), .int .u8 (bg : Nat), .int .u8 (bb : Nat), .int .u8 (ba : Nat), .int .i64 (bp : Nat), .string ⟨cn.toArray⟩, .int .i64 ci, .int .i64 (cp : Nat), .string ⟨dn.toArray⟩, .int .i64 di, .int .i64 (dp : Nat), .string ⟨en.toArray⟩, .int .i64 ei, .int .i64 (ep : Nat), .string ⟨fn.toArray⟩, .int .i64 fi, .int .i64 (fp : Nat)] = D := ⟨_, rfl⟩
  have kv : Hid (∀ (b : Nat) (w1 W : World), Hid (At x q w1 s2 W) → q < b → w1.heap.size ≤ b → Blk W b 69 C → Calls Tryz.prog 105 #[.pointer (some ⟨q, 0, none⟩), .slice (some ⟨b, 13, none⟩) 4 4] W fun e w' => e = .returned (.tuple #[]) ∧ Hid (At x q w1 s6 w') ∧ Hid (Blk w' b 69 D) ∧ Hid (Fr q b W w')) := fun b w1 W H hqb h0 hb => by
    rw [← hC] at hb
    have := vals_any (k := 4) (cap := 4) (o := 13) H hb (by decide) hqb h0 (by simp) (by omega) (by omega)
    rw [hvs] at this
    have e : putRow #[.int .i64 1, .string ⟨an.toArray⟩, .int .u8 (ar : Nat), .int .u8 (ag : Nat), .int .u8 (ab : Nat), .int .u8 (aa : Nat), .int .i64 (ap : Nat), .string ⟨bn.toArray⟩, .int .u8 (br : Nat), .int .u8 (bg : Nat), .int .u8 (bb : Nat), .int .u8 (ba : Nat), .int .i64 (bp : Nat), .string ⟨#[]⟩, .int .i64 0, .int .i64 0, .string ⟨#[]⟩, .int .i64 0, .int .i64 0, .string ⟨#[]⟩, .int .i64 0, .int .i64 0, .string ⟨#[]⟩, .int .i64 0, .int .i64 0] 13 (([⟨cn, ci, cp⟩, ⟨dn, di, dp⟩, ⟨en, ei, ep⟩, ⟨fn, fi, fp⟩] : List PP.Val).flatMap valL) = #[.int .i64 1, .string ⟨an.toArray⟩, .int .u8 (ar : Nat), .int .u8 (ag : Nat), .int .u8 (ab : Nat), .int .u8 (aa : Nat), .int .i64 (ap : Nat), .string ⟨bn.toArray⟩, .int .u8 (br : Nat), .int .u8 (bg : Nat), .int .u8 (bb : Nat), .int .u8 (ba : Nat), .int .i64 (bp : Nat), .string ⟨cn.toArray⟩, .int .i64 ci, .int .i64 (cp : Nat), .string ⟨dn.toArray⟩, .int .i64 di, .int .i64 (dp : Nat), .string ⟨en.toArray⟩, .int .i64 ei, .int .i64 (ep : Nat), .string ⟨fn.toArray⟩, .int .i64 fi, .int .i64 (fp : Nat)] := by simp [putRow, valL]
    rw [e, hD] at this
    exact this
  have hsl : ∀ (b : Nat) (W : World), (Instr.sliceAt 67 (.pointer (some ⟨b, 13, none⟩)) none (some (.int .i64 4)) none).run Tryz.prog W = .ok (.slice (some ⟨b, 13, none⟩) 4 4) W := fun b W => slice_v4 4 (by omega) b W
  have HV : Hid ((Value.agg (paintL ⟨1, ⟨an, ⟨ar, ag, ab, aa⟩, ap⟩, ⟨bn, ⟨br, bg, bb, ba⟩, bp⟩, ⟨cn, ci, cp⟩, ⟨dn, di, dp⟩, ⟨en, ei, ep⟩, ⟨fn, fi, fp⟩⟩).toArray) = .agg D) := by show _ = _; rw [← hD]; rfl
  have hbd : ∀ W : World, (Instr.build 69 #[(0, .int .i64 1), (1, .agg #[.string ⟨an.toArray⟩, .int .u8 (ar : Nat), .int .u8 (ag : Nat), .int .u8 (ab : Nat), .int .u8 (aa : Nat), .int .i64 (ap : Nat)]), (2, .agg #[.string ⟨bn.toArray⟩, .int .u8 (br : Nat), .int .u8 (bg : Nat), .int .u8 (bb : Nat), .int .u8 (ba : Nat), .int .i64 (bp : Nat)])]).run Tryz.prog W = .ok (.agg C) W := fun W => by rw [← hC]; exact run_build W 69 _ _ (by kernel_rfl)
  have hCs : C.size = 25 := by rw [← hC]; rfl
  have hC1 : C.all (·.oneCell') = true := by rw [← hC]; simp [Value.oneCell']
  have hDs : D.size = 25 := by rw [← hD]; rfl
  have hD1 : D.all (·.oneCell') = true := by rw [← hD]; simp [Value.oneCell']
  rw [HV.out]
  clear h hva hvb hvc hvd hve hvf hvs HA HV HW hC hD
  go_enter Tryz.func96, Tryz.ntmps96
  go_wp2_with (first
    | (go_at_call 97; refine (k2.out _ _ (At.new H1)).mono ?_; rintro e w2 ⟨rfl, H2⟩)
    | (go_at_call 97; refine k1.out.mono ?_; rintro e w1 ⟨rfl, H1⟩)
    | go_at_call 105
      refine (kv.out _ _ _ H3 (by have := (At.rd H2).lt; omega) (Nat.le_refl _) B3.out).mono ?_
      rintro e w4 ⟨rfl, H4, B4, F4⟩
      have X4 : Hid (Blk w4 W.heap.size 69 paint0) := F4.out _ _ _ (by omega) (by have := At.size H1; have := At.size H2; simp at *; omega) (F3.out _ _ _ (by have := At.size H1; have := At.size H2; simp at *; omega) (Blk.alloc (At.box H2 (At.box H1 B0.out (by omega)) (by omega)) _))
      have H4b := At.onto HM.out (At.onto (At.mk' H1) (At.onto (At.mk' H2) H4))
    | refine wpList_build3 rfl 69 0 1 2 (.tmp 8) (.tmp 10) (.tmp 12) rfl (.int .i64 1) (.agg #[.string ⟨an.toArray⟩, .int .u8 (ar : Nat), .int .u8 (ag : Nat), .int .u8 (ab : Nat), .int .u8 (aa : Nat), .int .i64 (ap : Nat)]) (.agg #[.string ⟨bn.toArray⟩, .int .u8 (br : Nat), .int .u8 (bg : Nat), .int .u8 (bb : Nat), .int .u8 (ba : Nat), .int .i64 (bp : Nat)]) rfl rfl rfl C hbd ?_
    | (refine wp_put (At.alloc (At.new H2) _) 69 (.tmp 7) (.tmp 13) (cells := C) (blk_new _ _ _) rfl rfl rfl rfl (by rw [hCs]; exact hpi) (by rw [hCs]; rfl) hC1 (by decide) (by have := (At.rd H2).lt; omega) (Nat.le_refl _) ?_; intro w3 H3 B3 K3 F3 Z3)
    | refine wpList_load_row rfl 69 (.tmp 7) rfl w2.heap.size rfl 69 D (0, 0) _ B4.out Tryz.underlying69 rfl (by rw [hDs]; exact hpi) ?_
    | (refine wp_put H4b 69 (.tmp 6) (.tmp 19) (cells := D) X4.out rfl rfl rfl rfl (by rw [hDs]; exact hpi) (by rw [hDs]; rfl) hD1 (by decide) hq hs0 ?_; intro w5 H5 B5 K5 F5 Z5))
  refine bodyPost_ret (results_cell_row rfl _ _ W.heap.size 69 D (0, 0) _ rfl B5.out Tryz.underlying69 rfl (by rw [hDs]; exact hpi)) rfl ⟨rfl, H5⟩

set_option maxRecDepth 20000 in
set_option maxHeartbeats 2000000 in
theorem between2_any {x : Cx} {q : Nat} {w0 W : World} {s : PP.St} (h : Hid (At x q w0 s W)) :
    Calls Tryz.prog 96 #[.pointer (some ⟨q, 0, none⟩), .int .i64 2, .int .i64 3] W fun e w' => e = .returned (.agg (paintL (PP.between 2 3 s).1).toArray) ∧ Hid (At x q w0 (PP.between 2 3 s).2 w') := by
  have HW := At.alloc (At.new h) (.cells paint0 69)
  have HM : Hid (Mk q w0 (W.alloc (.cells paint0 69))) := (At.mk' h).alloc _
  have B0 : Hid (Blk (W.alloc (.cells paint0 69)) W.heap.size 69 paint0) := blk_new _ _ _
  have hq : q < W.heap.size := (At.rd h).lt
  have hs0 := At.size h
  have hpi : (Tryz.prog.info? 69).map (·.size) = some 25 := by kernel_rfl
  have k1 := hid'' (ref_any (At.new HW))
  obtain ⟨va, hva⟩ : ∃ v, PP.ref s = v := ⟨_, rfl⟩
  obtain ⟨⟨an, ⟨ar, ag, ab, aa⟩, ap⟩, s1⟩ := va
  obtain ⟨vb, hvb⟩ : ∃ v, PP.ref s1 = v := ⟨_, rfl⟩
  obtain ⟨⟨bn, ⟨br, bg, bb, ba⟩, bp⟩, s2⟩ := vb
  obtain ⟨vc, hvc⟩ : ∃ v, PP.val s2 = v := ⟨_, rfl⟩
  obtain ⟨⟨cn, ci, cp⟩, s3⟩ := vc
  obtain ⟨vd, hvd⟩ : ∃ v, PP.val s3 = v := ⟨_, rfl⟩
  obtain ⟨⟨dn, di, dp⟩, s4⟩ := vd
  obtain ⟨ve, hve⟩ : ∃ v, PP.val s4 = v := ⟨_, rfl⟩
  obtain ⟨⟨en, ei, ep⟩, s5⟩ := ve
  have hvs : PP.vals 3 s2 = ([⟨cn, ci, cp⟩, ⟨dn, di, dp⟩, ⟨en, ei, ep⟩], s5) := by simp only [PP.vals, hvc, hvd, hve]
  have HA : Hid (PP.between 2 3 s = (⟨2, ⟨an, ⟨ar, ag, ab, aa⟩, ap⟩, ⟨bn, ⟨br, bg, bb, ba⟩, bp⟩, ⟨cn, ci, cp⟩, ⟨dn, di, dp⟩, ⟨en, ei, ep⟩, PP.v0⟩, s5)) := by
    show _ = _
    unfold PP.between
    rw [hva]
    simp only [hvb, hvs]
    rfl
  rw [HA.out]
  rw [hva] at k1
  have k1 : Hid (Calls Tryz.prog 97 #[.pointer (some ⟨q, 0, none⟩)] (W.alloc (.cells paint0 69)) fun e w' => e = .returned (.agg #[.string ⟨an.toArray⟩, .int .u8 (ar : Nat), .int .u8 (ag : Nat), .int .u8 (ab : Nat), .int .u8 (aa : Nat), .int .i64 (ap : Nat)]) ∧ Hid (At x q (W.alloc (.cells paint0 69)) s1 w')) := k1
  have k2 : Hid (∀ w0 W, Hid (At x q w0 s1 W) → Calls Tryz.prog 97 #[.pointer (some ⟨q, 0, none⟩)] W fun e w' => e = .returned (.agg #[.string ⟨bn.toArray⟩, .int .u8 (br : Nat), .int .u8 (bg : Nat), .int .u8 (bb : Nat), .int .u8 (ba : Nat), .int .i64 (bp : Nat)]) ∧ Hid (At x q w0 s2 w')) := fun w0 W H => by
    have := ref_any H
    rw [hvb] at this
    exact this
  obtain ⟨C, hC⟩ : ∃ C : Array Value, #[.int .i64 2, .string ⟨an.toArray⟩, .int .u8 (ar : Nat), .int .u8 (ag : Nat), .int .u8 (ab : Nat), .int .u8 (aa : Nat), .int .i64 (ap : Nat), .string ⟨bn.toArray⟩, .int .u8 (br : Nat), .int .u8 (bg : Nat), .int .u8 (bb : Nat), .int .u8 (ba : Nat), .int .i64 (bp : Nat), .string ⟨#[]⟩, .int .i64 0, .int .i64 0, .string ⟨#[]⟩, .int .i64 0, .int .i64 0, .string ⟨#[]⟩, .int .i64 0, .int .i64 0, .string ⟨#[]⟩, .int .i64 0, .int .i64 0] = C := ⟨_, rfl⟩
  obtain ⟨D, hD⟩ : ∃ D : Array Value, #[.int .i64 2, .string ⟨an.toArray⟩, .int .u8 (ar : Nat), .int .u8 (ag : Nat), .int .u8 (ab : Nat), .int .u8 (aa : Nat), .int .i64 (ap : Nat), .string ⟨bn.toArray⟩, .int .u8 (br : Nat), .int .u8 (bg : Nat), .int .u8 (bb : Nat), .int .u8 (ba : Nat), .int .i64 (bp : Nat), .string ⟨cn.toArray⟩, .int .i64 ci, .int .i64 (cp : Nat), .string ⟨dn.toArray⟩, .int .i64 di, .int .i64 (dp : Nat), .string ⟨en.toArray⟩, .int .i64 ei, .int .i64 (ep : Nat), .string ⟨#[]⟩, .int .i64 0, .int .i64 0] = D := ⟨_, rfl⟩
  have kv : Hid (∀ (b : Nat) (w1 W : World), Hid (At x q w1 s2 W) → q < b → w1.heap.size ≤ b → Blk W b 69 C → Calls Tryz.prog 105 #[.pointer (some ⟨q, 0, none⟩), .slice (some ⟨b, 13, none⟩) 3 4] W fun e w' => e = .returned (.tuple #[]) ∧ Hid (At x q w1 s5 w') ∧ Hid (Blk w' b 69 D) ∧ Hid (Fr q b W w')) := fun b w1 W H hqb h0 hb => by
    rw [← hC] at hb
    have := vals_any (k := 3) (cap := 4) (o := 13) H hb (by decide) hqb h0 (by simp) (by omega) (by omega)
    rw [hvs] at this
    have e : putRow #[.int .i64 2, .string ⟨an.toArray⟩, .int .u8 (ar : Nat), .int .u8 (ag : Nat), .int .u8 (ab : Nat), .int .u8 (aa : Nat), .int .i64 (ap : Nat), .string ⟨bn.toArray⟩, .int .u8 (br : Nat), .int .u8 (bg : Nat), .int .u8 (bb : Nat), .int .u8 (ba : Nat), .int .i64 (bp : Nat), .string ⟨#[]⟩, .int .i64 0, .int .i64 0, .string ⟨#[]⟩, .int .i64 0, .int .i64 0, .string ⟨#[]⟩, .int .i64 0, .int .i64 0, .string ⟨#[]⟩, .int .i64 0, .int .i64 0] 13 (([⟨cn, ci, cp⟩, ⟨dn, di, dp⟩, ⟨en, ei, ep⟩] : List PP.Val).flatMap valL) = #[.int .i64 2, .string ⟨an.toArray⟩, .int .u8 (ar : Nat), .int .u8 (ag : Nat), .int .u8 (ab : Nat), .int .u8 (aa : Nat), .int .i64 (ap : Nat), .string ⟨bn.toArray⟩, .int .u8 (br : Nat), .int .u8 (bg : Nat), .int .u8 (bb : Nat), .int .u8 (ba : Nat), .int .i64 (bp : Nat), .string ⟨cn.toArray⟩, .int .i64 ci, .int .i64 (cp : Nat), .string ⟨dn.toArray⟩, .int .i64 di, .int .i64 (dp : Nat), .string ⟨en.toArray⟩, .int .i64 ei, .int .i64 (ep : Nat), .string ⟨#[]⟩, .int .i64 0, .int .i64 0] := by simp [putRow, valL]
    rw [e, hD] at this
    exact this
  have hsl : ∀ (b : Nat) (W : World), (Instr.sliceAt 67 (.pointer (some ⟨b, 13, none⟩)) none (some (.int .i64 3)) none).run Tryz.prog W = .ok (.slice (some ⟨b, 13, none⟩) 3 4) W := fun b W => slice_v4 3 (by omega) b W
  have HV : Hid ((Value.agg (paintL ⟨2, ⟨an, ⟨ar, ag, ab, aa⟩, ap⟩, ⟨bn, ⟨br, bg, bb, ba⟩, bp⟩, ⟨cn, ci, cp⟩, ⟨dn, di, dp⟩, ⟨en, ei, ep⟩, PP.v0⟩).toArray) = .agg D) := by show _ = _; rw [← hD]; rfl
  have hbd : ∀ W : World, (Instr.build 69 #[(0, .int .i64 2), (1, .agg #[.string ⟨an.toArray⟩, .int .u8 (ar : Nat), .int .u8 (ag : Nat), .int .u8 (ab : Nat), .int .u8 (aa : Nat), .int .i64 (ap : Nat)]), (2, .agg #[.string ⟨bn.toArray⟩, .int .u8 (br : Nat), .int .u8 (bg : Nat), .int .u8 (bb : Nat), .int .u8 (ba : Nat), .int .i64 (bp : Nat)])]).run Tryz.prog W = .ok (.agg C) W := fun W => by rw [← hC]; exact run_build W 69 _ _ (by kernel_rfl)
  have hCs : C.size = 25 := by rw [← hC]; rfl
  have hC1 : C.all (·.oneCell') = true := by rw [← hC]; simp [Value.oneCell']
  have hDs : D.size = 25 := by rw [← hD]; rfl
  have hD1 : D.all (·.oneCell') = true := by rw [← hD]; simp [Value.oneCell']
  rw [HV.out]
  clear h hva hvb hvc hvd hve hvs HA HV HW hC hD
  go_enter Tryz.func96, Tryz.ntmps96
  go_wp2_with (first
    | (go_at_call 97; refine (k2.out _ _ (At.new H1)).mono ?_; rintro e w2 ⟨rfl, H2⟩)
    | (go_at_call 97; refine k1.out.mono ?_; rintro e w1 ⟨rfl, H1⟩)
    | go_at_call 105
      refine (kv.out _ _ _ H3 (by have := (At.rd H2).lt; omega) (Nat.le_refl _) B3.out).mono ?_
      rintro e w4 ⟨rfl, H4, B4, F4⟩
      have X4 : Hid (Blk w4 W.heap.size 69 paint0) := F4.out _ _ _ (by omega) (by have := At.size H1; have := At.size H2; simp at *; omega) (F3.out _ _ _ (by have := At.size H1; have := At.size H2; simp at *; omega) (Blk.alloc (At.box H2 (At.box H1 B0.out (by omega)) (by omega)) _))
      have H4b := At.onto HM.out (At.onto (At.mk' H1) (At.onto (At.mk' H2) H4))
    | refine wpList_build3 rfl 69 0 1 2 (.tmp 8) (.tmp 10) (.tmp 12) rfl (.int .i64 2) (.agg #[.string ⟨an.toArray⟩, .int .u8 (ar : Nat), .int .u8 (ag : Nat), .int .u8 (ab : Nat), .int .u8 (aa : Nat), .int .i64 (ap : Nat)]) (.agg #[.string ⟨bn.toArray⟩, .int .u8 (br : Nat), .int .u8 (bg : Nat), .int .u8 (bb : Nat), .int .u8 (ba : Nat), .int .i64 (bp : Nat)]) rfl rfl rfl C hbd ?_
    | (refine wp_put (At.alloc (At.new H2) _) 69 (.tmp 7) (.tmp 13) (cells := C) (blk_new _ _ _) rfl rfl rfl rfl (by rw [hCs]; exact hpi) (by rw [hCs]; rfl) hC1 (by decide) (by have := (At.rd H2).lt; omega) (Nat.le_refl _) ?_; intro w3 H3 B3 K3 F3 Z3)
    | refine wpList_load_row rfl 69 (.tmp 7) rfl w2.heap.size rfl 69 D (0, 0) _ B4.out Tryz.underlying69 rfl (by rw [hDs]; exact hpi) ?_
    | (refine wp_put H4b 69 (.tmp 6) (.tmp 19) (cells := D) X4.out rfl rfl rfl rfl (by rw [hDs]; exact hpi) (by rw [hDs]; rfl) hD1 (by decide) hq hs0 ?_; intro w5 H5 B5 K5 F5 Z5))
  refine bodyPost_ret (results_cell_row rfl _ _ W.heap.size 69 D (0, 0) _ rfl B5.out Tryz.underlying69 rfl (by rw [hDs]; exact hpi)) rfl ⟨rfl, H5⟩

set_option maxRecDepth 20000 in
set_option maxHeartbeats 2000000 in
theorem paint_any {x : Cx} {q : Nat} {w0 W : World} {s : PP.St} (h : Hid (At x q w0 s W)) :
    Calls Tryz.prog 82 #[.pointer (some ⟨q, 0, none⟩)] W fun e w' => e = .returned (.agg (paintL (PP.paint s).1).toArray) ∧ Hid (At x q w0 (PP.paint s).2 w') := by
  have HW := At.alloc (At.new h) (.cells paint0 69)
  have HM : Hid (Mk q w0 (W.alloc (.cells paint0 69))) := (At.mk' h).alloc _
  have B0 : Hid (Blk (W.alloc (.cells paint0 69)) W.heap.size 69 paint0) := blk_new _ _ _
  have hq : q < W.heap.size := (At.rd h).lt
  have hs0 := At.size h
  have hpi : (Tryz.prog.info? 69).map (·.size) = some 25 := by kernel_rfl
  have HA : Hid (PP.paint s = if s.is [108, 105, 110, 101, 97, 114] = true then PP.between 1 4 s.tl else if s.is [114, 97, 100, 105, 97, 108] = true then PP.between 2 3 s.tl else (⟨0, (PP.ref s).1, PP.r0, PP.v0, PP.v0, PP.v0, PP.v0⟩, (PP.ref s).2)) := by show _ = _; rfl
  have hD1 := paintL_one (PP.paint s).1
  have hDs : (paintL (PP.paint s).1).toArray.size = 25 := rfl
  obtain ⟨D, hD⟩ : ∃ D : Array Value, (paintL (PP.paint s).1).toArray = D := ⟨_, rfl⟩
  obtain ⟨s5, hs5⟩ : ∃ s5, (PP.paint s).2 = s5 := ⟨_, rfl⟩
  rw [hD] at hD1 hDs ⊢
  rw [hs5]
  obtain ⟨b1, hb1⟩ : ∃ b, s.is [108, 105, 110, 101, 97, 114] = b := ⟨_, rfl⟩
  obtain ⟨b2, hb2⟩ : ∃ b, s.is [114, 97, 100, 105, 97, 108] = b := ⟨_, rfl⟩
  have k1 : Hid (Calls Tryz.prog 28 #[.pointer (some ⟨q, 0, none⟩), .string ⟨#[108, 105, 110, 101, 97, 114]⟩] (W.alloc (.cells paint0 69)) fun e w' => e = .returned (.bool b1) ∧ Hid (At x q (W.alloc (.cells paint0 69)) (if b1 = true then s.tl else s) w')) := by
    have := try_any [108, 105, 110, 101, 97, 114] (At.new HW)
    unfold St.try' at this
    rw [hb1] at this
    exact this
  have k2 : Hid (∀ w0 W, Hid (At x q w0 s W) → Calls Tryz.prog 28 #[.pointer (some ⟨q, 0, none⟩), .string ⟨#[114, 97, 100, 105, 97, 108]⟩] W fun e w' => e = .returned (.bool b2) ∧ Hid (At x q w0 (if b2 = true then s.tl else s) w')) := fun w0 W H => by
    have := try_any [114, 97, 100, 105, 97, 108] H
    unfold St.try' at this
    rw [hb2] at this
    exact this
  rw [hb1, hb2] at HA
  clear h hb1 hb2 HW
  cases b1 with
  | true =>
    rw [if_pos rfl] at k1 HA
    rw [HA.out] at hD hs5
    have kb : Hid (∀ w0 W, Hid (At x q w0 s.tl W) → Calls Tryz.prog 96 #[.pointer (some ⟨q, 0, none⟩), .int .i64 1, .int .i64 4] W fun e w' => e = .returned (.agg D) ∧ Hid (At x q w0 s5 w')) := fun w0 W H => by
      have := between1_any H
      rw [hD, hs5] at this
      exact this
    clear k2 HA hD hs5
    go_enter Tryz.func82, Tryz.ntmps82
    go_wp2_with (first
      | go_at_call 96
        refine (kb.out _ _ H1).mono ?_
        rintro e w3 ⟨rfl, H3⟩
        have X3 : Hid (Blk w3 W.heap.size 69 paint0) := At.box H3 B0.out (by omega)
        have H3b := At.onto HM.out H3
      | (go_at_call 28; refine k1.out.mono ?_; rintro e w1 ⟨rfl, H1⟩)
      | (refine wp_put H3b 69 (.tmp 2) (.tmp 7) (cells := D) X3.out rfl rfl rfl rfl (by rw [hDs]; exact hpi) (by rw [hDs]; rfl) hD1 (by decide) hq hs0 ?_; intro w5 H5 B5 K5 F5 Z5))
    refine bodyPost_ret (results_cell_row rfl _ _ W.heap.size 69 D (0, 0) _ rfl B5.out Tryz.underlying69 rfl (by rw [hDs]; exact hpi)) rfl ⟨rfl, H5⟩
  | false =>
    rw [if_neg (by simp)] at k1 HA
    cases b2 with
    | true =>
      have k2 : Hid (∀ w0 W, Hid (At x q w0 s W) → Calls Tryz.prog 28 #[.pointer (some ⟨q, 0, none⟩), .string ⟨#[114, 97, 100, 105, 97, 108]⟩] W fun e w' => e = .returned (.bool true) ∧ Hid (At x q w0 s.tl w')) := k2
      rw [if_pos rfl] at HA
      rw [HA.out] at hD hs5
      have kb : Hid (∀ w0 W, Hid (At x q w0 s.tl W) → Calls Tryz.prog 96 #[.pointer (some ⟨q, 0, none⟩), .int .i64 2, .int .i64 3] W fun e w' => e = .returned (.agg D) ∧ Hid (At x q w0 s5 w')) := fun w0 W H => by
        have := between2_any H
        rw [hD, hs5] at this
        exact this
      clear HA hD hs5
      go_enter Tryz.func82, Tryz.ntmps82
      go_wp2_with (first
        | go_at_call 96
          refine (kb.out _ _ H2).mono ?_
          rintro e w3 ⟨rfl, H3⟩
          have X3 : Hid (Blk w3 W.heap.size 69 paint0) := At.box H3 B0.out (by omega)
          have H3b := At.onto HM.out H3
        | (go_at_call 28; refine (k2.out _ _ H1).mono ?_; rintro e w2 ⟨rfl, H2⟩)
        | (go_at_call 28; refine k1.out.mono ?_; rintro e w1 ⟨rfl, H1⟩)
        | (refine wp_put H3b 69 (.tmp 2) (.tmp 12) (cells := D) X3.out rfl rfl rfl rfl (by rw [hDs]; exact hpi) (by rw [hDs]; rfl) hD1 (by decide) hq hs0 ?_; intro w5 H5 B5 K5 F5 Z5))
      refine bodyPost_ret (results_cell_row rfl _ _ W.heap.size 69 D (0, 0) _ rfl B5.out Tryz.underlying69 rfl (by rw [hDs]; exact hpi)) rfl ⟨rfl, H5⟩
    | false =>
      have k2 : Hid (∀ w0 W, Hid (At x q w0 s W) → Calls Tryz.prog 28 #[.pointer (some ⟨q, 0, none⟩), .string ⟨#[114, 97, 100, 105, 97, 108]⟩] W fun e w' => e = .returned (.bool false) ∧ Hid (At x q w0 s w')) := k2
      rw [if_neg (by simp)] at HA
      rw [HA.out] at hD hs5
      obtain ⟨vp, hvp⟩ : ∃ v, PP.ref s = v := ⟨_, rfl⟩
      obtain ⟨⟨an, ⟨ar, ag, ab, aa⟩, ap⟩, s6⟩ := vp
      rw [hvp] at hD hs5
      have hbd : ∀ W : World, (Instr.build 69 #[(0, .int .i64 0), (1, .agg #[.string ⟨an.toArray⟩, .int .u8 (ar : Nat), .int .u8 (ag : Nat), .int .u8 (ab : Nat), .int .u8 (aa : Nat), .int .i64 (ap : Nat)])]).run Tryz.prog W = .ok (.agg D) W := fun W => by rw [← hD]; exact run_build W 69 _ _ (by kernel_rfl)
      have hs6 : s6 = s5 := hs5
      have kb : Hid (∀ w0 W, Hid (At x q w0 s W) → Calls Tryz.prog 97 #[.pointer (some ⟨q, 0, none⟩)] W fun e w' => e = .returned (.agg #[.string ⟨an.toArray⟩, .int .u8 (ar : Nat), .int .u8 (ag : Nat), .int .u8 (ab : Nat), .int .u8 (aa : Nat), .int .i64 (ap : Nat)]) ∧ Hid (At x q w0 s5 w')) := fun w0 W H => by
        have := ref_any H
        rw [hvp] at this
        rw [← hs6]
        exact this
      clear HA hD hs5 hvp hs6
      go_enter Tryz.func82, Tryz.ntmps82
      go_wp2_with (first
        | go_at_call 97
          refine (kb.out _ _ H2).mono ?_
          rintro e w3 ⟨rfl, H3⟩
          have X3 : Hid (Blk w3 W.heap.size 69 paint0) := At.box H3 B0.out (by omega)
          have H3b := At.onto HM.out H3
        | (go_at_call 28; refine (k2.out _ _ H1).mono ?_; rintro e w2 ⟨rfl, H2⟩)
        | (go_at_call 28; refine k1.out.mono ?_; rintro e w1 ⟨rfl, H1⟩)
        | refine wpList_build2 rfl 69 0 1 (.const (.int .i64 0)) (.tmp 14) rfl (.int .i64 0) (.agg #[.string ⟨an.toArray⟩, .int .u8 (ar : Nat), .int .u8 (ag : Nat), .int .u8 (ab : Nat), .int .u8 (aa : Nat), .int .i64 (ap : Nat)]) rfl rfl D hbd ?_
        | (refine wp_put H3b 69 (.tmp 2) (.tmp 15) (cells := D) X3.out rfl rfl rfl rfl (by rw [hDs]; exact hpi) (by rw [hDs]; rfl) hD1 (by decide) hq hs0 ?_; intro w5 H5 B5 K5 F5 Z5))
      refine bodyPost_ret (results_cell_row rfl _ _ W.heap.size 69 D (0, 0) _ rfl B5.out Tryz.underlying69 rfl (by rw [hDs]; exact hpi)) rfl ⟨rfl, H5⟩

end Go.Proofs.YtenmkopiddmieabGreatDoor

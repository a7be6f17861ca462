/-
  A color with its name, walked over the program.
-/
import Derived.Test.YtenmkopiddmieabGreatDoorParseLaw
namespace Go.Proofs.YtenmkopiddmieabGreatDoor
open Go.RowKit

theorem exec_build3 {P : Program} {o : Oper} {a : Act} (t : TypeId) (i0 i1 i2 : Nat) (p0 p1 p2 : Operand) (ho : o.op = .build t #[(i0, p0), (i1, p1), (i2, p2)])
    (v0 v1 v2 : Value) (h0 : a.eval p0 = v0) (h1 : a.eval p1 = v1) (h2 : a.eval p2 = v2) (cells : Array Value) (hrun : ∀ W : World, (Instr.build t #[(i0, v0), (i1, v1), (i2, v2)]).run P W = .ok (.agg cells) W) (w : World) :
    (execOp a.eval o).run P w = .ok (.value (.agg cells)) w := by
  simp [execOp, ho, h0, h1, h2, hrun]

set_option maxRecDepth 20000 in
set_option maxHeartbeats 4000000 in
theorem named_any {x : Cx} {q : Nat} {w0 W : World} {s : PP.St} (h : Hid (At x q w0 s W)) :
    Calls Tryz.prog 56 #[.pointer (some ⟨q, 0, none⟩)] W fun e w' => e = .returned (.agg (refL (PP.named s).1).toArray) ∧ Hid (At x q w0 (PP.named s).2 w') := by
  have HW := At.alloc (At.new h) (.cells #[.string ⟨#[]⟩, .int .u8 0, .int .u8 0, .int .u8 0, .int .u8 0, .int .i64 0] 58)
  have HM : Hid (Mk q w0 (W.alloc (.cells #[.string ⟨#[]⟩, .int .u8 0, .int .u8 0, .int .u8 0, .int .u8 0, .int .i64 0] 58))) := (At.mk' h).alloc _
  have B0 : Hid (Blk (W.alloc (.cells #[.string ⟨#[]⟩, .int .u8 0, .int .u8 0, .int .u8 0, .int .u8 0, .int .i64 0] 58)) W.heap.size 58 #[.string ⟨#[]⟩, .int .u8 0, .int .u8 0, .int .u8 0, .int .u8 0, .int .i64 0]) := blk_new _ _ _
  have hq : q < W.heap.size := (At.rd h).lt
  have hs0 := At.size h
  have k1 := hid'' (name_any (At.new HW))
  obtain ⟨n, hn⟩ : ∃ n, PP.nameW s = n := ⟨_, rfl⟩
  obtain ⟨⟨nk, np, nm⟩, s1⟩ := n
  rw [hn] at k1
  have k1 : Hid (Calls Tryz.prog 76 #[.pointer (some ⟨q, 0, none⟩)] (W.alloc (.cells #[.string ⟨#[]⟩, .int .u8 0, .int .u8 0, .int .u8 0, .int .u8 0, .int .i64 0] 58)) fun e w' => e = .returned (.agg #[.int .i64 (nk : Nat), .int .i64 (np : Nat), .string ⟨nm.toArray⟩]) ∧ Hid (At x q (W.alloc (.cells #[.string ⟨#[]⟩, .int .u8 0, .int .u8 0, .int .u8 0, .int .u8 0, .int .i64 0] 58)) s1 w')) := k1
  obtain ⟨s2, hs2⟩ : ∃ s2, s1.skip PP.m_eq = s2 := ⟨_, rfl⟩
  obtain ⟨v, hv⟩ : ∃ v, PP.colr s2 = v := ⟨_, rfl⟩
  obtain ⟨⟨r, g, b, a⟩, s3⟩ := v
  have HA : Hid (PP.named s = (⟨nm, ⟨r, g, b, a⟩, np⟩, s3.skip PP.m_semi)) := by
    show _ = _
    unfold PP.named
    rw [hn]
    simp only [hs2, hv]
  rw [HA.out]
  have ks : Hid (∀ w0 W, Hid (At x q w0 s1 W) → Calls Tryz.prog 26 #[.pointer (some ⟨q, 0, none⟩), .string ⟨#[61]⟩] W fun e w' => e = .returned (.tuple #[]) ∧ Hid (At x q w0 s2 w')) := fun w0 W H => by
    have := skip_any PP.m_eq H
    rw [hs2] at this
    exact this
  have kv : Hid (∀ w0 W, Hid (At x q w0 s2 W) → Calls Tryz.prog 78 #[.pointer (some ⟨q, 0, none⟩)] W fun e w' => e = .returned (.agg #[.int .u8 (r : Nat), .int .u8 (g : Nat), .int .u8 (b : Nat), .int .u8 (a : Nat)]) ∧ Hid (At x q w0 s3 w')) := fun w0 W H => by
    have := color_any H
    rw [hv] at this
    exact this
  have ke : Hid (∀ w0 W, Hid (At x q w0 s3 W) → Calls Tryz.prog 26 #[.pointer (some ⟨q, 0, none⟩), .string ⟨#[59]⟩] W fun e w' => e = .returned (.tuple #[]) ∧ Hid (At x q w0 (s3.skip PP.m_semi) w')) := fun w0 W H => skip_any PP.m_semi H
  obtain ⟨U, hU⟩ : ∃ U : ByteArray, ⟨nm.toArray⟩ = U := ⟨_, rfl⟩
  have HV : Hid ((Value.agg (refL ⟨nm, ⟨r, g, b, a⟩, np⟩).toArray) = .agg #[.string U, .int .u8 (r : Nat), .int .u8 (g : Nat), .int .u8 (b : Nat), .int .u8 (a : Nat), .int .i64 (np : Nat)]) := by show _ = _; rw [← hU]; rfl
  rw [HV.out]
  rw [hU] at k1
  obtain ⟨f0, f1, f2⟩ := fld_w (nk : Nat) (np : Nat) U
  clear h hn hs2 hv HA HV hU HW
  go_enter Tryz.func56, Tryz.ntmps56
  go_upto_region 3 with (first
    | go_at_call 26
      refine (ks.out _ _ H2).mono ?_
      rintro e w3 ⟨rfl, H3⟩
      have Z3 : Hid (Blk w3 w1.heap.size 83 #[.int .i64 (nk : Nat), .int .i64 (np : Nat), .string U]) := At.box H3 (blk_new _ _ _) (by have := (At.rd H1).lt; omega)
      obtain ⟨⟨a0, a1, a2⟩, -⟩ := blk3 Z3.out
      have la := Z3.out.lt
    | go_at_call 76
      refine k1.out.mono ?_
      rintro e w1 ⟨rfl, H1⟩
      have H2 := At.new (At.alloc H1 (.cells #[.int .i64 (nk : Nat), .int .i64 (np : Nat), .string U] 83)))
  have HH3 : Hid (At x q w0 s2 w3) := At.onto HM.out (At.onto ((At.mk' H1).alloc _) H3)
  have hg1 : W.heap.size < w1.heap.size := by have := At.size H1; simp only [World.size_alloc] at this; omega
  have hg3 : w1.heap.size < w3.heap.size := by have := At.size H3; simp only [World.size_alloc] at this; omega
  have X3 : Hid (Blk w3 W.heap.size 58 #[.string ⟨#[]⟩, .int .u8 0, .int .u8 0, .int .u8 0, .int .u8 0, .int .i64 0]) := At.box H3 (Blk.alloc (At.box H1 B0.out (by omega)) _) (by omega)
  obtain ⟨C, hC⟩ : ∃ C : Array Value, #[.string U, .int .u8 (r : Nat), .int .u8 (g : Nat), .int .u8 (b : Nat), .int .u8 (a : Nat), .int .i64 (np : Nat)] = C := ⟨_, rfl⟩
  have hCs : C.size = 6 := by rw [← hC]; rfl
  have hC1 : C.all (·.oneCell') = true := by rw [← hC]; simp [Value.oneCell']
  have hci : (Tryz.prog.info? 58).map (·.size) = some C.size := by rw [hCs]; kernel_rfl
  have hbd : ∀ W : World, (Instr.build 58 #[(0, .string U), (1, .agg #[.int .u8 (r : Nat), .int .u8 (g : Nat), .int .u8 (b : Nat), .int .u8 (a : Nat)]), (2, .int .i64 (np : Nat))]).run Tryz.prog W = .ok (.agg C) W := fun W => by rw [← hC]; exact run_build W 58 _ _ (by kernel_rfl)

  refine wp_region_held_drew (S := fun W : World => W.cell? ⟨w1.heap.size, 2, none⟩ = some (.string U) ∧ W.cell? ⟨w1.heap.size, 1, none⟩ = some (.int .i64 (np : Nat))) (by kernel_rfl) ⟨a2, a1⟩ (fun hHeld => ?_)
  refine wpAnyH_take (i := 0) (oi := { dst := some 9, op := Op.fieldAddr 83 (Operand.tmp 3) 2, type := 0, pos := "language.go:61", after := #[], guard := none }) (v := .pointer (some ⟨w1.heap.size, 2, none⟩)) rfl (by kernel_rfl) (by kernel_rfl) (by kernel_rfl) (fun _ _ _ h => h) (Or.inl ⟨by rfl, fun W hW => by
    dsimp only at hW
    obtain ⟨g1, g2⟩ := hW
    go_simp⟩) hHeld ?_
  try simp only [Act.put, List.setIfInBounds_toArray, List.set_cons_zero, List.set_cons_succ]
  refine wpAnyH_take (i := 1) (oi := { dst := some 10, op := Op.load 9 (Operand.tmp 9), type := 9, pos := "language.go:61", after := #[{ on := 0, ground := Ground.data }], guard := none }) (v := .string U) rfl (by kernel_rfl) (by kernel_rfl) (by kernel_rfl) (fun _ _ _ h => h) (Or.inl ⟨by rfl, fun W hW => by
    dsimp only at hW
    obtain ⟨g1, g2⟩ := hW
    go_simp⟩) hHeld ?_
  try simp only [Act.put, List.setIfInBounds_toArray, List.set_cons_zero, List.set_cons_succ]
  refine wpAnyH_take (i := 2) (oi := { dst := some 11, op := Op.move (Operand.tmp 0), type := 49, pos := "language.go:61", after := #[], guard := none }) (v := .pointer (some ⟨q, 0, none⟩)) rfl (by kernel_rfl) (by kernel_rfl) (by kernel_rfl) (fun _ _ _ h => h) (Or.inl ⟨by rfl, fun W hW => by
    dsimp only at hW
    obtain ⟨g1, g2⟩ := hW
    go_simp⟩) hHeld ?_
  try simp only [Act.put, List.setIfInBounds_toArray, List.set_cons_zero, List.set_cons_succ]
  refine wpAnyH_take (i := 4) (oi := { dst := some 13, op := Op.fieldAddr 83 (Operand.tmp 3) 1, type := 0, pos := "language.go:61", after := #[], guard := none }) (v := .pointer (some ⟨w1.heap.size, 1, none⟩)) rfl (by kernel_rfl) (by kernel_rfl) (by kernel_rfl) (fun _ _ _ h => h) (Or.inl ⟨by rfl, fun W hW => by
    dsimp only at hW
    obtain ⟨g1, g2⟩ := hW
    go_simp⟩) hHeld ?_
  try simp only [Act.put, List.setIfInBounds_toArray, List.set_cons_zero, List.set_cons_succ]
  refine wpAnyH_take (i := 5) (oi := { dst := some 14, op := Op.load 3 (Operand.tmp 13), type := 3, pos := "language.go:61", after := #[{ on := 4, ground := Ground.data }], guard := none }) (v := .int .i64 (np : Nat)) rfl (by kernel_rfl) (by kernel_rfl) (by kernel_rfl) (fun _ _ _ h => h) (Or.inl ⟨by rfl, fun W hW => by
    dsimp only at hW
    obtain ⟨g1, g2⟩ := hW
    go_simp⟩) hHeld ?_
  try simp only [Act.put, List.setIfInBounds_toArray, List.set_cons_zero, List.set_cons_succ]
  refine wpAnyH_ready (rs := [3, 7]) (by kernel_rfl) (by simp) ?_
  refine AllReadyH.cons (o := { dst := some 12, op := Op.call { callee := Callee.value (Operand.func 78), args := #[Operand.tmp 11], argTypes := #[49] }, type := 56, pos := "language.go:61", after := #[{ on := 2, ground := Ground.data }], guard := none }) rfl (fun K hK => ?_) ?_
  · go_simp
    go_at_call 78
    refine (kv.out _ _ (At.new (At.drew H3))).mono ?_
    rintro e w4 ⟨rfl, H4⟩
    have Z4 : Hid (Blk w4 w1.heap.size 83 #[.int .i64 (nk : Nat), .int .i64 (np : Nat), .string U]) := At.box H4 Z3.out (by omega)
    have X4 : Hid (Blk w4 W.heap.size 58 #[.string ⟨#[]⟩, .int .u8 0, .int .u8 0, .int .u8 0, .int .u8 0, .int .i64 0]) := At.box H4 X3.out (by omega)
    obtain ⟨⟨b0, b1, b2⟩, -⟩ := blk3 Z4.out
    have HH4 : Hid (At x q w0 s3 w4) := At.onto (At.mk' (At.drew HH3)) H4
    have hz4 := At.size H4
    simp only [World.size_drew] at hz4
    try dsimp only
    refine hK.out _ _ ⟨b2, b1⟩ (fun hHeld => ?_)
    clear hK K
    try simp only [Act.put, List.setIfInBounds_toArray, List.set_cons_zero, List.set_cons_succ]
    refine wpAnyH_take (i := 6) (oi := { dst := some 15, op := Op.build 58 #[(0, Operand.tmp 10), (1, Operand.tmp 12), (2, Operand.tmp 14)], type := 58, pos := "language.go:61", after := #[{ on := 1, ground := Ground.data }, { on := 3, ground := Ground.data }, { on := 5, ground := Ground.data }], guard := none }) (v := .agg C) rfl (by kernel_rfl) (by kernel_rfl) (by kernel_rfl) (fun _ _ _ h => h) (Or.inl ⟨by rfl, fun W hW => by
      dsimp only at hW
      obtain ⟨g1, g2⟩ := hW
      exact exec_build3 58 0 1 2 (.tmp 10) (.tmp 12) (.tmp 14) rfl (.string U) (.agg #[.int .u8 (r : Nat), .int .u8 (g : Nat), .int .u8 (b : Nat), .int .u8 (a : Nat)]) (.int .i64 (np : Nat)) rfl rfl rfl C hbd W⟩) hHeld ?_
    try simp only [Act.put, List.setIfInBounds_toArray, List.set_cons_zero, List.set_cons_succ]
    refine wpAnyH_ready (rs := [7]) (by kernel_rfl) (by simp) ?_
    refine AllReadyH.cons (o := { dst := some 4, op := Op.alloc 58, type := 0, pos := "language.go:61", after := #[], guard := none }) rfl (fun K hK => ?_) AllReadyH.nil
    go_simp
    have H5 : Hid (At x q w0 s3 (w4.alloc (.cells #[.string ⟨#[]⟩, .int .u8 0, .int .u8 0, .int .u8 0, .int .u8 0, .int .i64 0] 58))) := At.alloc HH4 _
    have B5 : Hid (Blk (w4.alloc (.cells #[.string ⟨#[]⟩, .int .u8 0, .int .u8 0, .int .u8 0, .int .u8 0, .int .i64 0] 58)) w4.heap.size 58 #[.string ⟨#[]⟩, .int .u8 0, .int .u8 0, .int .u8 0, .int .u8 0, .int .i64 0]) := blk_new _ _ _
    have X5 : Hid (Blk (w4.alloc (.cells #[.string ⟨#[]⟩, .int .u8 0, .int .u8 0, .int .u8 0, .int .u8 0, .int .i64 0] 58)) W.heap.size 58 #[.string ⟨#[]⟩, .int .u8 0, .int .u8 0, .int .u8 0, .int .u8 0, .int .i64 0]) := Blk.alloc X4.out _
    have Y5 : Hid (Blk (w4.alloc (.cells #[.string ⟨#[]⟩, .int .u8 0, .int .u8 0, .int .u8 0, .int .u8 0, .int .i64 0] 58)) w1.heap.size 83 #[.int .i64 (nk : Nat), .int .i64 (np : Nat), .string U]) := Blk.alloc Z4.out _
    obtain ⟨W5, hW5⟩ : ∃ W5, w4.alloc (.cells #[.string ⟨#[]⟩, .int .u8 0, .int .u8 0, .int .u8 0, .int .u8 0, .int .i64 0] 58) = W5 := ⟨_, rfl⟩
    rw [hW5] at H5 B5 X5 Y5 ⊢
    obtain ⟨⟨b0, b1, b2⟩, -⟩ := blk3 Y5.out
    clear hW5
    try dsimp only
    refine hK.out _ _ ⟨b2, b1⟩ (fun hHeld => ?_)
    clear hK K
    try simp only [Act.put, List.setIfInBounds_toArray, List.set_cons_zero, List.set_cons_succ]
    refine wpAnyH_ready (rs := [8]) (by kernel_rfl) (by simp) ?_
    refine AllReadyH.cons (o := { dst := none, op := Op.store 58 (Operand.tmp 4) (Operand.tmp 15), type := 0, pos := "language.go:61", after := #[{ on := 7, ground := Ground.data }, { on := 6, ground := Ground.data }, { on := 3, ground := Ground.chain }, { on := 0, ground := Ground.phase }, { on := 1, ground := Ground.phase }, { on := 2, ground := Ground.phase }, { on := 3, ground := Ground.phase }, { on := 4, ground := Ground.phase }, { on := 5, ground := Ground.phase }, { on := 6, ground := Ground.phase }, { on := 7, ground := Ground.phase }], guard := none }) rfl (fun K hK => ?_) AllReadyH.nil
    refine step_put H5 58 (.tmp 4) (.tmp 15) (g := w4.heap.size) (cells := C) B5.out rfl rfl rfl rfl hci (by rw [hCs]; rfl) hC1 (by decide) (by have := (At.rd H5).lt; omega) (by omega) ?_
    intro w6 H6 B6 K6 F6 Z6
    have X6 : Hid (Blk w6 W.heap.size 58 #[.string ⟨#[]⟩, .int .u8 0, .int .u8 0, .int .u8 0, .int .u8 0, .int .i64 0]) := F6.out _ _ _ (by omega) X5.out
    have Y6 := F6.out _ _ _ (by omega) Y5.out
    obtain ⟨⟨c0, c1, c2⟩, -⟩ := blk3 Y6
    refine hK.out _ _ ⟨c2, c1⟩ (fun hHeld => ?_)
    simp only [Act.put]
    refine wpAnyH_done (by kernel_rfl) ?_ _
    obtain ⟨gg, hgg⟩ : ∃ gg, w4.heap.size = gg := ⟨_, rfl⟩
    rw [hgg] at B6 ⊢
    have hgq : q < gg := by omega
    clear hK K hHeld H5 B5 X5 Y5 Y6 F6 K6
    go_wp2_with (first
      | refine wpList_load_row rfl 58 (.tmp 4) rfl gg rfl 58 C (0, 0) _ S7.out Tryz.underlying58 rfl hci ?_
      | (refine wp_put HH7 58 (.tmp 2) (.tmp 18) (cells := C) X7.out rfl rfl rfl rfl hci (by rw [hCs]; rfl) hC1 (by decide) hq hs0 ?_; intro w8 H8 B8 K8 F8 Z8)
      | go_at_call 26
        refine (ke.out _ _ (At.new H6)).mono ?_
        rintro e w7 ⟨rfl, H7⟩
        have X7 : Hid (Blk w7 W.heap.size 58 #[.string ⟨#[]⟩, .int .u8 0, .int .u8 0, .int .u8 0, .int .u8 0, .int .i64 0]) := At.box H7 X6.out (by omega)
        have S7 : Hid (Blk w7 gg 58 C) := At.box H7 B6.out (by omega)
        have HH7 : Hid (At x q w0 (s3.skip PP.m_semi) w7) := At.onto (At.mk' H6) H7)
    exact bodyPost_ret (results_cell_row rfl _ _ W.heap.size 58 C (0, 0) _ rfl B8.out Tryz.underlying58 rfl hci) rfl ⟨by rw [← hC], H8⟩
  · refine AllReadyH.cons (o := { dst := some 4, op := Op.alloc 58, type := 0, pos := "language.go:61", after := #[], guard := none }) rfl (fun K hK => ?_) AllReadyH.nil
    go_simp
    have H4 : Hid (At x q w0 s2 ((w3.alloc (.cells #[.string ⟨#[]⟩, .int .u8 0, .int .u8 0, .int .u8 0, .int .u8 0, .int .i64 0] 58)).drew)) := At.drew (At.alloc HH3 _)
    have B4 : Hid (Blk ((w3.alloc (.cells #[.string ⟨#[]⟩, .int .u8 0, .int .u8 0, .int .u8 0, .int .u8 0, .int .i64 0] 58)).drew) w3.heap.size 58 #[.string ⟨#[]⟩, .int .u8 0, .int .u8 0, .int .u8 0, .int .u8 0, .int .i64 0]) := blk_new w3 _ _
    have X4 : Hid (Blk ((w3.alloc (.cells #[.string ⟨#[]⟩, .int .u8 0, .int .u8 0, .int .u8 0, .int .u8 0, .int .i64 0] 58)).drew) W.heap.size 58 #[.string ⟨#[]⟩, .int .u8 0, .int .u8 0, .int .u8 0, .int .u8 0, .int .i64 0]) := Blk.alloc (w := w3) X3.out _
    have Y4 : Hid (Blk ((w3.alloc (.cells #[.string ⟨#[]⟩, .int .u8 0, .int .u8 0, .int .u8 0, .int .u8 0, .int .i64 0] 58)).drew) w1.heap.size 83 #[.int .i64 (nk : Nat), .int .i64 (np : Nat), .string U]) := Blk.alloc (w := w3) Z3.out _
    have hz4 : ((w3.alloc (.cells #[.string ⟨#[]⟩, .int .u8 0, .int .u8 0, .int .u8 0, .int .u8 0, .int .i64 0] 58)).drew).heap.size = w3.heap.size + 1 := by simp
    obtain ⟨W4, hW4⟩ : ∃ W4, (w3.alloc (.cells #[.string ⟨#[]⟩, .int .u8 0, .int .u8 0, .int .u8 0, .int .u8 0, .int .i64 0] 58)).drew = W4 := ⟨_, rfl⟩
    rw [hW4] at H4 B4 X4 Y4 hz4 ⊢
    obtain ⟨⟨b0, b1, b2⟩, -⟩ := blk3 Y4.out
    clear hW4
    try dsimp only
    refine hK.out _ _ ⟨b2, b1⟩ (fun hHeld => ?_)
    clear hK K
    try simp only [Act.put, List.setIfInBounds_toArray, List.set_cons_zero, List.set_cons_succ]
    refine wpAnyH_ready (rs := [3]) (by kernel_rfl) (by simp) ?_
    refine AllReadyH.cons (o := { dst := some 12, op := Op.call { callee := Callee.value (Operand.func 78), args := #[Operand.tmp 11], argTypes := #[49] }, type := 56, pos := "language.go:61", after := #[{ on := 2, ground := Ground.data }], guard := none }) rfl (fun K hK => ?_) AllReadyH.nil
    go_simp
    go_at_call 78
    refine (kv.out _ _ (At.new H4)).mono ?_
    rintro e w5 ⟨rfl, HN5⟩
    have H5 : Hid (At x q w0 s3 w5) := At.onto (At.mk' H4) HN5
    have hq3 : q < w3.heap.size := (At.rd H3).lt
    have Y5 : Hid (Blk w5 w1.heap.size 83 #[.int .i64 (nk : Nat), .int .i64 (np : Nat), .string U]) := At.box HN5 Y4.out (by omega)
    have X5 : Hid (Blk w5 W.heap.size 58 #[.string ⟨#[]⟩, .int .u8 0, .int .u8 0, .int .u8 0, .int .u8 0, .int .i64 0]) := At.box HN5 X4.out (by omega)
    have B5 : Hid (Blk w5 w3.heap.size 58 #[.string ⟨#[]⟩, .int .u8 0, .int .u8 0, .int .u8 0, .int .u8 0, .int .i64 0]) := At.box HN5 B4.out (by omega)
    clear b0 b1 b2
    obtain ⟨⟨b0, b1, b2⟩, -⟩ := blk3 Y5.out
    try dsimp only
    refine hK.out _ _ ⟨b2, b1⟩ (fun hHeld => ?_)
    clear hK K
    try simp only [Act.put, List.setIfInBounds_toArray, List.set_cons_zero, List.set_cons_succ]
    refine wpAnyH_take (i := 6) (oi := { dst := some 15, op := Op.build 58 #[(0, Operand.tmp 10), (1, Operand.tmp 12), (2, Operand.tmp 14)], type := 58, pos := "language.go:61", after := #[{ on := 1, ground := Ground.data }, { on := 3, ground := Ground.data }, { on := 5, ground := Ground.data }], guard := none }) (v := .agg C) rfl (by kernel_rfl) (by kernel_rfl) (by kernel_rfl) (fun _ _ _ h => h) (Or.inl ⟨by rfl, fun W hW => by
      dsimp only at hW
      obtain ⟨g1, g2⟩ := hW
      exact exec_build3 58 0 1 2 (.tmp 10) (.tmp 12) (.tmp 14) rfl (.string U) (.agg #[.int .u8 (r : Nat), .int .u8 (g : Nat), .int .u8 (b : Nat), .int .u8 (a : Nat)]) (.int .i64 (np : Nat)) rfl rfl rfl C hbd W⟩) hHeld ?_
    try simp only [Act.put, List.setIfInBounds_toArray, List.set_cons_zero, List.set_cons_succ]
    refine wpAnyH_ready (rs := [8]) (by kernel_rfl) (by simp) ?_
    refine AllReadyH.cons (o := { dst := none, op := Op.store 58 (Operand.tmp 4) (Operand.tmp 15), type := 0, pos := "language.go:61", after := #[{ on := 7, ground := Ground.data }, { on := 6, ground := Ground.data }, { on := 3, ground := Ground.chain }, { on := 0, ground := Ground.phase }, { on := 1, ground := Ground.phase }, { on := 2, ground := Ground.phase }, { on := 3, ground := Ground.phase }, { on := 4, ground := Ground.phase }, { on := 5, ground := Ground.phase }, { on := 6, ground := Ground.phase }, { on := 7, ground := Ground.phase }], guard := none }) rfl (fun K hK => ?_) AllReadyH.nil
    refine step_put H5 58 (.tmp 4) (.tmp 15) (g := w3.heap.size) (cells := C) B5.out rfl rfl rfl rfl hci (by rw [hCs]; rfl) hC1 (by decide) (by have := (At.rd H5).lt; omega) (by omega) ?_
    intro w6 H6 B6 K6 F6 Z6
    have X6 : Hid (Blk w6 W.heap.size 58 #[.string ⟨#[]⟩, .int .u8 0, .int .u8 0, .int .u8 0, .int .u8 0, .int .i64 0]) := F6.out _ _ _ (by omega) X5.out
    have Y6 := F6.out _ _ _ (by omega) Y5.out
    obtain ⟨⟨c0, c1, c2⟩, -⟩ := blk3 Y6
    refine hK.out _ _ ⟨c2, c1⟩ (fun hHeld => ?_)
    simp only [Act.put]
    refine wpAnyH_done (by kernel_rfl) ?_ _
    obtain ⟨gg, hgg⟩ : ∃ gg, w3.heap.size = gg := ⟨_, rfl⟩
    rw [hgg] at B6 ⊢
    have hgq : q < gg := by omega
    clear hK K hHeld H5 B5 X5 Y5 Y6 F6 K6
    go_wp2_with (first
      | refine wpList_load_row rfl 58 (.tmp 4) rfl gg rfl 58 C (0, 0) _ S7.out Tryz.underlying58 rfl hci ?_
      | (refine wp_put HH7 58 (.tmp 2) (.tmp 18) (cells := C) X7.out rfl rfl rfl rfl hci (by rw [hCs]; rfl) hC1 (by decide) hq hs0 ?_; intro w8 H8 B8 K8 F8 Z8)
      | go_at_call 26
        refine (ke.out _ _ (At.new H6)).mono ?_
        rintro e w7 ⟨rfl, H7⟩
        have X7 : Hid (Blk w7 W.heap.size 58 #[.string ⟨#[]⟩, .int .u8 0, .int .u8 0, .int .u8 0, .int .u8 0, .int .i64 0]) := At.box H7 X6.out (by omega)
        have S7 : Hid (Blk w7 gg 58 C) := At.box H7 B6.out (by omega)
        have HH7 : Hid (At x q w0 (s3.skip PP.m_semi) w7) := At.onto (At.mk' H6) H7)
    exact bodyPost_ret (results_cell_row rfl _ _ W.heap.size 58 C (0, 0) _ rfl B8.out Tryz.underlying58 rfl hci) rfl ⟨by rw [← hC], H8⟩

end Go.Proofs.YtenmkopiddmieabGreatDoor

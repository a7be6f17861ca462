/-
  A written icon, walked over the program.
-/
import Derived.Test.YtenmkopiddmieabGreatDoorParsePart
namespace Go.Proofs.YtenmkopiddmieabGreatDoor
open Go.RowKit

def ShapesAt (w : World) (v : Value) (l : List PP.Shape) : Prop := ∃ (hs : List (PP.Shape × Value)), hs.map (·.1) = l ∧ Many w 62 3 shapeL v hs ∧ ∀ p ∈ hs, ShapeOk w p
def CmdsAt (w : World) (v : Value) (l : List PP.Cmd) : Prop := ∃ (hs : List (PP.Cmd × Value)), hs.map (·.1) = l ∧ Many w 71 32 cmdL v hs ∧ ∀ p ∈ hs, CmdOk w p
/-- A written icon in memory. -/
structure SrcAt (w : World) (X : PP.Src) (v1 v2 v3 v4 : Value) : Prop where
  consts : Many w 54 3 valL v1 X.consts
  colors : Many w 58 6 refL v2 X.colors
  shapes : ShapesAt w v3 X.shapes
  cmds : CmdsAt w v4 X.cmds
theorem SrcAt.kt {t : TypeId} {w w' : World} {X : PP.Src} {v1 v2 v3 v4 : Value} (h : SrcAt w X v1 v2 v3 v4) (hk : Kt t w w') (ht : t ∉ [54, 58, 62, 71, 93, 119, 65] := by decide) : SrcAt w' X v1 v2 v3 v4 := by
  simp only [List.mem_cons, List.not_mem_nil, or_false, not_or] at ht
  obtain ⟨n1, n2, n3, n4, n5, n6, n7⟩ := ht
  obtain ⟨h1, h2, ⟨hs, e1, e2, e3⟩, ⟨hc, e4, e5, e6⟩⟩ := h
  exact ⟨Row.kt h1 hk (Ne.symm n1) (by decide), Row.kt h2 hk (Ne.symm n2) (by decide), ⟨hs, e1, Row.kt e2 hk (Ne.symm n3) (by decide), fun p hp => (e3 p hp).kt hk (Ne.symm n5) (Ne.symm n6) (Ne.symm n7)⟩, ⟨hc, e4, Row.kt e5 hk (Ne.symm n4) (by decide), fun p hp => (e6 p hp).kt hk (Ne.symm n5) (Ne.symm n6) (Ne.symm n7)⟩⟩
theorem SrcH.src {w : World} {b B : Nat} {X : PP.Src} {hs : List (PP.Shape × Value)} {hc : List (PP.Cmd × Value)} {a1 a2 a3 a4 : Option Addr} {c1 c2 c3 c4 : Nat} (h : SrcH w b B X hs hc a1 a2 a3 a4 c1 c2 c3 c4) : SrcAt w X (.slice a1 X.consts.length c1) (.slice a2 X.colors.length c2) (.slice a3 X.shapes.length c3) (.slice a4 X.cmds.length c4) := by
  refine ⟨h.o1.many, h.o2.many, ⟨hs, h.e3, ?_, h.k3⟩, ⟨hc, h.e4, ?_, h.k4⟩⟩
  · rw [← h.e3, List.length_map]; exact h.o3.many
  · rw [← h.e4, List.length_map]; exact h.o4.many

def wordsLen (q : Nat) (w : World) : Nat := match w.cell? ⟨q, 0, none⟩ with | some (.slice _ n _) => n | _ => 0
theorem wordsLen_at {x : Cx} {q : Nat} {w0 w : World} {s : PP.St} (h : Hid (At x q w0 s w)) : wordsLen q w = s.n := by
  obtain ⟨v, ev, hb, ⟨ad, cap, rfl, -⟩, -⟩ := (At.rd h).blk
  have c0 : w.cell? ⟨q, 0, none⟩ = some (.slice ad s.ws.length cap) := hb.cell 0
  unfold wordsLen
  rw [c0]

theorem partsGo_on {f : Nat} {X : PP.Src} {s : PP.St} (hk : s.n ≠ 0) (hf : s.n < f) : ∃ f', f = f' + 1 ∧ PP.partsGo f X s = PP.partsGo f' (PP.part X s).1 (PP.part X s).2 ∧ (PP.part X s).2.n < f' ∧ (PP.part X s).2.n < s.n := by
  obtain ⟨f', rfl⟩ : ∃ f', f = f' + 1 := ⟨f - 1, by omega⟩
  have h1 := PP.part_le X s
  refine ⟨f', rfl, ?_, by omega, by omega⟩
  conv => lhs; unfold PP.partsGo
  rw [if_neg hk]
theorem partsGo_off {f : Nat} {X : PP.Src} {s : PP.St} (hk : s.n = 0) : PP.partsGo f X s = (X, s) := by
  cases f with
  | zero => rfl
  | succ f => conv => lhs; unfold PP.partsGo
              rw [if_pos hk]

def src0 : Array Value := #[.int .i64 0, .int .i64 0, .int .i64 0, .slice none 0 0, .slice none 0 0, .slice none 0 0, .slice none 0 0]

/-- A count of lists against the words that are left. -/
def Fits (X : PP.Src) (s : PP.St) : Prop := X.consts.length + s.n ≤ 60000 ∧ X.colors.length + s.n ≤ 60000 ∧ X.shapes.length + s.n ≤ 60000 ∧ X.cmds.length + s.n ≤ 60000
theorem Fits.part {X : PP.Src} {s : PP.St} (h : Fits X s) (hk : s.n ≠ 0) : Fits (PP.part X s).1 (PP.part X s).2 := by
  have h1 := PP.part_le X s
  obtain ⟨p1, p2, p3, p4⟩ := PP.part_consts X s
  obtain ⟨f1, f2, f3, f4⟩ := h
  exact ⟨by omega, by omega, by omega, by omega⟩

def IconPost (x : Cx) (q : Nat) (w0 : World) (R : PP.Src × PP.St) (e : Ending) (w' : World) : Prop :=
  ∃ (a1 a2 a3 a4 : Option Addr) (c1 c2 c3 c4 : Nat), e = .returned (.agg #[.int .i64 (R.1.w : Nat), .int .i64 (R.1.h : Nat), .int .i64 (R.1.scale : Nat), .slice a1 R.1.consts.length c1, .slice a2 R.1.colors.length c2, .slice a3 R.1.shapes.length c3, .slice a4 R.1.cmds.length c4]) ∧ SrcAt w' R.1 (.slice a1 R.1.consts.length c1) (.slice a2 R.1.colors.length c2) (.slice a3 R.1.shapes.length c3) (.slice a4 R.1.cmds.length c4) ∧ Hid (At x q w0 R.2 w')

set_option maxRecDepth 20000 in
set_option maxHeartbeats 4000000 in
theorem icon_any {x : Cx} {q : Nat} {w0 W : World} {s : PP.St} (h : Hid (At x q w0 s W)) (hn : s.n ≤ 60000) :
    Calls Tryz.prog 15 #[.pointer (some ⟨q, 0, none⟩)] W (IconPost x q w0 (PP.icon s)) := by
  have HW := At.alloc (At.new h) (.cells src0 35)
  have HM : Hid (Mk q w0 (W.alloc (.cells src0 35))) := (At.mk' h).alloc _
  have B0 : Hid (Blk (W.alloc (.cells src0 35)) W.heap.size 35 src0) := blk_new _ _ _
  have hq : q < W.heap.size := (At.rd h).lt
  have hs0 := At.size h
  obtain ⟨s1, h1⟩ : ∃ s1, s.skip PP.k_icon = s1 := ⟨_, rfl⟩
  obtain ⟨v, h2⟩ : ∃ v, PP.whol s1 = v := ⟨_, rfl⟩
  obtain ⟨iw, s2⟩ := v
  obtain ⟨v, h3⟩ : ∃ v, PP.whol s2 = v := ⟨_, rfl⟩
  obtain ⟨ih, s3⟩ := v
  obtain ⟨v, h4⟩ : ∃ v, (if s3.is PP.k_scale = true then PP.whol s3.tl else (0, s3)) = v := ⟨_, rfl⟩
  obtain ⟨ic, s4⟩ := v
  obtain ⟨s5, h5⟩ : ∃ s5, s4.skip PP.m_semi = s5 := ⟨_, rfl⟩
  have HG : PP.headGo s = (⟨iw, ih, ic, [], [], [], []⟩, s5) := by
    unfold PP.headGo
    simp only [h1, h2, h3, h4, h5]
  have HR0 : Hid (PP.icon s = PP.partsGo (s5.n + 1) ⟨iw, ih, ic, [], [], [], []⟩ s5) := by show _ = _; unfold PP.icon; rw [HG]
  have hn5 : s5.n ≤ 60000 := by
    have e1 := PP.skip_le PP.k_icon s
    have e2 := PP.whol_le s1
    have e3 := PP.whol_le s2
    have e5 := PP.skip_le PP.m_semi s4
    rw [h1] at e1; rw [h2] at e2; rw [h3] at e3; rw [h5] at e5
    have e4 : s4.n ≤ s3.n := by
      split at h4
      · have e6 := PP.whol_le s3.tl
        rw [h4, PP.tl_n] at e6
        simp only at e6
        omega
      · cases h4; exact Nat.le_refl _
    simp only at e2 e3
    omega
  obtain ⟨R, hR⟩ : ∃ R, PP.icon s = R := ⟨_, rfl⟩
  rw [hR] at HR0 ⊢
  have ka : Hid (Calls Tryz.prog 26 #[.pointer (some ⟨q, 0, none⟩), .string ⟨#[105, 99, 111, 110]⟩] (W.alloc (.cells src0 35)) fun e w' => e = .returned (.tuple #[]) ∧ Hid (At x q (W.alloc (.cells src0 35)) s1 w')) := by
    have := skip_any PP.k_icon (At.new HW)
    rw [h1] at this
    exact this
  have kw1 : Hid (∀ w0 W, Hid (At x q w0 s1 W) → Calls Tryz.prog 27 #[.pointer (some ⟨q, 0, none⟩)] W fun e w' => e = .returned (.int .i64 (iw : Nat)) ∧ Hid (At x q w0 s2 w')) := fun w0 W H => by
    have := wholeR_any H
    rw [h2] at this
    exact this
  have kw2 : Hid (∀ w0 W, Hid (At x q w0 s2 W) → Calls Tryz.prog 27 #[.pointer (some ⟨q, 0, none⟩)] W fun e w' => e = .returned (.int .i64 (ih : Nat)) ∧ Hid (At x q w0 s3 w')) := fun w0 W H => by
    have := wholeR_any H
    rw [h3] at this
    exact this
  have ke : Hid (∀ w0 W, Hid (At x q w0 s4 W) → Calls Tryz.prog 26 #[.pointer (some ⟨q, 0, none⟩), .string ⟨#[59]⟩] W fun e w' => e = .returned (.tuple #[]) ∧ Hid (At x q w0 s5 w')) := fun w0 W H => by
    have := skip_any PP.m_semi H
    rw [h5] at this
    exact this
  clear h h1 h2 h3 h5 HG hR HW
  unfold src0 at ka
  go_enter Tryz.func15, Tryz.ntmps15
  go_upto_region 3 with (first
    | (go_at_call 27; refine (kw2.out _ _ H2).mono ?_; rintro e w3 ⟨rfl, H3⟩)
    | (go_at_call 27; refine (kw1.out _ _ H1).mono ?_; rintro e w2 ⟨rfl, H2⟩)
    | (go_at_call 26; refine ka.out.mono ?_; rintro e w1 ⟨rfl, H1⟩))
  obtain ⟨W4, hW4⟩ : ∃ W4, w3.alloc (.cells #[.int .i64 (iw : Nat), .int .i64 (ih : Nat), .int .i64 0, .slice none 0 0, .slice none 0 0, .slice none 0 0, .slice none 0 0] 35) = W4 := ⟨_, rfl⟩
  obtain ⟨b, hb⟩ : ∃ b, w3.heap.size = b := ⟨_, rfl⟩
  have hbq : q < b := by rw [← hb]; exact (At.rd H3).lt
  have hWb : W.heap.size < b := by rw [← hb]; have := At.size H3; simp at this; omega
  have A4 : Hid (At x q (W.alloc (.cells src0 35)) s3 W4) := by rw [← hW4]; exact At.alloc H3 _
  have B4 : Hid (Blk W4 b 35 #[.int .i64 (iw : Nat), .int .i64 (ih : Nat), .int .i64 0, .slice none 0 0, .slice none 0 0, .slice none 0 0, .slice none 0 0]) := by rw [← hW4, ← hb]; exact blk_new _ _ _
  have X4 : Hid (Blk W4 W.heap.size 35 src0) := by rw [← hW4]; exact Blk.alloc (At.box H3 B0.out (by omega)) _
  rw [hW4, hb]
  clear hW4 hb H3 H2 H1 ka kw1 kw2
  by_cases ht : s3.is PP.k_scale = true
  · rw [if_pos ht] at h4
    have kt : Hid (∀ w0 W, Hid (At x q w0 s3 W) → Calls Tryz.prog 28 #[.pointer (some ⟨q, 0, none⟩), .string ⟨#[115, 99, 97, 108, 101]⟩] W fun e w' => e = .returned (.bool true) ∧ Hid (At x q w0 s3.tl w')) := fun w0 W H => by
      have := try_any PP.k_scale H
      unfold St.try' at this
      rw [ht, if_pos rfl] at this
      exact this
    have kc : Hid (∀ w0 W, Hid (At x q w0 s3.tl W) → Calls Tryz.prog 27 #[.pointer (some ⟨q, 0, none⟩)] W fun e w' => e = .returned (.int .i64 (ic : Nat)) ∧ Hid (At x q w0 s4 w')) := fun w0 W H => by
      have := wholeR_any H
      rw [h4] at this
      exact this
    clear ht h4
    go_upto_region 5 with (first
      | go_at_call 27
        refine (kc.out _ _ H5).mono ?_
        rintro e w6 ⟨rfl, H6⟩
        have B6 : Hid (Blk w6 b 35 #[.int .i64 (iw : Nat), .int .i64 (ih : Nat), .int .i64 0, .slice none 0 0, .slice none 0 0, .slice none 0 0, .slice none 0 0]) := At.box H6 B4.out (by omega)
        have z2 := B6.out.some (j := 2) (by simp)
        have y2 := B6.out.frozen 2
        have l6 := B6.out.lt
      | (go_at_call 28; refine (kt.out _ _ (At.new A4)).mono ?_; rintro e w5 ⟨rfl, H5⟩))
    obtain ⟨W7, hW7⟩ : ∃ W7, w6.setCell ⟨b, 2, none⟩ (.int .i64 (ic : Nat)) = W7 := ⟨_, rfl⟩
    have A7 : Hid (At x q (W.alloc (.cells src0 35)) s4 W7) := by rw [← hW7]; exact At.row (At.onto (At.mk' A4) H6) B6.out (by decide) hbq (by simp only [World.size_alloc]; omega) 2 [.int .i64 (ic : Nat)]
    have B7 : Hid (Blk W7 b 35 #[.int .i64 (iw : Nat), .int .i64 (ih : Nat), .int .i64 (ic : Nat), .slice none 0 0, .slice none 0 0, .slice none 0 0, .slice none 0 0]) := by rw [← hW7]; exact B6.out.set (j := 2) _
    have X7 : Hid (Blk W7 W.heap.size 35 src0) := by rw [← hW7]; exact Blk.far (At.box H6 X4.out (by omega)) (p := ⟨b, 2, none⟩) (by show W.heap.size ≠ b; omega) _
    rw [hW7]
    clear hW7 z2 y2 l6 B6 H6 H5 kt kc A4 B4 X4
    go_wp2_with (go_at_call 26; refine (ke.out _ _ (At.new A7)).mono ?_; rintro e w8 ⟨rfl, H8⟩)
    have A8 : Hid (At x q (W.alloc (.cells src0 35)) s5 w8) := At.onto (At.mk' A7) H8
    have B8 := hid'' (At.box H8 B7.out (by omega))
    have S8 : Hid (SrcSt w8 b (b + 1) ⟨iw, ih, ic, [], [], [], []⟩) := ⟨[], [], none, none, none, none, 0, 0, 0, 0, B8.out, own_nil _ _ _ _ _, own_nil _ _ _ _ _, own_nil _ _ _ _ _, own_nil _ _ _ _ _, rfl, rfl, fun _ hp => absurd hp (by simp), fun _ hp => absurd hp (by simp)⟩
    clear B7 X7 A7 ke B8
    have hF8 : Hid (Fits ⟨iw, ih, ic, [], [], [], []⟩ s5) := by show Fits _ _; unfold Fits; simp; exact hn5
    go_loopw [] (fun wr => ∃ (X : PP.Src) (f : Nat) (s' : PP.St), Hid (At x q (W.alloc (.cells src0 35)) s' wr) ∧ Hid (SrcSt wr b (b + 1) X) ∧ Hid (Fits X s') ∧ Hid (s'.n < f ∧ R = PP.partsGo f X s')) (fun wr => wordsLen q wr)
    case atStart => exact ⟨_, _, _, A8, S8, hF8, ⟨Nat.lt_succ_self _, HR0.out⟩⟩
    case round =>
      clear A8 S8 hF8 HR0
      obtain ⟨X, f, s', HA, HS, HF, HR⟩ := hrel
      have HX : Hid (Blk wr W.heap.size 35 src0) := At.box HA B0.out (by omega)
      have hlb : b < wr.heap.size := by obtain ⟨_, _, _, _, _, _, _, _, _, _, HH⟩ := HS.out; exact HH.blk.lt
      have hm := wordsLen_at HA
      obtain ⟨v, ev, hbk, ⟨ad, cap, rfl, hl, hc, -⟩, -⟩ := (At.rd HA).blk
      have hq1 := hbk.lt
      obtain ⟨n, hnn⟩ : ∃ n, s'.ws.length = n := ⟨_, rfl⟩
      have c0 : wr.cell? ⟨q, 0, none⟩ = some (.slice ad n cap) := by rw [← hnn]; exact hbk.cell 0
      rw [hnn] at hl
      have hnn' : s'.n = n := hnn
      unfold maxLen at hc
      clear hbk
      by_cases hk : n = 0
      · subst hk
        have HZ : Hid (R = (X, s')) := by show _ = _; rw [HR.out.2, partsGo_off hnn']
        obtain ⟨hs, hcm, a1, a2, a3, a4, c1, c2, c3, c4, HH⟩ := HS.out
        have HB := hid'' HH.blk
        have HSrc := hid'' HH.src
        obtain ⟨C, hC⟩ : ∃ C : Array Value, #[.int .i64 (X.w : Nat), .int .i64 (X.h : Nat), .int .i64 (X.scale : Nat), .slice a1 X.consts.length c1, .slice a2 X.colors.length c2, .slice a3 X.shapes.length c3, .slice a4 X.cmds.length c4] = C := ⟨_, rfl⟩
        rw [hC] at HB
        have hCs : C.size = 7 := by rw [← hC]; rfl
        have hC1 : C.all (·.oneCell') = true := by rw [← hC]; simp [Value.oneCell']
        have hci : (Tryz.prog.info? 35).map (·.size) = some C.size := by rw [hCs]; kernel_rfl
        clear HH HR HF HS
        go_wp2_with (first
          | refine wpList_load_row rfl 35 (.tmp 3) rfl b rfl 35 C (0, 0) _ HB.out Tryz.underlying35 rfl hci ?_
          | (refine wp_put (At.onto HM.out HA) 35 (.tmp 2) (.tmp 26) (cells := C) HX.out rfl rfl rfl rfl hci (by rw [hCs]; rfl) hC1 (by decide) hq hs0 ?_; intro wE HE BE KE FE ZE))
        refine bodyPost_ret (results_cell_row rfl _ _ W.heap.size 35 C (0, 0) _ rfl BE.out Tryz.underlying35 rfl hci) rfl ⟨a1, a2, a3, a4, c1, c2, c3, c4, by rw [← hC, HZ.out], ?_, by rw [HZ.out]; exact HE⟩
        rw [HZ.out]
        exact HSrc.out.kt (t := 35) KE.out
      · obtain ⟨f', -, e2, e3, e4⟩ := partsGo_on (X := X) (f := f) (s := s') (by rw [hnn']; exact hk) HR.out.1
        have HR2 : Hid ((PP.part X s').2.n < f' ∧ R = PP.partsGo f' (PP.part X s').1 (PP.part X s').2) := ⟨e3, HR.out.2.trans e2⟩
        have HF2 := hid'' (HF.out.part (by rw [hnn']; exact hk))
        have hFl := HF.out
        unfold Fits at hFl
        have kp := hid'' (part_any HA HS hbq (Nat.lt_succ_self b) (by simp only [World.size_alloc]; omega) hlb (by omega))
        have d0 : (0 : Int) < (n : Int) := by omega
        clear e2 e3
        go_wp2_with (go_at_call 29; refine kp.out.mono ?_; rintro e w9 ⟨rfl, H9, S9⟩)
        go_roundw
        case rel => exact ⟨_, f', _, H9, S9, HF2, HR2⟩
        case measure => rw [wordsLen_at H9, hm]; exact e4
  · have ht' : s3.is PP.k_scale = false := by simpa using ht
    rw [if_neg ht] at h4
    obtain ⟨rfl, rfl⟩ : ic = 0 ∧ s4 = s3 := by cases h4; exact ⟨rfl, rfl⟩
    have kt : Hid (∀ w0 W, Hid (At x q w0 s4 W) → Calls Tryz.prog 28 #[.pointer (some ⟨q, 0, none⟩), .string ⟨#[115, 99, 97, 108, 101]⟩] W fun e w' => e = .returned (.bool false) ∧ Hid (At x q w0 s4 w')) := fun w0 W H => by
      have := try_any PP.k_scale H
      unfold St.try' at this
      rw [ht', if_neg (by simp)] at this
      exact this
    clear ht ht' h4
    go_upto_region 5 with (first
      | (go_at_call 28; refine (kt.out _ _ (At.new A4)).mono ?_; rintro e W7 ⟨rfl, H5⟩))
    have A7 : Hid (At x q (W.alloc (.cells src0 35)) s4 W7) := At.onto (At.mk' A4) H5
    have B7 : Hid (Blk W7 b 35 #[.int .i64 (iw : Nat), .int .i64 (ih : Nat), .int .i64 (0 : Nat), .slice none 0 0, .slice none 0 0, .slice none 0 0, .slice none 0 0]) := At.box H5 B4.out (by omega)
    have X7 : Hid (Blk W7 W.heap.size 35 src0) := At.box H5 X4.out (by omega)
    clear H5 kt A4 B4 X4
    go_wp2_with (go_at_call 26; refine (ke.out _ _ (At.new A7)).mono ?_; rintro e w8 ⟨rfl, H8⟩)
    have A8 : Hid (At x q (W.alloc (.cells src0 35)) s5 w8) := At.onto (At.mk' A7) H8
    have B8 := hid'' (At.box H8 B7.out (by omega))
    have S8 : Hid (SrcSt w8 b (b + 1) ⟨iw, ih, 0, [], [], [], []⟩) := ⟨[], [], none, none, none, none, 0, 0, 0, 0, B8.out, own_nil _ _ _ _ _, own_nil _ _ _ _ _, own_nil _ _ _ _ _, own_nil _ _ _ _ _, rfl, rfl, fun _ hp => absurd hp (by simp), fun _ hp => absurd hp (by simp)⟩
    clear B7 X7 A7 ke B8
    have hF8 : Hid (Fits ⟨iw, ih, 0, [], [], [], []⟩ s5) := by show Fits _ _; unfold Fits; simp; exact hn5
    go_loopw [] (fun wr => ∃ (X : PP.Src) (f : Nat) (s' : PP.St), Hid (At x q (W.alloc (.cells src0 35)) s' wr) ∧ Hid (SrcSt wr b (b + 1) X) ∧ Hid (Fits X s') ∧ Hid (s'.n < f ∧ R = PP.partsGo f X s')) (fun wr => wordsLen q wr)
    case atStart => exact ⟨_, _, _, A8, S8, hF8, ⟨Nat.lt_succ_self _, HR0.out⟩⟩
    case round =>
      clear A8 S8 hF8 HR0
      obtain ⟨X, f, s', HA, HS, HF, HR⟩ := hrel
      have HX : Hid (Blk wr W.heap.size 35 src0) := At.box HA B0.out (by omega)
      have hlb : b < wr.heap.size := by obtain ⟨_, _, _, _, _, _, _, _, _, _, HH⟩ := HS.out; exact HH.blk.lt
      have hm := wordsLen_at HA
      obtain ⟨v, ev, hbk, ⟨ad, cap, rfl, hl, hc, -⟩, -⟩ := (At.rd HA).blk
      have hq1 := hbk.lt
      obtain ⟨n, hnn⟩ : ∃ n, s'.ws.length = n := ⟨_, rfl⟩
      have c0 : wr.cell? ⟨q, 0, none⟩ = some (.slice ad n cap) := by rw [← hnn]; exact hbk.cell 0
      rw [hnn] at hl
      have hnn' : s'.n = n := hnn
      unfold maxLen at hc
      clear hbk
      by_cases hk : n = 0
      · subst hk
        have HZ : Hid (R = (X, s')) := by show _ = _; rw [HR.out.2, partsGo_off hnn']
        obtain ⟨hs, hcm, a1, a2, a3, a4, c1, c2, c3, c4, HH⟩ := HS.out
        have HB := hid'' HH.blk
        have HSrc := hid'' HH.src
        obtain ⟨C, hC⟩ : ∃ C : Array Value, #[.int .i64 (X.w : Nat), .int .i64 (X.h : Nat), .int .i64 (X.scale : Nat), .slice a1 X.consts.length c1, .slice a2 X.colors.length c2, .slice a3 X.shapes.length c3, .slice a4 X.cmds.length c4] = C := ⟨_, rfl⟩
        rw [hC] at HB
        have hCs : C.size = 7 := by rw [← hC]; rfl
        have hC1 : C.all (·.oneCell') = true := by rw [← hC]; simp [Value.oneCell']
        have hci : (Tryz.prog.info? 35).map (·.size) = some C.size := by rw [hCs]; kernel_rfl
        clear HH HR HF HS
        go_wp2_with (first
          | refine wpList_load_row rfl 35 (.tmp 3) rfl b rfl 35 C (0, 0) _ HB.out Tryz.underlying35 rfl hci ?_
          | (refine wp_put (At.onto HM.out HA) 35 (.tmp 2) (.tmp 26) (cells := C) HX.out rfl rfl rfl rfl hci (by rw [hCs]; rfl) hC1 (by decide) hq hs0 ?_; intro wE HE BE KE FE ZE))
        refine bodyPost_ret (results_cell_row rfl _ _ W.heap.size 35 C (0, 0) _ rfl BE.out Tryz.underlying35 rfl hci) rfl ⟨a1, a2, a3, a4, c1, c2, c3, c4, by rw [← hC, HZ.out], ?_, by rw [HZ.out]; exact HE⟩
        rw [HZ.out]
        exact HSrc.out.kt (t := 35) KE.out
      · obtain ⟨f', -, e2, e3, e4⟩ := partsGo_on (X := X) (f := f) (s := s') (by rw [hnn']; exact hk) HR.out.1
        have HR2 : Hid ((PP.part X s').2.n < f' ∧ R = PP.partsGo f' (PP.part X s').1 (PP.part X s').2) := ⟨e3, HR.out.2.trans e2⟩
        have HF2 := hid'' (HF.out.part (by rw [hnn']; exact hk))
        have hFl := HF.out
        unfold Fits at hFl
        have kp := hid'' (part_any HA HS hbq (Nat.lt_succ_self b) (by simp only [World.size_alloc]; omega) hlb (by omega))
        have d0 : (0 : Int) < (n : Int) := by omega
        clear e2 e3
        go_wp2_with (go_at_call 29; refine kp.out.mono ?_; rintro e w9 ⟨rfl, H9, S9⟩)
        go_roundw
        case rel => exact ⟨_, f', _, H9, S9, HF2, HR2⟩
        case measure => rw [wordsLen_at H9, hm]; exact e4

end Go.Proofs.YtenmkopiddmieabGreatDoor

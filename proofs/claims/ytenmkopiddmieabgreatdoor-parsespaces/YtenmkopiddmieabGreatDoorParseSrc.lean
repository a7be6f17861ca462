/-
  A text as a written icon, walked over the program.
-/
import Derived.Test.YtenmkopiddmieabGreatDoorParseIcon
import Derived.Test.YtenmkopiddmieabGreatDoorParseFit
namespace Go.Proofs.YtenmkopiddmieabGreatDoor
open Go.RowKit

/-- The errors' variables that the parser meets. -/
structure ErrP (w : World) (x : Cx) : Prop where
  et : w.cell? ⟨1, 0, none⟩ = some (errV x 0)
  el : w.cell? ⟨0, 0, none⟩ = some (errV x 5)
  big : 2 ≤ w.heap.size
theorem ErrP.below {w w' : World} {x : Cx} (h : ErrP w x) (hb : Below w.heap.size w w') : ErrP w' x := by
  have h3 := h.big
  exact ⟨(hb.cell (p := ⟨1, 0, none⟩) (by show 1 < _; omega)).trans h.et, (hb.cell (p := ⟨0, 0, none⟩) (by show 0 < _; omega)).trans h.el, Nat.le_trans h3 hb.size⟩
theorem ErrP.text {w : World} {x : Cx} (h : ErrP w x) : ErrT w x.ea := ⟨h.et, by have := h.big; omega⟩

def SrcPost (w : World) (x : Cx) (R : Except (Nat × Nat) PP.Src) (e : Ending) (w' : World) : Prop :=
  Below w.heap.size w w' ∧ match R with
  | .ok X => ∃ (a1 a2 a3 a4 : Option Addr) (c1 c2 c3 c4 : Nat), e = .returned (.tuple #[.agg #[.int .i64 (X.w : Nat), .int .i64 (X.h : Nat), .int .i64 (X.scale : Nat), .slice a1 X.consts.length c1, .slice a2 X.colors.length c2, .slice a3 X.shapes.length c3, .slice a4 X.cmds.length c4], .nilIface]) ∧ SrcAt w' X (.slice a1 X.consts.length c1) (.slice a2 X.colors.length c2) (.slice a3 X.shapes.length c3) (.slice a4 X.cmds.length c4)
  | .error c => ∃ g, e = .returned (.tuple #[.agg src0, .iface 75 (.pointer (some ⟨g, 0, none⟩))]) ∧ Blk w' g 77 #[.int .i64 (c.2 : Nat), errV x c.1]

theorem results_src {fn : Func} {p t' : Tmp} (h : fn.results = #[.cell p 35, .tmp t']) (tmps : Array Value) (w : World) (g : Nat) (t : TypeId) (cs : Array Value)
    (hp : tmps.getD p undef = .pointer (some ⟨g, 0, none⟩)) (hg : Blk w g t cs) (hi : (Tryz.prog.info? 35).map (·.size) = some cs.size) (v : Value) (hv : tmps.getD t' undef = v) :
    (results fn tmps).run Tryz.prog w = .ok (.tuple #[.agg cs, v]) w := by
  have hp' : tmps[p]?.getD undef = .pointer (some ⟨g, 0, none⟩) := by simpa using hp
  have hv' : tmps[t']?.getD undef = v := by simpa using hv
  have hl := run_loadVar_row (P := Tryz.prog) w g t 35 cs (0, 0) _ hg Tryz.underlying35 rfl hi
  simp [results, h, hp', hv', asAddr, hl]

theorem Blk.drew {w : World} {b : Nat} {t : TypeId} {a : Array Value} (h : Blk w b t a) : Blk w.drew b t a := h
theorem src0_row {w : World} {g : Nat} (h : Blk w g 35 src0) : Blk (setRow w g 0 [.int .i64 0, .int .i64 0, .int .i64 0, .slice none 0 0, .slice none 0 0, .slice none 0 0, .slice none 0 0]) g 35 src0 := by
  have := Blk.row [.int .i64 0, .int .i64 0, .int .i64 0, .slice none 0 0, .slice none 0 0, .slice none 0 0, .slice none 0 0] 0 _ _ h
  rw [show putRow src0 0 [.int .i64 0, .int .i64 0, .int .i64 0, .slice none 0 0, .slice none 0 0, .slice none 0 0, .slice none 0 0] = src0 from putRow_all _ _ rfl] at this
  exact this

/-- A whole struct is stored, wherever it lies. -/
theorem wp_put0 {w : World} {ops : Array Oper} {rest : List Oper} {o : Oper} {a : Act} {Q : Exit → Act → World → Prop} (ty : TypeId) (px py : Operand) {g : Nat} {t : TypeId} {old cells : Array Value} (hg : Blk w g t old)
    (hgd : o.guard = none) (ho : o.op = .store ty px py) (hx : a.eval px = .pointer (some ⟨g, 0, none⟩)) (hy : a.eval py = .agg cells) (hi : (Tryz.prog.info? ty).map (·.size) = some cells.size)
    (hold : old.size = cells.size) (h1 : cells.all (·.oneCell') = true)
    (k : ∀ w', Hid (Blk w' g t cells) → Hid (Kt t w w') → Hid (Fs g w w') → Hid (∀ B, B ≤ g → Below B w w') → wpList Tryz.prog ops Q rest (a.put o.dst undef) w') : wpList Tryz.prog ops Q (o :: rest) a w := by
  refine wpList_store_row hgd ty px py ho g cells hx hy t old hg hi hold h1 ?_
  refine k _ (setRow_heap w g old cells t (0, 0) hg) ?_ (fun c u b hne hb => (setRow_other w g c cells hne).trans hb) (fun B hB => ⟨rfl, rfl, rfl, by simp, fun k hk => setRow_other w g k cells (by omega)⟩)
  refine ⟨by simp, fun j cur u h1 _ h3 => (setRow_other w g j cells (fun e => h1 ?_)).trans h3⟩
  subst e
  unfold Blk at hg
  rw [hg] at h3
  simp at h3
  exact h3.2.symm

/-- A reader that begins. -/
theorem rd_start {x : Cx} {w w1 : World} {l : List UInt8} {ws : List WP.W} {ad : Option Addr} {cap : Nat} (hE : ErrP w1 x) (hw : WP.split l = .ok ws) (hl : l.length ≤ 60000) (hO : Own w1 w.heap.size 83 3 wcells ad cap ws) :
    Rd x w1.heap.size (w1.alloc (.cells #[.slice ad ws.length cap, .int .i64 (l.length : Nat), .nilIface] 51)) (PP.start l.length ws) := by
  obtain ⟨f1, f2⟩ := WP.split_fit hw
  have hb : Below w1.heap.size w1 (w1.alloc (.cells #[.slice ad ws.length cap, .int .i64 (l.length : Nat), .nilIface] 51)) := (Below.refl _ _).alloc (Nat.le_refl _) _
  have hE2 := hE.below hb
  have hm := hO.many.len
  obtain ⟨ad', cap', e1, e2, e3⟩ := hm
  simp only [Value.slice.injEq] at e1
  obtain ⟨rfl, -, rfl⟩ := e1
  refine ⟨hE2.et, hE2.el, hE.big, ⟨_, _, blk_new _ _ _, ⟨ad, cap, rfl, e2, e3, fun k hk => ?_⟩, rfl⟩, hl, fun u hu => ⟨(f2 u hu).1, Nat.le_trans (f2 u hu).2.1 hl, (f2 u hu).2.2⟩⟩
  have hk' : k < ws.length := hk
  obtain ⟨g, e4, e5, e6⟩ := own_w hO (by intro e; rw [e] at hk'; simp at hk')
  obtain ⟨c0, c1, c2⟩ := e6 k hk'
  refine ⟨g, 0, e4, e5, ?_, ?_, ?_⟩
  · rw [Nat.zero_add]; exact (hb.cell (p := ⟨g, k * 3, none⟩) e5).trans c0
  · rw [Nat.zero_add]; exact (hb.cell (p := ⟨g, k * 3 + 1, none⟩) e5).trans c1
  · rw [Nat.zero_add]; exact (hb.cell (p := ⟨g, k * 3 + 2, none⟩) e5).trans c2

set_option maxRecDepth 20000 in
set_option maxHeartbeats 4000000 in
theorem src_any (s : ByteArray) (x : Cx) (w : World) (hs : s.size ≤ 60000) (hE : Hid (ErrP w x)) :
    Calls Tryz.prog 6 #[.string s] w (SrcPost w x (PP.src s.data.toList)) := by
  have hsz : s.data.toList.length = s.size := (Lib.size_eq s).symm
  have W1E : Hid (ErrP (w.alloc (.cells src0 35)) x) := hE.out.below ((Below.refl _ _).alloc (Nat.le_refl _) _)
  have B0 : Hid (Blk (w.alloc (.cells src0 35)) w.heap.size 35 src0) := blk_new _ _ _
  have hbg := hE.out.big
  have hci : (Tryz.prog.info? 35).map (·.size) = some 7 := by kernel_rfl
  obtain ⟨P, hP⟩ : ∃ P, PP.src s.data.toList = P := ⟨_, rfl⟩
  rw [hP]
  cases hw : WP.split s.data.toList with
  | error n =>
    have HP : Hid (P = .error (0, n)) := by show _ = _; rw [← hP]; unfold PP.src; rw [hw]
    have k1 := hid'' (split_bad s x.ea (w.alloc (.cells src0 35)) hs W1E.out.text n hw)
    unfold src0 at k1
    clear hw hP hsz
    go_enter Tryz.func6, Tryz.ntmps6
    go_wp2_with (first
      | go_at_call 14
        refine k1.out.mono ?_
        rintro e w1 ⟨g, rfl, hg, hb⟩
        have HG : Hid (Blk w1 g 77 #[.int .i64 (n : Nat), .iface 167 (.pointer (some x.ea))]) := hg
        have HB := hid'' hb
        have X1 : Hid (Blk w1 w.heap.size 35 src0) := B0.out.below hb (by simp)
        have lx := X1.out.lt
        have z0 := X1.out.some (j := 0) (by decide)
        have z1 := X1.out.some (j := 1) (by decide)
        have z2 := X1.out.some (j := 2) (by decide)
        have z3 := X1.out.some (j := 3) (by decide)
        have z4 := X1.out.some (j := 4) (by decide)
        have z5 := X1.out.some (j := 5) (by decide)
        have z6 := X1.out.some (j := 6) (by decide)
        have y0 := X1.out.frozen 0
        have y1 := X1.out.frozen 1
        have y2 := X1.out.frozen 2
        have y3 := X1.out.frozen 3
        have y4 := X1.out.frozen 4
        have y5 := X1.out.frozen 5
        have y6 := X1.out.frozen 6
        clear hg hb)
    have hne : g ≠ w.heap.size := fun e => by
      have h1 := HG.out
      have h2 := X1.out
      unfold Blk at h1 h2
      rw [e, h2] at h1
      simp at h1
    have hbf := below_row (((Below.refl w.heap.size w).alloc (Nat.le_refl _) (.cells src0 35)).trans (HB.out.mono (by simp))) (Nat.le_refl _) 0 [.int .i64 0, .int .i64 0, .int .i64 0, .slice none 0 0, .slice none 0 0, .slice none 0 0, .slice none 0 0]
    have hB : Blk (setRow w1 w.heap.size 0 [.int .i64 0, .int .i64 0, .int .i64 0, .slice none 0 0, .slice none 0 0, .slice none 0 0, .slice none 0 0]) w.heap.size 35 src0 := by
      have := Blk.row [.int .i64 0, .int .i64 0, .int .i64 0, .slice none 0 0, .slice none 0 0, .slice none 0 0, .slice none 0 0] 0 _ _ X1.out
      rw [show putRow src0 0 [.int .i64 0, .int .i64 0, .int .i64 0, .slice none 0 0, .slice none 0 0, .slice none 0 0, .slice none 0 0] = src0 from putRow_all _ _ rfl] at this
      exact this
    have hG := Blk.rowFar hne [.int .i64 0, .int .i64 0, .int .i64 0, .slice none 0 0, .slice none 0 0, .slice none 0 0, .slice none 0 0] 0 _ _ HG.out
    refine bodyPost_ret (results_src rfl _ _ w.heap.size 35 src0 rfl hB hci (.iface 75 (.pointer (some ⟨g, 0, none⟩))) rfl) rfl ⟨hbf, ?_⟩
    rw [HP.out]
    exact ⟨g, rfl, hG⟩
  | ok ws =>
    have hfit := WP.split_fit hw
    have HP : Hid (P = match (PP.icon (PP.start s.size ws)).2.er with | some e => .error e | none => .ok (PP.icon (PP.start s.size ws)).1) := by
      show _ = _
      rw [← hP]
      unfold PP.src
      rw [hw, hsz]
      rfl
    have k1 := hid'' (split_ok s x.ea (w.alloc (.cells src0 35)) hs W1E.out.text ws hw)
    have hws : ws.length ≤ 60000 := by rw [hsz] at hfit; omega
    have krd : Hid (∀ (w1 : World) (ad : Option Addr) (cap : Nat), ErrP w1 x → Own w1 (w.alloc (.cells src0 35)).heap.size 83 3 wcells ad cap ws → Rd x w1.heap.size (w1.alloc (.cells #[.slice ad ws.length cap, .int .i64 (s.size : Nat), .nilIface] 51)) (PP.start s.size ws)) := fun w1 ad cap h1 h2 => by
      have := rd_start h1 hw (by rw [hsz]; exact hs) h2
      rw [hsz] at this
      exact this
    obtain ⟨R, hR⟩ : ∃ R, PP.icon (PP.start s.size ws) = R := ⟨_, rfl⟩
    obtain ⟨X, st⟩ := R
    rw [hR] at HP
    have ki : Hid (∀ (q : Nat) (w0 W : World), Hid (At x q w0 (PP.start s.size ws) W) → Calls Tryz.prog 15 #[.pointer (some ⟨q, 0, none⟩)] W (IconPost x q w0 (X, st))) := fun q w0 W H => by
      have := icon_any H hws
      rw [hR] at this
      exact this
    unfold src0 at k1
    clear hw hP hR hfit
    go_enter Tryz.func6, Tryz.ntmps6
    go_upto_region 5 with (first
      | go_at_call 14
        refine k1.out.mono ?_
        rintro e w1 ⟨ad, cap, rfl, hown, hb⟩
        have HB := hid'' hb
        have E1 := W1E.out.below hb
        have X1 : Hid (Blk w1 w.heap.size 35 src0) := B0.out.below hb (by simp)
        have H2 : Hid (At x w1.heap.size (w1.alloc (.cells #[.slice ad ws.length cap, .int .i64 (s.size : Nat), .nilIface] 51)) (PP.start s.size ws) (w1.alloc (.cells #[.slice ad ws.length cap, .int .i64 (s.size : Nat), .nilIface] 51))) := ⟨krd.out _ _ _ E1 hown, Mk.refl _ _⟩
        clear hown hb)
    have XR : Hid (Blk (w1.alloc (.cells #[.slice ad ws.length cap, .int .i64 (s.size : Nat), .nilIface] 51)) w.heap.size 35 src0) := Blk.alloc X1.out _
    have hqw : w.heap.size < w1.heap.size := X1.out.lt
    have HBR : Hid (Below w.heap.size w (w1.alloc (.cells #[.slice ad ws.length cap, .int .i64 (s.size : Nat), .nilIface] 51))) := (((Below.refl w.heap.size w).alloc (Nat.le_refl _) (.cells src0 35)).trans (HB.out.mono (by simp))).alloc (Nat.le_of_lt hqw) _
    obtain ⟨WR, hWR⟩ : ∃ WR, w1.alloc (.cells #[.slice ad ws.length cap, .int .i64 (s.size : Nat), .nilIface] 51) = WR := ⟨_, rfl⟩
    have hWRs : WR.heap.size = w1.heap.size + 1 := by rw [← hWR]; simp
    obtain ⟨q, hq⟩ : ∃ q, w1.heap.size = q := ⟨_, rfl⟩
    rw [hWR] at H2 XR HBR ⊢
    rw [hq] at H2 hqw hWRs ⊢
    clear X1 HB hWR E1 W1E hE
    have hne : ¬ (q = w.heap.size) := by omega
    have hne' : ¬ (w.heap.size = q) := by omega
    go_upto_region 6 with (first
      | (refine wp_put (At.alloc (At.onto (Mk.refl _ _) H3) _) 35 (.tmp 7) (.tmp 23) (cells := C) (blk_new _ _ _) rfl rfl rfl rfl (by rw [hCs]; kernel_rfl) (by rw [hCs]; rfl) hC1 (by decide) (At.rd H3).lt (At.size H3) ?_; intro wE HE BE KE FE ZE)
      | go_at_call 15
        refine (ki.out _ _ _ H2).mono ?_
        rintro e w3 ⟨a1, a2, a3, a4, c1, c2, c3, c4, rfl, hsrc, H3⟩
        have HS := hid'' hsrc
        obtain ⟨C, hC⟩ : ∃ C : Array Value, #[.int .i64 (X.w : Nat), .int .i64 (X.h : Nat), .int .i64 (X.scale : Nat), .slice a1 X.consts.length c1, .slice a2 X.colors.length c2, .slice a3 X.shapes.length c3, .slice a4 X.cmds.length c4] = C := ⟨_, rfl⟩
        have hCs : C.size = 7 := by rw [← hC]; rfl
        have hC1 : C.all (·.oneCell') = true := by rw [← hC]; simp [Value.oneCell']
        dsimp only
        rw [hC]
        clear hsrc)
    dsimp only at HS HE HP
    have hw3 : w.heap.size < w3.heap.size := by have := At.size H3; omega
    obtain ⟨v, ev, hbk, -, herr⟩ := (At.rd HE).blk
    have cE : wE.cell? ⟨q, 2, none⟩ = some ev := hbk.cell 2
    have hqE := hbk.lt
    clear hbk
    have XE : Hid (Blk wE w.heap.size 35 src0) := FE.out _ _ _ (by omega) (Blk.alloc (At.box H3 XR.out hne') _)
    have HSE : Hid (SrcAt wE X (.slice a1 X.consts.length c1) (.slice a2 X.colors.length c2) (.slice a3 X.shapes.length c3) (.slice a4 X.cmds.length c4)) := SrcAt.kt (t := 35) (SrcAt.kt (t := 9) HS.out (Kt.below ((Below.refl _ _).alloc (Nat.le_refl _) _))) KE.out
    have HBE : Hid (Below w.heap.size w wE) := HBR.out.trans ((At.mk' HE).low (Nat.le_of_lt hqw) (by omega))
    have hciC : (Tryz.prog.info? 35).map (·.size) = some C.size := by rw [hCs]; exact hci
    cases hst : st.er with
    | none =>
      rw [hst] at herr
      have he : ev = .nilIface := herr
      subst he
      have HP2 : Hid (P = .ok X) := by show _ = _; rw [HP.out, hst]
      clear HP herr hst HS FE KE
      go_wp2_with (first
        | refine wpList_load_row rfl 35 (.tmp 7) rfl w3.heap.size rfl 35 C (0, 0) _ BE.out Tryz.underlying35 rfl hciC ?_
        | (refine wp_put0 35 (.tmp 2) (.tmp 34) (cells := C) XE.out rfl rfl rfl rfl hciC (by rw [hCs]; rfl) hC1 ?_; intro wF BF KF FF LF))
      refine bodyPost_ret (results_src rfl _ _ w.heap.size 35 C rfl BF.out hciC .nilIface rfl) rfl ⟨HBE.out.trans (LF.out _ (Nat.le_refl _)), ?_⟩
      rw [HP2.out]
      exact ⟨a1, a2, a3, a4, c1, c2, c3, c4, by rw [← hC], HSE.out.kt (t := 35) KF.out⟩
    | some e =>
      rw [hst] at herr
      obtain ⟨k, rfl, hk⟩ := herr
      have HP2 : Hid (P = .error e) := by show _ = _; rw [HP.out, hst]
      have HK := hid'' hk
      clear HP hst HS FE KE HSE hk
      have lx := XE.out.lt
      have z0 := XE.out.some (j := 0) (by decide)
      have z1 := XE.out.some (j := 1) (by decide)
      have z2 := XE.out.some (j := 2) (by decide)
      have z3 := XE.out.some (j := 3) (by decide)
      have z4 := XE.out.some (j := 4) (by decide)
      have z5 := XE.out.some (j := 5) (by decide)
      have z6 := XE.out.some (j := 6) (by decide)
      have y0 := XE.out.frozen 0
      have y1 := XE.out.frozen 1
      have y2 := XE.out.frozen 2
      have y3 := XE.out.frozen 3
      have y4 := XE.out.frozen 4
      have y5 := XE.out.frozen 5
      have y6 := XE.out.frozen 6
      go_upto_region 7 with fail
      go_region
      go_wp2
      have hnk : k ≠ w.heap.size := fun e => by
        have h1 := HK.out
        have h2 := XE.out
        unfold Blk at h1 h2
        rw [e, h2] at h1
        simp at h1
      have hbf := (below_row HBE.out (Nat.le_refl _) 0 [.int .i64 0, .int .i64 0, .int .i64 0, .slice none 0 0, .slice none 0 0, .slice none 0 0, .slice none 0 0]).drew
      have hB := Blk.drew (src0_row XE.out)
      have hG := Blk.drew (Blk.rowFar hnk [.int .i64 0, .int .i64 0, .int .i64 0, .slice none 0 0, .slice none 0 0, .slice none 0 0, .slice none 0 0] 0 wE _ HK.out)
      refine bodyPost_ret (results_src rfl _ _ w.heap.size 35 src0 rfl hB hci (.iface 75 (.pointer (some ⟨k, 0, none⟩))) rfl) rfl ⟨hbf, ?_⟩
      rw [HP2.out]
      exact ⟨k, rfl, hG⟩

end Go.Proofs.YtenmkopiddmieabGreatDoor

/-
  A command, walked over the program.
-/
import Derived.Test.YtenmkopiddmieabGreatDoorParsePaint
namespace Go.Proofs.YtenmkopiddmieabGreatDoor
open Go.RowKit

def cmd0 : Array Value := #[.int .i64 0, .int .i64 0, .int .i64 0, .string ⟨#[]⟩, .int .i64 0, .int .i64 0, .int .i64 0, .string ⟨#[]⟩, .int .u8 0, .int .u8 0, .int .u8 0, .int .u8 0, .int .i64 0, .string ⟨#[]⟩, .int .u8 0, .int .u8 0, .int .u8 0, .int .u8 0, .int .i64 0, .string ⟨#[]⟩, .int .i64 0, .int .i64 0, .string ⟨#[]⟩, .int .i64 0, .int .i64 0, .string ⟨#[]⟩, .int .i64 0, .int .i64 0, .string ⟨#[]⟩, .int .i64 0, .int .i64 0, .slice none 0 0]
theorem cmd0_size : cmd0.size = 32 := rfl
/-- A command's cells, part by part. -/
def cmdA (k r : Nat) (p : Nat) (w : List Value) (pl : List Value) (v : Value) : Array Value := (([.int .i64 (k : Nat), .int .i64 (r : Nat), .int .i64 (p : Nat)] : List Value) ++ w ++ pl ++ [v]).toArray
set_option maxRecDepth 20000 in
set_option maxHeartbeats 4000000 in
theorem cmd_any {x : Cx} {q : Nat} {w0 W : World} {s : PP.St} (h : Hid (At x q w0 s W)) :
    Calls Tryz.prog 60 #[.pointer (some ⟨q, 0, none⟩)] W fun e w' => ∃ y : PP.Cmd × Value, e = .returned (.agg (cmdL y).toArray) ∧ y.1 = (PP.cmd s).1 ∧ Hid (At x q w0 (PP.cmd s).2 w') ∧ CmdOk w' y := by
  have HW := At.alloc (At.new h) (.cells cmd0 71)
  have HM : Hid (Mk q w0 (W.alloc (.cells cmd0 71))) := (At.mk' h).alloc _
  have B0 : Hid (Blk (W.alloc (.cells cmd0 71)) W.heap.size 71 cmd0) := blk_new _ _ _
  have hq : q < W.heap.size := (At.rd h).lt
  have hs0 := At.size h
  have hci : (Tryz.prog.info? 71).map (·.size) = some 32 := by kernel_rfl
  have hpi : (Tryz.prog.info? 69).map (·.size) = some 25 := by kernel_rfl
  have hii : (Tryz.prog.info? 3).map (·.size) = some 1 := by kernel_rfl
  have hvi : (Tryz.prog.info? 65).map (·.size) = some 3 := by kernel_rfl
  have hsi : (Tryz.prog.info? 60).map (·.size) = some 1 := by kernel_rfl
  have k1 := hid'' (next_any (At.new HW))
  have h1 : wagg s.nx = .agg #[.int .i64 (s.nx.1 : Nat), .int .i64 (s.nx.2.1 : Nat), .string ⟨s.nx.2.2.toArray⟩] := rfl
  rw [h1] at k1
  obtain ⟨f0, f1, f2⟩ := fld_w (s.nx.1 : Nat) (s.nx.2.1 : Nat) ⟨s.nx.2.2.toArray⟩
  obtain ⟨p, hp⟩ : ∃ p, s.nx.2.1 = p := ⟨_, rfl⟩
  rw [hp] at k1 f0 f1 f2
  obtain ⟨A0, hA0⟩ : ∃ A : Array Value, cmdA 0 0 p [.string ⟨#[]⟩, .int .i64 0, .int .i64 0] paint0.toList (.slice none 0 0) = A := ⟨_, rfl⟩
  have hbd : ∀ W : World, (Instr.build 71 #[(2, .int .i64 (p : Nat))]).run Tryz.prog W = .ok (.agg A0) W := fun W => by rw [← hA0]; exact run_build W 71 _ _ (by kernel_rfl)
  have s0 : A0.size = 32 := by rw [← hA0]; rfl
  have o0 : A0.all (·.oneCell') = true := by rw [← hA0]; simp [cmdA, paint0, Value.oneCell']
  obtain ⟨b, hb⟩ : ∃ b, s.is [102, 105, 108, 108] = b := ⟨_, rfl⟩
  have kt : Hid (∀ w0 W, Hid (At x q w0 s W) → Calls Tryz.prog 28 #[.pointer (some ⟨q, 0, none⟩), .string ⟨#[102, 105, 108, 108]⟩] W fun e w' => e = .returned (.bool b) ∧ Hid (At x q w0 (if b = true then s.tl else s) w')) := fun w0 W H => by
    have := try_any [102, 105, 108, 108] H
    unfold St.try' at this
    rw [hb] at this
    exact this
  clear h h1 HW
  cases b with
  | true =>
    have kt : Hid (∀ w0 W, Hid (At x q w0 s W) → Calls Tryz.prog 28 #[.pointer (some ⟨q, 0, none⟩), .string ⟨#[102, 105, 108, 108]⟩] W fun e w' => e = .returned (.bool true) ∧ Hid (At x q w0 s.tl w')) := kt
    obtain ⟨R, hR⟩ : ∃ R, PP.rule s.tl = R := ⟨_, rfl⟩
    obtain ⟨r, s2⟩ := R
    have kr : Hid (∀ w0 W, Hid (At x q w0 s.tl W) → Calls Tryz.prog 80 #[.pointer (some ⟨q, 0, none⟩)] W fun e w' => e = .returned (.int .i64 (r : Nat)) ∧ Hid (At x q w0 s2 w')) := fun w0 W H => by
      have := rule_any H
      rw [hR] at this
      exact this
    obtain ⟨P, hP⟩ : ∃ P, PP.paint s2 = P := ⟨_, rfl⟩
    obtain ⟨P, s3⟩ := P
    obtain ⟨I, hI⟩ : ∃ I, PP.items s3 = I := ⟨_, rfl⟩
    obtain ⟨I, s4⟩ := I
    have HA : Hid (PP.cmd s = (⟨1, r, p, PP.v0, P, I⟩, s4)) := by
      have hb' : s.is PP.k_fill = true := hb
      show _ = _
      unfold PP.cmd
      rw [hb']
      simp only [if_pos, hR, hP, hI, hp]
    rw [HA.out]
    have kp : Hid (∀ w0 W, Hid (At x q w0 s2 W) → Calls Tryz.prog 82 #[.pointer (some ⟨q, 0, none⟩)] W fun e w' => e = .returned (.agg (paintL P).toArray) ∧ Hid (At x q w0 s3 w')) := fun w0 W H => by
      have := paint_any H
      rw [hP] at this
      exact this
    have ki : Hid (∀ w0 W, Hid (At x q w0 s3 W) → Calls Tryz.prog 79 #[.pointer (some ⟨q, 0, none⟩)] W fun e w' => ∃ ad n cap, e = .returned (.slice ad n cap) ∧ ItemsAt w' (.slice ad n cap) I ∧ Hid (At x q w0 s4 w')) := fun w0 W H => by
      refine (items_any H).mono ?_
      rintro e w' ⟨v, rfl, h1, h2⟩
      rw [hI] at h1 h2
      obtain ⟨ad, n, cap, rfl⟩ := h1.slice
      exact ⟨ad, n, cap, rfl, h1, h2⟩
    obtain ⟨A2, hA2⟩ : ∃ A : Array Value, cmdA 1 r p [.string ⟨#[]⟩, .int .i64 0, .int .i64 0] paint0.toList (.slice none 0 0) = A := ⟨_, rfl⟩
    obtain ⟨A3, hA3⟩ : ∃ A : Array Value, cmdA 1 r p [.string ⟨#[]⟩, .int .i64 0, .int .i64 0] (paintL P) (.slice none 0 0) = A := ⟨_, rfl⟩
    have HA4 : Hid (∀ v : Value, cmdA 1 r p [.string ⟨#[]⟩, .int .i64 0, .int .i64 0] (paintL P) v = (cmdL ((⟨1, r, p, PP.v0, P, I⟩ : PP.Cmd), v)).toArray) := fun v => rfl
    have s2' : A2.size = 32 := by rw [← hA2]; rfl
    have s3' : A3.size = 32 := by rw [← hA3]; rfl
    have t12 : putRow A0 0 [.int .i64 1, .int .i64 (r : Nat)] = A2 := by rw [← hA0, ← hA2]; rfl
    have t3 : (A2.toList.take 6 ++ (paintL P).toArray.toList ++ A2.toList.drop (6 + (paintL P).toArray.size)).toArray = A3 := by rw [← hA2, ← hA3]; rfl
    have HT4 : Hid (∀ v : Value, putRow A3 31 [v] = cmdA 1 r p [.string ⟨#[]⟩, .int .i64 0, .int .i64 0] (paintL P) v) := fun v => by rw [← hA3]; rfl
    have op := paintL_one P
    clear hA0 hA2 hA3 hb hP hI hp HA hR
    go_enter Tryz.func60, Tryz.ntmps60
    go_wp2_with (first
      | go_at_call 79
        refine (ki.out _ _ (At.new H7)).mono ?_
        rintro e w8 ⟨ad, n, cap, rfl, hit, H8⟩
        have HIT := hid'' hit
        have B8 : Hid (Blk w8 w1.heap.size 71 A3) := At.box H8 B7.out (by have := (At.rd H1).lt; omega)
        have X8 : Hid (Blk w8 W.heap.size 71 cmd0) := At.box H8 X7.out (by omega)
        have H8b := At.onto (At.mk' H7) H8
        obtain ⟨A4, hA4⟩ : ∃ A : Array Value, cmdA 1 r p [.string ⟨#[]⟩, .int .i64 0, .int .i64 0] (paintL P) (.slice ad n cap) = A := ⟨_, rfl⟩
        have t4 := HT4.out (.slice ad n cap)
        rw [hA4] at t4
        have s4' : A4.size = 32 := by rw [← hA4]; rfl
        have o4 : A4.all (·.oneCell') = true := by rw [← hA4]; simp [cmdA, paintL, Value.oneCell']
        have HC4 : Hid (A4 = (cmdL ((⟨1, r, p, PP.v0, P, I⟩ : PP.Cmd), .slice ad n cap)).toArray) := by show _ = _; rw [← hA4, HA4.out]
        have c31 := B8.out.some (j := 31) (by rw [s3']; decide)
        have y31 := B8.out.frozen 31
        have lb8 := B8.out.lt
        have H9 := At.row H8b B8.out (by decide) (by have := (At.rd H1).lt; omega) (by omega) 31 [.slice ad n cap]
        have B9 := hid'' (Blk.row [.slice ad n cap] 31 _ _ B8.out)
        have X9 := hid'' (Blk.rowFar (b := w1.heap.size) (by omega) [.slice ad n cap] 31 _ _ X8.out)
        have K9 := hid'' (Kt.row B8.out 31 [.slice ad n cap])
        rw [t4] at B9
        clear hit hA4
      | go_at_call 82
        refine (kp.out _ _ (At.new H5)).mono ?_
        rintro e w6 ⟨rfl, H6⟩
        have B6 : Hid (Blk w6 w1.heap.size 71 A2) := At.box H6 B5.out (by have := (At.rd H1).lt; omega)
        have X6 : Hid (Blk w6 W.heap.size 71 cmd0) := At.box H6 X5.out (by omega)
        have H6b := At.onto (At.mk' H5) H6
      | go_at_call 80
        refine (kr.out _ _ H3).mono ?_
        rintro e w4 ⟨rfl, H4⟩
        have B4 : Hid (Blk w4 w1.heap.size 71 A0) := At.box H4 B2.out (by have := (At.rd H1).lt; omega)
        have X4 : Hid (Blk w4 W.heap.size 71 cmd0) := At.box H4 X2.out (by omega)
        have H4b := At.onto HM.out (At.onto (At.mk' H1) (At.onto (At.mk' H2) H4))
        have c0 := B4.out.some (j := 0) (by rw [s0]; decide)
        have c1 := B4.out.some (j := 1) (by rw [s0]; decide)
        have y0 := B4.out.frozen 0
        have y1 := B4.out.frozen 1
        have lb := B4.out.lt
        have H5 := At.row H4b B4.out (by decide) (by have := (At.rd H1).lt; omega) (by omega) 0 [.int .i64 1, .int .i64 (r : Nat)]
        have B5 := hid'' (Blk.row [.int .i64 1, .int .i64 (r : Nat)] 0 _ _ B4.out)
        have X5 := hid'' (Blk.rowFar (b := w1.heap.size) (by omega) [.int .i64 1, .int .i64 (r : Nat)] 0 _ _ X4.out)
        rw [t12] at B5
      | (go_at_call 28; refine (kt.out _ _ (At.new H2)).mono ?_; rintro e w3 ⟨rfl, H3⟩)
      | go_at_call 49
        refine k1.out.mono ?_
        rintro e w1 ⟨rfl, H1, B1⟩
        have lt1 : W.heap.size < w1.heap.size := by have := At.size H1; simp at this; omega
      | refine wpList_build1 rfl 71 2 (.tmp 6) rfl (.int .i64 (p : Nat)) rfl A0 hbd ?_
      | (refine wp_put (At.alloc (At.new H1) _) 71 (.tmp 3) (.tmp 7) (cells := A0) (blk_new _ _ _) rfl rfl rfl rfl (by rw [s0]; exact hci) (by rw [s0]; rfl) o0 (by decide) (by have := (At.rd H1).lt; omega) (Nat.le_refl _) ?_; intro w2 H2 B2 K2 F2 Z2
         have X2 : Hid (Blk w2 W.heap.size 71 cmd0) := F2.out _ _ _ (by omega) (Blk.alloc (At.box H1 B0.out (by omega)) _))
      | (refine wp_putv H6b 69 (.tmp 22) (.tmp 21) B6.out 6 (.agg (paintL P).toArray) (paintL P).toArray A3 rfl rfl rfl rfl rfl hpi (by rw [s2']; show 6 + 25 ≤ 32; omega) op t3 (by decide) (by have := (At.rd H1).lt; omega) (by omega) ?_; intro w7 H7 B7 K7 F7 Z7
         have X7 : Hid (Blk w7 W.heap.size 71 cmd0) := F7.out _ _ _ (by omega) X6.out)
      | refine wpList_load_row rfl 71 (.tmp 3) rfl w1.heap.size rfl 71 A4 (0, 0) _ B9.out Tryz.underlying71 rfl (by rw [s4']; exact hci) ?_
      | (refine wp_put H9 71 (.tmp 2) (.tmp 26) (cells := A4) X9.out rfl rfl rfl rfl (by rw [s4']; exact hci) (by rw [s4']; rfl) o4 (by decide) hq hs0 ?_; intro wE HE BE KE FE ZE))
    refine bodyPost_ret (results_cell_row rfl _ _ W.heap.size 71 A4 (0, 0) _ rfl BE.out Tryz.underlying71 rfl (by rw [s4']; exact hci)) rfl ⟨((⟨1, r, p, PP.v0, P, I⟩ : PP.Cmd), .slice ad n cap), by rw [HC4.out], rfl, HE, ?_⟩
    exact (HIT.out.kt (t := 71) K9.out).kt (t := 71) KE.out
  | false =>
    have kt : Hid (∀ w0 W, Hid (At x q w0 s W) → Calls Tryz.prog 28 #[.pointer (some ⟨q, 0, none⟩), .string ⟨#[102, 105, 108, 108]⟩] W fun e w' => e = .returned (.bool false) ∧ Hid (At x q w0 s w')) := kt
    obtain ⟨s1, hS⟩ : ∃ s1, s.skip PP.k_line = s1 := ⟨_, rfl⟩
    obtain ⟨V, hV⟩ : ∃ V, PP.val s1 = V := ⟨_, rfl⟩
    obtain ⟨⟨vn, vi, vp⟩, s2⟩ := V
    have ks : Hid (∀ w0 W, Hid (At x q w0 s W) → Calls Tryz.prog 26 #[.pointer (some ⟨q, 0, none⟩), .string ⟨#[108, 105, 110, 101]⟩] W fun e w' => e = .returned (.tuple #[]) ∧ Hid (At x q w0 s1 w')) := fun w0 W H => by
      have := skip_any PP.k_line H
      rw [hS] at this
      exact this
    have kv : Hid (∀ w0 W, Hid (At x q w0 s1 W) → Calls Tryz.prog 81 #[.pointer (some ⟨q, 0, none⟩)] W fun e w' => e = .returned (.agg #[.string ⟨vn.toArray⟩, .int .i64 vi, .int .i64 (vp : Nat)]) ∧ Hid (At x q w0 s2 w')) := fun w0 W H => by
      have := val_any H
      rw [hV] at this
      exact this
    obtain ⟨P, hP⟩ : ∃ P, PP.paint s2 = P := ⟨_, rfl⟩
    obtain ⟨P, s3⟩ := P
    obtain ⟨I, hI⟩ : ∃ I, PP.items s3 = I := ⟨_, rfl⟩
    obtain ⟨I, s4⟩ := I
    have HA : Hid (PP.cmd s = (⟨2, 0, p, ⟨vn, vi, vp⟩, P, I⟩, s4)) := by
      have hb' : s.is PP.k_fill = false := hb
      show _ = _
      unfold PP.cmd
      rw [hb']
      simp only [Bool.false_eq_true, if_false, hS, hV, hP, hI, hp]
    rw [HA.out]
    have kp : Hid (∀ w0 W, Hid (At x q w0 s2 W) → Calls Tryz.prog 82 #[.pointer (some ⟨q, 0, none⟩)] W fun e w' => e = .returned (.agg (paintL P).toArray) ∧ Hid (At x q w0 s3 w')) := fun w0 W H => by
      have := paint_any H
      rw [hP] at this
      exact this
    have ki : Hid (∀ w0 W, Hid (At x q w0 s3 W) → Calls Tryz.prog 79 #[.pointer (some ⟨q, 0, none⟩)] W fun e w' => ∃ ad n cap, e = .returned (.slice ad n cap) ∧ ItemsAt w' (.slice ad n cap) I ∧ Hid (At x q w0 s4 w')) := fun w0 W H => by
      refine (items_any H).mono ?_
      rintro e w' ⟨v, rfl, h1, h2⟩
      rw [hI] at h1 h2
      obtain ⟨ad, n, cap, rfl⟩ := h1.slice
      exact ⟨ad, n, cap, rfl, h1, h2⟩
    obtain ⟨A2, hA2⟩ : ∃ A : Array Value, cmdA 2 0 p [.string ⟨vn.toArray⟩, .int .i64 vi, .int .i64 (vp : Nat)] paint0.toList (.slice none 0 0) = A := ⟨_, rfl⟩
    obtain ⟨A3, hA3⟩ : ∃ A : Array Value, cmdA 2 0 p [.string ⟨vn.toArray⟩, .int .i64 vi, .int .i64 (vp : Nat)] (paintL P) (.slice none 0 0) = A := ⟨_, rfl⟩
    have HA4 : Hid (∀ v : Value, cmdA 2 0 p [.string ⟨vn.toArray⟩, .int .i64 vi, .int .i64 (vp : Nat)] (paintL P) v = (cmdL ((⟨2, 0, p, ⟨vn, vi, vp⟩, P, I⟩ : PP.Cmd), v)).toArray) := fun v => rfl
    have s2' : A2.size = 32 := by rw [← hA2]; rfl
    have s3' : A3.size = 32 := by rw [← hA3]; rfl
    have t12 : putRow (putRow A0 0 [.int .i64 2]) 3 [.string ⟨vn.toArray⟩, .int .i64 vi, .int .i64 (vp : Nat)] = A2 := by rw [← hA0, ← hA2]; rfl
    have t3 : (A2.toList.take 6 ++ (paintL P).toArray.toList ++ A2.toList.drop (6 + (paintL P).toArray.size)).toArray = A3 := by rw [← hA2, ← hA3]; rfl
    have HT4 : Hid (∀ v : Value, putRow A3 31 [v] = cmdA 2 0 p [.string ⟨vn.toArray⟩, .int .i64 vi, .int .i64 (vp : Nat)] (paintL P) v) := fun v => by rw [← hA3]; rfl
    have op := paintL_one P
    clear hA0 hA2 hA3 hb hP hI hp HA hS hV
    go_enter Tryz.func60, Tryz.ntmps60
    go_wp2_with (first
      | go_at_call 79
        refine (ki.out _ _ (At.new H7)).mono ?_
        rintro e w8 ⟨ad, n, cap, rfl, hit, H8⟩
        have HIT := hid'' hit
        have B8 : Hid (Blk w8 w1.heap.size 71 A3) := At.box H8 B7.out (by have := (At.rd H1).lt; omega)
        have X8 : Hid (Blk w8 W.heap.size 71 cmd0) := At.box H8 X7.out (by omega)
        have H8b := At.onto (At.mk' H7) H8
        obtain ⟨A4, hA4⟩ : ∃ A : Array Value, cmdA 2 0 p [.string ⟨vn.toArray⟩, .int .i64 vi, .int .i64 (vp : Nat)] (paintL P) (.slice ad n cap) = A := ⟨_, rfl⟩
        have t4 := HT4.out (.slice ad n cap)
        rw [hA4] at t4
        have s4' : A4.size = 32 := by rw [← hA4]; rfl
        have o4 : A4.all (·.oneCell') = true := by rw [← hA4]; simp [cmdA, paintL, Value.oneCell']
        have HC4 : Hid (A4 = (cmdL ((⟨2, 0, p, ⟨vn, vi, vp⟩, P, I⟩ : PP.Cmd), .slice ad n cap)).toArray) := by show _ = _; rw [← hA4, HA4.out]
        have c31 := B8.out.some (j := 31) (by rw [s3']; decide)
        have y31 := B8.out.frozen 31
        have lb8 := B8.out.lt
        have H9 := At.row H8b B8.out (by decide) (by have := (At.rd H1).lt; omega) (by omega) 31 [.slice ad n cap]
        have B9 := hid'' (Blk.row [.slice ad n cap] 31 _ _ B8.out)
        have X9 := hid'' (Blk.rowFar (b := w1.heap.size) (by omega) [.slice ad n cap] 31 _ _ X8.out)
        have K9 := hid'' (Kt.row B8.out 31 [.slice ad n cap])
        rw [t4] at B9
        clear hit hA4
      | go_at_call 82
        refine (kp.out _ _ (At.new H5)).mono ?_
        rintro e w6 ⟨rfl, H6⟩
        have B6 : Hid (Blk w6 w1.heap.size 71 A2) := At.box H6 B5.out (by have := (At.rd H1).lt; omega)
        have X6 : Hid (Blk w6 W.heap.size 71 cmd0) := At.box H6 X5.out (by omega)
        have H6b := At.onto (At.mk' H5) H6
      | go_at_call 81
        refine (kv.out _ _ H3a).mono ?_
        rintro e w4 ⟨rfl, H4⟩
        have B4 : Hid (Blk w4 w1.heap.size 71 A0) := At.box H4 B2.out (by have := (At.rd H1).lt; omega)
        have X4 : Hid (Blk w4 W.heap.size 71 cmd0) := At.box H4 X2.out (by omega)
        have H4b := At.onto HM.out (At.onto (At.mk' H1) (At.onto (At.mk' H2) H4))
        have c0 := B4.out.some (j := 0) (by rw [s0]; decide)
        have c3 := B4.out.some (j := 3) (by rw [s0]; decide)
        have c4 := B4.out.some (j := 4) (by rw [s0]; decide)
        have c5 := B4.out.some (j := 5) (by rw [s0]; decide)
        have y0 := B4.out.frozen 0
        have y3 := B4.out.frozen 3
        have y4 := B4.out.frozen 4
        have y5 := B4.out.frozen 5
        have lb := B4.out.lt
        have H5 := At.row (At.row H4b B4.out (by decide) (by have := (At.rd H1).lt; omega) (by omega) 0 [.int .i64 2]) (Blk.row [.int .i64 2] 0 _ _ B4.out) (by decide) (by have := (At.rd H1).lt; omega) (by omega) 3 [.string ⟨vn.toArray⟩, .int .i64 vi, .int .i64 (vp : Nat)]
        have B5 := hid'' (Blk.row [.string ⟨vn.toArray⟩, .int .i64 vi, .int .i64 (vp : Nat)] 3 _ _ (Blk.row [.int .i64 2] 0 _ _ B4.out))
        have X5 := hid'' (Blk.rowFar (b := w1.heap.size) (by omega) [.string ⟨vn.toArray⟩, .int .i64 vi, .int .i64 (vp : Nat)] 3 _ _ (Blk.rowFar (b := w1.heap.size) (by omega) [.int .i64 2] 0 _ _ X4.out))
        rw [t12] at B5
      | (go_at_call 26; refine (ks.out _ _ H3).mono ?_; rintro e w3a ⟨rfl, H3a⟩)
      | (go_at_call 28; refine (kt.out _ _ (At.new H2)).mono ?_; rintro e w3 ⟨rfl, H3⟩)
      | go_at_call 49
        refine k1.out.mono ?_
        rintro e w1 ⟨rfl, H1, B1⟩
        have lt1 : W.heap.size < w1.heap.size := by have := At.size H1; simp at this; omega
      | refine wpList_build1 rfl 71 2 (.tmp 6) rfl (.int .i64 (p : Nat)) rfl A0 hbd ?_
      | (refine wp_put (At.alloc (At.new H1) _) 71 (.tmp 3) (.tmp 7) (cells := A0) (blk_new _ _ _) rfl rfl rfl rfl (by rw [s0]; exact hci) (by rw [s0]; rfl) o0 (by decide) (by have := (At.rd H1).lt; omega) (Nat.le_refl _) ?_; intro w2 H2 B2 K2 F2 Z2
         have X2 : Hid (Blk w2 W.heap.size 71 cmd0) := F2.out _ _ _ (by omega) (Blk.alloc (At.box H1 B0.out (by omega)) _))
      | (refine wp_putv H6b 69 (.tmp 22) (.tmp 21) B6.out 6 (.agg (paintL P).toArray) (paintL P).toArray A3 rfl rfl rfl rfl rfl hpi (by rw [s2']; show 6 + 25 ≤ 32; omega) op t3 (by decide) (by have := (At.rd H1).lt; omega) (by omega) ?_; intro w7 H7 B7 K7 F7 Z7
         have X7 : Hid (Blk w7 W.heap.size 71 cmd0) := F7.out _ _ _ (by omega) X6.out)
      | refine wpList_load_row rfl 71 (.tmp 3) rfl w1.heap.size rfl 71 A4 (0, 0) _ B9.out Tryz.underlying71 rfl (by rw [s4']; exact hci) ?_
      | (refine wp_put H9 71 (.tmp 2) (.tmp 26) (cells := A4) X9.out rfl rfl rfl rfl (by rw [s4']; exact hci) (by rw [s4']; rfl) o4 (by decide) hq hs0 ?_; intro wE HE BE KE FE ZE))
    refine bodyPost_ret (results_cell_row rfl _ _ W.heap.size 71 A4 (0, 0) _ rfl BE.out Tryz.underlying71 rfl (by rw [s4']; exact hci)) rfl ⟨((⟨2, 0, p, ⟨vn, vi, vp⟩, P, I⟩ : PP.Cmd), .slice ad n cap), by rw [HC4.out], rfl, HE, ?_⟩
    exact (HIT.out.kt (t := 71) K9.out).kt (t := 71) KE.out

end Go.Proofs.YtenmkopiddmieabGreatDoor

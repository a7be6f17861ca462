import Derived.Test.YtcnlkdoifogkbaaGreatDoorJF
import Derived.Test.YtcnlkdoifogkbaaGreatDoorJB
import Derived.Lib.AppendStr
import Derived.Test.YtcnlkdoifogkbaaGreatDoorEncCol
import Derived.Test.YtcnlkdoifogkbaaGreatDoorEncPlain
import Derived.Test.YtcnlkdoifogkbaaGreatDoorMake4
/-
  A writer writes a list of colors, an icon: walked over the program.
-/
namespace Go.Proofs.YtcnlkdoifogkbaaGreatDoor
open Go.RowKit

def Nothing (_ : World) (_ : IC.Col) : Prop := True

theorem wcol_int (q : Nat) (bs : List Nat) (c : IC.Col) (w : World) (h : Wr w q bs) (hc : ColIn c) (hl : bs.length ≤ 100000000000000) {V : World} (_ : Nothing V c) (_ : Below V.heap.size V w) :
    Calls Tryz.prog 51 #[.pointer (some ⟨q, 0, none⟩), .agg c.cells.toArray] w fun e w' => e = .returned (.tuple #[]) ∧ Wr w' q (bs ++ EP.col c) ∧ Wk q w w' := by
  obtain ⟨r, g, b, a⟩ := c
  obtain ⟨⟨r0, -⟩, ⟨g0, -⟩, ⟨b0, -⟩, ⟨a0, -⟩⟩ := hc
  obtain ⟨R, rfl⟩ : ∃ R : Nat, r = (R : Int) := ⟨r.toNat, by simp only at r0; omega⟩
  obtain ⟨G, rfl⟩ : ∃ R : Nat, g = (R : Int) := ⟨g.toNat, by simp only at g0; omega⟩
  obtain ⟨B, rfl⟩ : ∃ R : Nat, b = (R : Int) := ⟨b.toNat, by simp only at b0; omega⟩
  obtain ⟨A, rfl⟩ : ∃ R : Nat, a = (R : Int) := ⟨a.toNat, by simp only at a0; omega⟩
  exact wcol_any q bs R G B A w h hl

set_option maxRecDepth 20000 in
set_option maxHeartbeats 1000000 in
theorem wlist_col (q : Nat) (bs : List Nat) (v : Value) (l : List IC.Col) (w : World) (h : Wr w q bs) (hm : Many w 66 4 IC.Col.cells v l) (hok : ∀ x ∈ l, Nothing w x) (hb : ∀ x ∈ l, ColIn x) (hn : l.length ≤ 1000000) (hl : (bs ++ (EP.num l.length ++ l.flatMap EP.col)).length ≤ 100000000000000) :
    Calls Tryz.prog 50 #[.pointer (some ⟨q, 0, none⟩), v, .func (.func 51) #[.pointer (some ⟨q, 0, none⟩)] #[]] w fun e w' => e = .returned (.tuple #[]) ∧ Wr w' q (bs ++ (EP.num l.length ++ l.flatMap EP.col)) ∧ Wk q w w' := by
  obtain ⟨ad, cap, hv, hl1, hl2⟩ := hm.len
  unfold maxLen at hl2
  obtain ⟨L, hL⟩ : ∃ L, l.length = L := ⟨_, rfl⟩
  have HL : Hid (l.length = L) := hL
  rw [hL] at hv hl1 hn hl ⊢
  subst hv
  obtain ⟨full, hF⟩ : ∃ f, bs ++ (EP.num (L : Int) ++ l.flatMap EP.col) = f := ⟨_, rfl⟩
  rw [hF] at hl ⊢
  have HF : Hid (bs ++ EP.num (L : Int) ++ l.flatMap EP.col = full) := by show _ = _; rw [← hF, List.append_assoc]
  have HFL : Hid (full.length ≤ 100000000000000) := hl
  have kc : Hid (∀ W, Wr W q bs → Calls Tryz.prog 49 #[.pointer (some ⟨q, 0, none⟩), .int .i64 L] W fun e w' => e = .returned (.tuple #[]) ∧ Wr w' q (bs ++ EP.num L) ∧ Wk q W w') := fun W hW => wcount_any q bs L W hW (by omega) (prefix_len hF hl)
  have HB : Hid (∀ x ∈ l, ColIn x) := hb
  have HW : Hid (Wr w q bs) := h
  have HM : Hid (Many w 66 4 IC.Col.cells (.slice ad L cap) l ∧ ∀ x ∈ l, Nothing w x) := ⟨hm, hok⟩
  clear h hm hok hb hl hF hL
  go_enter Tryz.func50, Tryz.ntmps50
  go_wp2_with (go_at_call 49; refine (kc.out _ HW.out).mono ?_; rintro e w1 ⟨rfl, h1⟩
               have HW1 := hid' h1.1
               have HK1 := hid' h1.2
               have HM1 : Hid (Many w1 66 4 IC.Col.cells (.slice ad L cap) l ∧ ∀ x ∈ l, Nothing w1 x) := ⟨Row.wk HM.out.1 HW.out h1.2 (by decide) (by decide), fun _ _ => trivial⟩
               clear h1)
  go_loopw [14] (fun i wr => ∃ (k : Nat) (cs : List Nat), k ≤ L ∧ i = .int .i64 k ∧ Hid (Wr wr q cs) ∧ Hid (cs ++ (l.drop k).flatMap EP.col = full) ∧ Hid (Many wr 66 4 IC.Col.cells (.slice ad L cap) l ∧ ∀ x ∈ l, Nothing wr x) ∧ Hid (Wk q w wr)) (fun i _ => L - (intOf i).toNat)
  case atStart => exact ⟨0, _, by omega, rfl, HW1, HF, HM1, HK1⟩
  case round =>
    clear HW1 HM1 HK1 HM HW
    obtain ⟨k, cs, hk, rfl, HW, HE, HM, HK⟩ := hrel
    by_cases hkL : k < L
    · have hks : k < l.length := by rw [HL.out]; exact hkL
      obtain ⟨g, o, cap2, hv', hg, -, -, hc⟩ := HM.out.1.at col_len k hks
      obtain ⟨rfl, -⟩ : ad = some ⟨g, o, none⟩ ∧ _ := by simpa using hv'
      clear hv'
      have hok := HM.out.2 l[k] (List.getElem_mem hks)
      have hbx := HB.out l[k] (List.getElem_mem hks)
      have hE := HE.out
      rw [List.drop_eq_getElem_cons hks, List.flatMap_cons, ← List.append_assoc] at hE
      obtain ⟨x, hx⟩ : ∃ x, l[k] = x := ⟨_, rfl⟩
      rw [hx] at hc hok hbx hE
      have HNE : Hid (cs ++ EP.col x ++ (l.drop (k + 1)).flatMap EP.col = full) := hE
      have hlen : (cs ++ EP.col x).length ≤ 100000000000000 := prefix_len hE HFL.out
      obtain ⟨cr, cg, cb, ca⟩ := x
      have kk : Hid (∀ W, Below wr.heap.size wr W → Wr W q cs → Calls Tryz.prog 51 #[.pointer (some ⟨q, 0, none⟩), .agg #[.int .u8 cr, .int .u8 cg, .int .u8 cb, .int .u8 ca]] W fun e w' => e = .returned (.tuple #[]) ∧ Wr w' q (cs ++ EP.col ⟨cr, cg, cb, ca⟩) ∧ Wk q W w') := fun W hbw hW => wcol_int q cs ⟨cr, cg, cb, ca⟩ W hW hbx (len_l hlen) hok hbw
      generalize EP.col ⟨cr, cg, cb, ca⟩ = wy at kk HNE
      have c0 : wr.cell? ⟨g, o + k * 4, none⟩ = some (.int .u8 cr) := hc 0 _ rfl
      have c1 : wr.cell? ⟨g, o + k * 4 + 1, none⟩ = some (.int .u8 cg) := hc 1 _ rfl
      have c2 : wr.cell? ⟨g, o + k * 4 + 2, none⟩ = some (.int .u8 cb) := hc 2 _ rfl
      have c3 : wr.cell? ⟨g, o + k * 4 + 3, none⟩ = some (.int .u8 ca) := hc 3 _ rfl
      clear hc hx hE hlen hok hbx
      go_wp2_with (go_at_call 51; refine (kk.out _ ((Below.refl _ _).alloc (Nat.le_refl _) _) (HW.out.alloc _)).mono ?_; rintro e w2 ⟨rfl, h2⟩
                   have HW2 := hid' h2.1
                   have HM2 : Hid (Many w2 66 4 IC.Col.cells (.slice (some ⟨g, o, none⟩) L cap) l ∧ ∀ x ∈ l, Nothing w2 x) := ⟨Row.wk (Row.below HM.out.1 ((Below.refl _ _).alloc (Nat.le_refl _) _)) (HW.out.alloc _) h2.2 (by decide) (by decide), fun _ _ => trivial⟩
                   have HK2 : Hid (Wk q w w2) := (HK.out.alloc _).trans h2.2
                   clear h2)
      go_roundw
      case rel => exact ⟨k + 1, _, by omega, by go_num, HW2, HNE, HM2, HK2⟩
      case measure => simp [intOf]; omega
    · obtain rfl : k = L := by omega
      go_wp2
      go_end0
      have hE := HE.out
      rw [List.drop_eq_nil_of_le (by rw [HL.out]; omega)] at hE
      have hE' : cs = full := by rw [← hE]; simp
      rw [← hE']
      exact ⟨rfl, HW.out, HK.out⟩

theorem five_cells {w : World} {b : Nat} {t : TypeId} {v0 v1 v2 v3 v4 : Value} (h : Blk w b t #[v0, v1, v2, v3, v4]) : w.cell? ⟨b, 0, none⟩ = some v0 ∧ w.cell? ⟨b, 1, none⟩ = some v1 ∧ w.cell? ⟨b, 2, none⟩ = some v2 ∧ w.cell? ⟨b, 3, none⟩ = some v3 ∧ w.cell? ⟨b, 4, none⟩ = some v4 :=
  ⟨h.cell 0, h.cell 1, h.cell 2, h.cell 3, h.cell 4⟩

/-- The lists of an icon, read. -/
def Lists (w : World) (vc : Value) (cols : List IC.Col) (vm : Value) (cmds : List IC.Cmd) : Prop := Many w 66 4 IC.Col.cells vc cols ∧ Many w 62 11 IC.Cmd.cells vm cmds ∧ ∀ c ∈ cmds, CmdOk w c
theorem Lists.wk {w w' : World} {q : Nat} {bs : List Nat} {vc vm : Value} {cols : List IC.Col} {cmds : List IC.Cmd} (h : Lists w vc cols vm cmds) (hq : Wr w q bs) (hm : Wk q w w') : Lists w' vc cols vm cmds := ⟨Row.wk h.1 hq hm (by decide) (by decide), Row.wk h.2.1 hq hm (by decide) (by decide), fun c hc => (h.2.2 c hc).wk hq hm⟩
theorem Lists.below {w w' : World} {vc vm : Value} {cols : List IC.Col} {cmds : List IC.Cmd} (h : Lists w vc cols vm cmds) (hb : Below w.heap.size w w') : Lists w' vc cols vm cmds := IconOk.below (i := ⟨0, 0, 0, vc, cols, vm, cmds⟩) h hb

set_option maxRecDepth 20000 in
set_option maxHeartbeats 1000000 in
theorem wicon_any (q : Nat) (i : IC.Icon) (w : World) (h : Wr w q []) (hi : IconOk w i) (hc : ∀ c ∈ i.cols, ColIn c) (hb : IconB i) :
    Calls Tryz.prog 28 #[.pointer (some ⟨q, 0, none⟩), .agg i.cells.toArray] w fun e w' => e = .returned (.tuple #[]) ∧ Wr w' q (EP.icon i) ∧ Wk q w w' := by
  have hl := icon_length hb
  obtain ⟨iw, ih, is, vc, cols, vm, cmds⟩ := i
  obtain ⟨⟨w0, w1⟩, ⟨h0, h1⟩, ⟨s0, s1⟩, hcols, hcmds, hcmd⟩ := hb
  simp only at w0 w1 h0 h1 s0 s1 hcols hcmds hcmd hc
  obtain ⟨W, rfl⟩ : ∃ W : Nat, iw = (W : Int) := ⟨iw.toNat, by omega⟩
  obtain ⟨H, rfl⟩ : ∃ H : Nat, ih = (H : Int) := ⟨ih.toNat, by omega⟩
  obtain ⟨S, rfl⟩ : ∃ S : Nat, is = (S : Int) := ⟨is.toNat, by omega⟩
  obtain ⟨full, hF⟩ : ∃ f, EP.icon ⟨W, H, S, vc, cols, vm, cmds⟩ = f := ⟨_, rfl⟩
  rw [hF] at hl ⊢
  unfold EP.icon at hF
  simp only [← List.append_assoc] at hF
  have hl' := hl
  rw [← hF] at hl'
  have l5 := len_l (len_l hl')
  have l4 := len_l (len_l l5)
  have l3 := len_l l4
  have l2 := len_l l3
  have l1 := len_l l2
  have HLi : Hid (Lists w vc cols vm cmds) := hi
  obtain ⟨ad, cap, hbk, ho⟩ := h
  obtain ⟨adc, capc, hvc, -, -⟩ := Many.len hi.1
  replace hvc : vc = .slice adc cols.length capc := hvc
  obtain ⟨adm, capm, hvm, -, -⟩ := Many.len hi.2.1
  replace hvm : vm = .slice adm cmds.length capm := hvm
  have kn : Hid (∀ X cs (n : Nat), n ≤ 100000 → cs.length ≤ 10000000000 → Wr X q cs → Calls Tryz.prog 49 #[.pointer (some ⟨q, 0, none⟩), .int .i64 n] X fun e w' => e = .returned (.tuple #[]) ∧ Wr w' q (cs ++ EP.num n) ∧ Wk q X w') := fun X cs n hn hcs hX => wcount_any q cs n X hX (by omega) (by omega)
  have kcol : Hid (∀ X, Wr X q ([71, 76, 89, 49] ++ EP.num W ++ EP.num H ++ EP.num S) → Many X 66 4 IC.Col.cells vc cols → Calls Tryz.prog 50 #[.pointer (some ⟨q, 0, none⟩), vc, .func (.func 51) #[.pointer (some ⟨q, 0, none⟩)] #[]] X fun e w' => e = .returned (.tuple #[]) ∧ Wr w' q ([71, 76, 89, 49] ++ EP.num W ++ EP.num H ++ EP.num S ++ EP.num cols.length ++ cols.flatMap EP.col) ∧ Wk q X w') := fun X hX hm => by
    have := wlist_col q _ vc cols X hX hm (fun _ _ => trivial) hc (by omega) (by rw [← List.append_assoc]; omega)
    rw [← List.append_assoc] at this
    exact this
  have kcmd : Hid (∀ X, Wr X q ([71, 76, 89, 49] ++ EP.num W ++ EP.num H ++ EP.num S ++ EP.num cols.length ++ cols.flatMap EP.col) → Many X 62 11 IC.Cmd.cells vm cmds → (∀ c ∈ cmds, CmdOk X c) → Calls Tryz.prog 52 #[.pointer (some ⟨q, 0, none⟩), vm, .func (.func 53) #[.pointer (some ⟨q, 0, none⟩)] #[]] X fun e w' => e = .returned (.tuple #[]) ∧ Wr w' q full ∧ Wk q X w') := fun X hX hm hok => by
    have := wlist_cmd q _ vm cmds X hX hm hok (fun c hc => (hcmd c hc).1) (by omega) (by rw [← List.append_assoc, hF]; omega)
    rw [← List.append_assoc, hF] at this
    exact this
  have hmf : ∀ (fn : Fn) (first cap : Array Value) (w : World), (Instr.makeFunc fn first cap).run Tryz.prog w = .ok (.func fn first cap) w := fun _ _ _ _ => rfl
  have L1 := hid' l1
  have L2 := hid' l2
  have L3 := hid' l3
  have hq := hbk.lt
  have HB : Hid (Blk w q 77 #[.slice ad 0 cap]) := hbk
  have HO : Hid (w.ownsRow (q + 1) 5 1 (.slice ad 0 cap) 0 (vals [])) := ho
  have HQ : Hid (w.heap.size ≠ q) := by show _ ≠ _; omega
  obtain ⟨i0, hi0, hz0, hz1, hz2⟩ := info_parts infoByte
  subst hvc
  subst hvm
  generalize cols.length = nc at *
  generalize cmds.length = nm at *
  have hbx := blk_new w 27 #[.int .i64 W, .int .i64 H, .int .i64 S, .slice adc nc capc, .slice adm nm capm]
  have HB0 := hid' (hbk.alloc (.cells #[.int .i64 W, .int .i64 H, .int .i64 S, .slice adc nc capc, .slice adm nm capm] 27))
  have HO0 := hid' (ho.alloc (.cells #[.int .i64 W, .int .i64 H, .int .i64 S, .slice adc nc capc, .slice adm nm capm] 27))
  have HX0 := hid' hbx
  have HW0 : Hid (Wr (w.alloc (.cells #[.int .i64 W, .int .i64 H, .int .i64 S, .slice adc nc capc, .slice adm nm capm] 27)) q []) := ⟨ad, cap, HB0.out, HO0.out⟩
  have HL0 := hid' (HLi.out.below ((Below.refl _ _).alloc (Nat.le_refl _) (.cells #[.int .i64 W, .int .i64 H, .int .i64 S, .slice adc nc capc, .slice adm nm capm] 27)))
  have c0 : w.cell? ⟨q, 0, none⟩ = some (.slice ad 0 cap) := hbk.cell 0
  have f0 : w.frozen? ⟨q, 0, none⟩ = false := hbk.frozen 0
  clear hi hl hl' l1 l2 l3 l4 l5 hF hc hcmd hbk ho hbx
  simp only [IC.Icon.cells]
  go_enter Tryz.func28, Tryz.ntmps28
  go_wp2_with (first
    | (at_builtin; refine Lib.wpList_append_own_string _ rfl (.tmp 8) (.const (.string ⟨#[71, 76, 89, 49]⟩)) 32 9 rfl (q + 1) 5 i0 Tryz.underlying32 Tryz.underlying9 hi0 hz0 hz1 hz2 (.slice ad 0 cap) 0 (vals []) rfl HO0.out ⟨#[71, 76, 89, 49]⟩ rfl (by decide) (by decide) (by simp; omega) ?_
       intro v' w2 ho2 hg2 _
       obtain ⟨ad', cap', rfl⟩ := own_shape ho2
       have HD := hid' (wr_done (bs := []) (new := [71, 76, 89, 49]) rfl rfl HB0.out HO0.out hg2 ho2)
       obtain ⟨k0, k1⟩ : w2.cell? ⟨q, 0, none⟩ = some (.slice ad 0 cap) ∧ w2.frozen? ⟨q, 0, none⟩ = false := grown_own HB0.out HO0.out hg2
       have hX2 : Blk w2 w.heap.size 27 #[.int .i64 W, .int .i64 H, .int .i64 S, .slice adc nc capc, .slice adm nm capm] := (hg2.block _ HX0.out.lt (fun e => by have := (HO.out.lt _ e.symm).2; omega)).trans HX0.out
       obtain ⟨x0, x1, x2, x3, x4⟩ := five_cells hX2
       have H1 : Hid (Bx w q w.heap.size 27 #[.int .i64 W, .int .i64 H, .int .i64 S, .slice adc nc capc, .slice adm nm capm] [71, 76, 89, 49] (w2.setCell ⟨q, 0, none⟩ (.slice ad' (0 + 4) cap'))) := ⟨HD.out.1, ((Wk.refl q w).alloc _).trans HD.out.2, HX0.out.wk HD.out.2 HQ.out (by decide)⟩
       have HL1 := hid' (HL0.out.wk HW0.out HD.out.2)
       clear ho2 hg2 hX2)
    | (go_at_call 49; (with_reducible refine (kn.out _ _ W (by omega) L1.out H1.out.wr).mono ?_); rintro e w3 ⟨rfl, h3⟩
       have HL2 := hid' (HL1.out.wk H1.out.wr h3.2)
       have H2 := hid' (H1.out.step (by decide) HQ.out h3)
       obtain ⟨y0, y1, y2, y3, y4⟩ := five_cells H2.out.box
       clear h3)
    | (go_at_call 49; (with_reducible refine (kn.out _ _ H (by omega) L2.out H2.out.wr).mono ?_); rintro e w4 ⟨rfl, h4⟩
       have HL3 := hid' (HL2.out.wk H2.out.wr h4.2)
       have H3 := hid' (H2.out.step (by decide) HQ.out h4)
       obtain ⟨z0, z1, z2, z3, z4⟩ := five_cells H3.out.box
       clear h4)
    | (go_at_call 49; (with_reducible refine (kn.out _ _ S (by omega) L3.out H3.out.wr).mono ?_); rintro e w5 ⟨rfl, h5⟩
       have HL4 := hid' (HL3.out.wk H3.out.wr h5.2)
       have H4 := hid' (H3.out.step (by decide) HQ.out h5)
       obtain ⟨u0, u1, u2, u3, u4⟩ := five_cells H4.out.box
       clear h5)
    | (go_at_call 50; refine (kcol.out _ H4.out.wr HL4.out.1).mono ?_; rintro e w6 ⟨rfl, h6⟩
       have HL5 := hid' (HL4.out.wk H4.out.wr h6.2)
       have H5 := hid' (H4.out.step (by decide) HQ.out h6)
       obtain ⟨v0, v1, v2, v3, v4⟩ := five_cells H5.out.box
       clear h6)
    | (go_at_call 52; refine (kcmd.out _ H5.out.wr HL5.out.2.1 HL5.out.2.2).mono ?_; rintro e w7 ⟨rfl, h7⟩))
  go_end0
  exact ⟨rfl, h7.1, H5.out.wk.trans h7.2⟩

end Go.Proofs.YtcnlkdoifogkbaaGreatDoor

/-
  What Bytes of package encode answers: an icon's bytes, or Check's error: walked over the program.
-/
namespace Go.Proofs.YtcnlkdoifogkbaaGreatDoor
open Go.RowKit

theorem own_mono {w : World} {B C : Nat} {e : TypeId} {size : Nat} {v : Value} {n : Nat} {xs : List Value} (h : w.ownsRow B e size v n xs) (hC : C ≤ B) : w.ownsRow C e size v n xs := by
  refine ⟨h.1, ?_⟩
  rcases h.2 with h | ⟨g, c, cur, h1, h2, h3⟩
  · exact .inl h
  · exact .inr ⟨g, c, cur, h1, by omega, h3⟩

set_option maxRecDepth 20000 in
set_option maxHeartbeats 1000000 in
theorem bytes_ok (A : Nat → Addr) (i : IC.Icon) (w : World) (hE : Errs3 w A) (hi : IconOk w i) (hc : ∀ c ∈ i.cols, ColIn c) (h0 : IC.chk i = 0) :
    Calls Tryz.prog 7 #[.agg i.cells.toArray] w fun e w' => (∃ ad cap, e = .returned (.tuple #[.slice ad (EP.icon i).length cap, .nilIface]) ∧ w'.ownsRow w.heap.size 5 1 (.slice ad (EP.icon i).length cap) (EP.icon i).length (vals (EP.icon i))) ∧ Below w.heap.size w w' := by
  have hb := icon_chk h0
  have kC : Hid (∀ W, Below w.heap.size w W → Calls Tryz.prog 27 #[.agg i.cells.toArray] W fun e w' => e = .returned .nilIface ∧ Below W.heap.size W w') := fun W hbw => by
    have := check_any A i W (hE.below hbw) (hi.below hbw)
    rw [h0] at this
    exact this
  have kW : Hid (∀ W q, Wr W q [] → Below w.heap.size w W → Calls Tryz.prog 28 #[.pointer (some ⟨q, 0, none⟩), .agg i.cells.toArray] W fun e w' => e = .returned (.tuple #[]) ∧ Wr w' q (EP.icon i) ∧ Wk q W w') := fun W q hW hbw => wicon_any q i W hW (hi.below hbw) hc hb
  obtain ⟨adc, capc, hvc, -, -⟩ := Many.len hi.1
  obtain ⟨adm, capm, hvm, -, -⟩ := Many.len hi.2.1
  obtain ⟨iw, ih, is, vc, cols, vm, cmds⟩ := i
  replace hvc : vc = .slice adc cols.length capc := hvc
  replace hvm : vm = .slice adm cmds.length capm := hvm
  generalize EP.icon ⟨iw, ih, is, vc, cols, vm, cmds⟩ = full at kW ⊢
  generalize cols.length = nc at hvc
  generalize cmds.length = nm at hvm
  subst hvc
  subst hvm
  clear hE hi hc h0 hb
  simp only [IC.Icon.cells] at kC kW ⊢
  go_enter Tryz.func7, Tryz.ntmps7
  go_wp2_with (first
    | (go_at_call 27; refine (kC.out _ ((Below.refl _ _).alloc (Nat.le_refl _) _)).mono ?_; rintro e w1 ⟨rfl, hb1⟩
       have B1 : Hid (Below w.heap.size w w1) := ((Below.refl _ _).alloc (Nat.le_refl _) _).trans (hb1.mono (by simp))
       have hX : Blk w1 w.heap.size 27 #[.int .i64 iw, .int .i64 ih, .int .i64 is, .slice adc nc capc, .slice adm nm capm] := (blk_new w 27 _).below hb1 (by simp)
       obtain ⟨x0, x1, x2, x3, x4⟩ := five_cells hX
       have z1 := hX.lt
       clear hb1 hX)
    | (go_at_call 28; refine (kW.out _ w1.heap.size ⟨none, 0, blk_new w1 77 _, World.ownsRow_nil _ _ _ _⟩ (B1.out.alloc B1.out.size _)).mono ?_; rintro e w2 ⟨rfl, h2, hk2⟩
       have B2 : Hid (Below w.heap.size w w2) := (B1.out.alloc B1.out.size _).trans (hk2.low B1.out.size (by simp))
       obtain ⟨ad, cap, hq, ho⟩ := h2
       have c0 : w2.cell? ⟨w1.heap.size, 0, none⟩ = some (.slice ad full.length cap) := hq.cell 0
       have HO : Hid (w2.ownsRow (w1.heap.size + 1) 5 1 (.slice ad full.length cap) full.length (vals full)) := ho
       clear hk2 hq ho))
  go_ret2
  exact ⟨⟨ad, cap, rfl, own_mono HO.out (by have := B1.out.size; omega)⟩, B2.out⟩

set_option maxRecDepth 20000 in
set_option maxHeartbeats 1000000 in
theorem bytes_bad (A : Nat → Addr) (i : IC.Icon) (c : Nat) (w : World) (hE : Errs3 w A) (hi : IconOk w i) (h0 : IC.chk i = c + 1) :
    Calls Tryz.prog 7 #[.agg i.cells.toArray] w fun e w' => e = .returned (.tuple #[.slice none 0 0, errv A (c + 1)]) ∧ Below w.heap.size w w' := by
  have kC : Hid (∀ W, Below w.heap.size w W → Calls Tryz.prog 27 #[.agg i.cells.toArray] W fun e w' => e = .returned (.iface 173 (.pointer (some (A c)))) ∧ Below W.heap.size W w') := fun W hbw => by
    have := check_any A i W (hE.below hbw) (hi.below hbw)
    rw [h0] at this
    exact this
  obtain ⟨adc, capc, hvc, -, -⟩ := Many.len hi.1
  obtain ⟨adm, capm, hvm, -, -⟩ := Many.len hi.2.1
  obtain ⟨iw, ih, is, vc, cols, vm, cmds⟩ := i
  replace hvc : vc = .slice adc cols.length capc := hvc
  replace hvm : vm = .slice adm cmds.length capm := hvm
  generalize cols.length = nc at hvc
  generalize cmds.length = nm at hvm
  subst hvc
  subst hvm
  clear hE hi h0
  simp only [IC.Icon.cells] at kC ⊢
  go_enter Tryz.func7, Tryz.ntmps7
  go_wp2_with (go_at_call 27; refine (kC.out _ ((Below.refl _ _).alloc (Nat.le_refl _) _)).mono ?_; rintro e w1 ⟨rfl, hb1⟩
               have B1 : Hid (Below w.heap.size w w1) := ((Below.refl _ _).alloc (Nat.le_refl _) _).trans (hb1.mono (by simp))
               clear hb1)
  all_goals
    go_ret2
    exact ⟨rfl, B1.out⟩

end Go.Proofs.YtcnlkdoifogkbaaGreatDoor

/-
  Unlike icons have unlike bytes, none the beginning of others': plain numbers and lists.
-/
namespace Go.Proofs.YtcnlkdoifogkbaaGreatDoor
namespace EP
open IC

theorem enc_inj (n : Nat) : ∀ (m : Nat) (r t : List Nat), WP.enc n ++ r = WP.enc m ++ t → n = m ∧ r = t := by
  induction n using Nat.strongRecOn with
  | ind n ih =>
    intro m r t h
    by_cases hn : n < 128
    · by_cases hm : m < 128
      · rw [WP.enc_lt hn, WP.enc_lt hm] at h
        simpa using h
      · rw [WP.enc_lt hn, WP.enc_ge hm] at h
        simp at h
        omega
    · by_cases hm : m < 128
      · rw [WP.enc_ge hn, WP.enc_lt hm] at h
        simp at h
        omega
      · rw [WP.enc_ge hn, WP.enc_ge hm] at h
        simp only [List.cons_append, List.cons.injEq] at h
        have := ih (n / 128) (by omega) _ _ _ h.2
        exact ⟨by omega, this.2⟩

theorem num_inj {a b : Int} {r t : List Nat} (ha : 0 ≤ a) (hb : 0 ≤ b) (h : num a ++ r = num b ++ t) : a = b ∧ r = t := by
  have := enc_inj _ _ _ _ h
  exact ⟨by omega, this.2⟩
theorem zig_inj {a b : Int} (h : zig a = zig b) : a = b := by
  unfold zig at h
  split at h <;> split at h <;> omega
theorem zg_inj {a b : Int} {r t : List Nat} (h : zg a ++ r = zg b ++ t) : a = b ∧ r = t := by
  have := enc_inj _ _ _ _ h
  exact ⟨zig_inj this.1, this.2⟩
theorem pt_inj {p q : Pt} {r t : List Nat} (h : pt p ++ r = pt q ++ t) : p = q ∧ r = t := by
  unfold pt at h
  rw [List.append_assoc, List.append_assoc] at h
  obtain ⟨h1, k⟩ := zg_inj h
  obtain ⟨h2, kk⟩ := zg_inj k
  obtain ⟨_, _⟩ := p
  obtain ⟨_, _⟩ := q
  simp at h1 h2
  exact ⟨by rw [h1, h2], kk⟩
theorem dpt_inj {o p q : Pt} {r t : List Nat} (h : dpt o p ++ r = dpt o q ++ t) : p = q ∧ r = t := by
  unfold dpt at h
  rw [List.append_assoc, List.append_assoc] at h
  obtain ⟨h1, k⟩ := zg_inj h
  obtain ⟨h2, kk⟩ := zg_inj k
  obtain ⟨_, _⟩ := p
  obtain ⟨_, _⟩ := q
  simp at h1 h2
  refine ⟨?_, kk⟩
  congr 1 <;> omega
theorem way_inj : ∀ (l m : List Pt) (o : Pt) (r t : List Nat), l.length = m.length → way o l ++ r = way o m ++ t → l = m ∧ r = t := by
  intro l
  induction l with
  | nil =>
    intro m o r t hl h
    cases m with
    | nil => exact ⟨rfl, h⟩
    | cons x y => simp at hl
  | cons p l ih =>
    intro m o r t hl h
    cases m with
    | nil => simp at hl
    | cons q m =>
      have h' : dpt o p ++ way p l ++ r = dpt o q ++ way q m ++ t := h
      rw [List.append_assoc, List.append_assoc] at h'
      obtain ⟨rfl, h2⟩ := dpt_inj h'
      obtain ⟨e, h3⟩ := ih m p r t (by simpa using hl) h2
      exact ⟨by rw [e], h3⟩

/-- A segment that is right as far as its form goes. -/
def SegR (s : Seg) : Prop := (1 ≤ s.k ∧ s.k ≤ 3) ∧ (s.k < 2 → s.b = ⟨0, 0⟩) ∧ (s.k < 3 → s.c = ⟨0, 0⟩)

theorem seg_pts {s : Seg} (h : SegR s) : (ptsOf s).length = s.k.toNat := by
  unfold ptsOf Seg.pts
  have := h.1
  rw [List.length_take]
  simp
  omega

theorem seg_inj {s t : Seg} (hs : SegR s) (ht : SegR t) (hk : s.k = t.k) (h : ptsOf s = ptsOf t) : s = t := by
  obtain ⟨k, a, b, c⟩ := s
  obtain ⟨k', a', b', c'⟩ := t
  have e : k = k' := hk
  subst e
  obtain ⟨h1, h2, h3⟩ := hs
  obtain ⟨-, g2, g3⟩ := ht
  simp only at h1 h2 h3 g2 g3
  have hk3 : k = 1 ∨ k = 2 ∨ k = 3 := by omega
  unfold ptsOf Seg.pts at h
  rcases hk3 with rfl | rfl | rfl
  · have e1 := h2 (by omega); have e2 := h3 (by omega); have e3 := g2 (by omega); have e4 := g3 (by omega)
    have e5 : a = a' := by simpa using h
    rw [e1, e2, e3, e4, e5]
  · have e2 := h3 (by omega); have e4 := g3 (by omega)
    have e5 : a = a' ∧ b = b' := by simpa using h
    rw [e2, e4, e5.1, e5.2]
  · have e5 : a = a' ∧ b = b' ∧ c = c' := by simpa using h
    rw [e5.1, e5.2.1, e5.2.2]

theorem chunk_inj : ∀ (l m : List Seg), (∀ s ∈ l, SegR s) → (∀ s ∈ m, SegR s) → l.map Seg.k = m.map Seg.k → l.flatMap ptsOf = m.flatMap ptsOf → l = m := by
  intro l
  induction l with
  | nil =>
    intro m _ _ hk _
    cases m with
    | nil => rfl
    | cons x y => simp at hk
  | cons s l ih =>
    intro m hl hm hk h
    cases m with
    | nil => simp at hk
    | cons t m =>
      simp only [List.map_cons, List.cons.injEq] at hk
      rw [List.flatMap_cons, List.flatMap_cons] at h
      have hs := hl s (by simp)
      have ht := hm t (by simp)
      have hh := List.append_inj h (by rw [seg_pts hs, seg_pts ht, hk.1])
      rw [seg_inj hs ht hk.1 hh.1, ih m (fun x hx => hl x (by simp [hx])) (fun x hx => hm x (by simp [hx])) hk.2 hh.2]

theorem chunk_len : ∀ (l m : List Seg), (∀ s ∈ l, SegR s) → (∀ s ∈ m, SegR s) → l.map Seg.k = m.map Seg.k → (l.flatMap ptsOf).length = (m.flatMap ptsOf).length := by
  intro l
  induction l with
  | nil =>
    intro m _ _ hk
    cases m with
    | nil => rfl
    | cons x y => simp at hk
  | cons s l ih =>
    intro m hl hm hk
    cases m with
    | nil => simp at hk
    | cons t m =>
      simp only [List.map_cons, List.cons.injEq] at hk
      rw [List.flatMap_cons, List.flatMap_cons, List.length_append, List.length_append, seg_pts (hl s (by simp)), seg_pts (hm t (by simp)), hk.1, ih m (fun x hx => hl x (by simp [hx])) (fun x hx => hm x (by simp [hx])) hk.2]

theorem kinds_cons (k : Int) (n : Nat) (r : List (Int × Nat)) : kindsOf ((k, n) :: r) = List.replicate n k ++ kindsOf r := rfl

/-- What a run tells of the segments that it is of. -/
theorem run_take {k : Int} {n : Nat} {r : List (Int × Nat)} {l : List Seg} (h : kindsOf ((k, n) :: r) = l.map Seg.k) : (l.take n).map Seg.k = List.replicate n k ∧ (l.drop n).map Seg.k = kindsOf r := by
  rw [kinds_cons] at h
  rw [List.map_take, List.map_drop, ← h]
  simp

theorem run_kind {k : Int} {n : Nat} {r : List (Int × Nat)} {l : List Seg} (hn : 1 ≤ n) (hl : ∀ s ∈ l, SegR s) (h : kindsOf ((k, n) :: r) = l.map Seg.k) : 1 ≤ k ∧ k ≤ 3 := by
  have h1 := (run_take h).1
  have hm : k ∈ (l.take n).map Seg.k := by rw [h1]; simp; omega
  obtain ⟨s, hs, rfl⟩ := List.mem_map.1 hm
  exact (hl s (List.mem_of_mem_take hs)).1

theorem runsB_inj : ∀ (rs rs' : List (Int × Nat)) (q : Pt) (l m : List Seg) (r t : List Nat), rs.length = rs'.length → (∀ x ∈ rs, 1 ≤ x.2) → (∀ x ∈ rs', 1 ≤ x.2) → (∀ s ∈ l, SegR s) → (∀ s ∈ m, SegR s) → kindsOf rs = l.map Seg.k → kindsOf rs' = m.map Seg.k →
    runsB q rs l ++ r = runsB q rs' m ++ t → l = m ∧ r = t := by
  intro rs
  induction rs with
  | nil =>
    intro rs' q l m r t hl _ _ _ _ k1 k2 h
    cases rs' with
    | nil =>
      have e1 : l = [] := by simpa [kindsOf] using k1.symm
      have e2 : m = [] := by simpa [kindsOf] using k2.symm
      rw [e1, e2]
      exact ⟨rfl, h⟩
    | cons x y => simp at hl
  | cons x rs ih =>
    intro rs' q l m r t hl p1 p2 s1 s2 k1 k2 h
    cases rs' with
    | nil => simp at hl
    | cons y rs' =>
      obtain ⟨k, n⟩ := x
      obtain ⟨k', n'⟩ := y
      have n1 : 1 ≤ n := p1 (k, n) (by simp)
      have n2 : 1 ≤ n' := p2 (k', n') (by simp)
      have b1 := run_kind n1 s1 k1
      have b2 := run_kind n2 s2 k2
      have h' : (num (n * 4 + k) ++ way q ((l.take n).flatMap ptsOf) ++ runsB (lastOf q ((l.take n).flatMap ptsOf)) rs (l.drop n)) ++ r = (num (n' * 4 + k') ++ way q ((m.take n').flatMap ptsOf) ++ runsB (lastOf q ((m.take n').flatMap ptsOf)) rs' (m.drop n')) ++ t := h
      simp only [List.append_assoc] at h'
      obtain ⟨e, g⟩ := num_inj (by omega) (by omega) h'
      clear h h'
      obtain rfl : k = k' := by omega
      obtain rfl : n = n' := by omega
      have t1 := run_take k1
      have t2 := run_take k2
      have q1 : ∀ s ∈ l.take n, SegR s := fun s hs => s1 s (List.mem_of_mem_take hs)
      have q2 : ∀ s ∈ m.take n, SegR s := fun s hs => s2 s (List.mem_of_mem_take hs)
      have kk : (l.take n).map Seg.k = (m.take n).map Seg.k := by rw [t1.1, t2.1]
      obtain ⟨e1, h'⟩ := way_inj _ _ _ _ _ (chunk_len _ _ q1 q2 kk) g
      have e2 := chunk_inj _ _ q1 q2 kk e1
      rw [e2] at h'
      obtain ⟨e3, h2⟩ := ih rs' _ _ _ _ _ (by simpa using hl) (fun x hx => p1 x (by simp [hx])) (fun x hx => p2 x (by simp [hx])) (fun s hs => s1 s (List.mem_of_mem_drop hs)) (fun s hs => s2 s (List.mem_of_mem_drop hs)) t1.2.symm t2.2.symm h'
      refine ⟨?_, h2⟩
      rw [← List.take_append_drop n l, ← List.take_append_drop n m, e2, e3]

def PathR (p : Path) : Prop := ∀ s ∈ p.segs, SegR s
def SameP (p q : Path) : Prop := p.st = q.st ∧ p.cl = q.cl ∧ p.segs = q.segs

theorem path_inj {p q : Path} {r t : List Nat} (hp : PathR p) (hq : PathR q) (h : path p ++ r = path q ++ t) : SameP p q ∧ r = t := by
  unfold path at h
  simp only [List.append_assoc] at h
  obtain ⟨e, h⟩ := num_inj (by split <;> omega) (by split <;> omega) h
  obtain ⟨e1, h⟩ := pt_inj h
  have i1 := runsOf_is (p.segs.map Seg.k)
  have i2 := runsOf_is (q.segs.map Seg.k)
  have hc : p.cl = q.cl ∧ (runs p.segs).length = (runs q.segs).length := by
    cases hc1 : p.cl <;> cases hc2 : q.cl <;> rw [hc1, hc2] at e <;> simp at e ⊢ <;> omega
  rw [e1] at h
  obtain ⟨e2, h⟩ := runsB_inj _ _ _ _ _ _ _ hc.2 i1.2.1 i2.2.1 hp hq i1.2.2 i2.2.2 h
  exact ⟨⟨e1, hc.1, e2⟩, h⟩

def All2 {α : Type} (E : α → α → Prop) : List α → List α → Prop
  | [], [] => True
  | x :: l, y :: m => E x y ∧ All2 E l m
  | _, _ => False

theorem many_inj {α : Type} (f : α → List Nat) (P : α → Prop) (E : α → α → Prop) (hf : ∀ x y r t, P x → P y → f x ++ r = f y ++ t → E x y ∧ r = t) : ∀ (l m : List α) (r t : List Nat), l.length = m.length → (∀ x ∈ l, P x) → (∀ x ∈ m, P x) → l.flatMap f ++ r = m.flatMap f ++ t → All2 E l m ∧ r = t := by
  intro l
  induction l with
  | nil =>
    intro m r t hl _ _ h
    cases m with
    | nil => exact ⟨trivial, h⟩
    | cons x y => simp at hl
  | cons x l ih =>
    intro m r t hl h1 h2 h
    cases m with
    | nil => simp at hl
    | cons y m =>
      rw [List.flatMap_cons, List.flatMap_cons, List.append_assoc, List.append_assoc] at h
      obtain ⟨e, h⟩ := hf x y _ _ (h1 x (by simp)) (h2 y (by simp)) h
      obtain ⟨e', h⟩ := ih m r t (by simpa using hl) (fun z hz => h1 z (by simp [hz])) (fun z hz => h2 z (by simp [hz])) h
      exact ⟨⟨e, e'⟩, h⟩

def PaintR (p : Paint) : Prop := 0 ≤ p.a ∧ 0 ≤ p.b ∧ ((p.k = 0 ∧ p.b = 0 ∧ p.p = ⟨0, 0⟩ ∧ p.q = ⟨0, 0⟩) ∨ p.k = 1 ∨ (p.k = 2 ∧ 0 ≤ p.q.x ∧ p.q.y = 0))

theorem paint_inj {p q : Paint} {r t : List Nat} (hp : PaintR p) (hq : PaintR q) (hk : p.k = q.k) (h : paint p ++ r = paint q ++ t) : p = q ∧ r = t := by
  obtain ⟨k, a, b, u, v⟩ := p
  obtain ⟨k', a', b', u', v'⟩ := q
  have e : k = k' := hk
  subst e
  obtain ⟨a0, b0, hp⟩ := hp
  obtain ⟨a1, b1, hq⟩ := hq
  simp only at a0 b0 a1 b1 hp hq
  unfold paint at h
  simp only [List.append_assoc] at h
  obtain ⟨ea, g⟩ := num_inj a0 a1 h
  subst ea
  clear h
  have h := g
  clear g
  rcases hp with ⟨rfl, rfl, rfl, rfl⟩ | rfl | ⟨rfl, h0, h1⟩
  · obtain ⟨-, rfl, rfl, rfl⟩ : (0 : Int) = 0 ∧ b' = 0 ∧ u' = ⟨0, 0⟩ ∧ v' = ⟨0, 0⟩ := by
      rcases hq with h | h | h
      · exact h
      · omega
      · omega
    exact ⟨rfl, by simpa using h⟩
  · have h' : num b ++ (pt u ++ pt v) ++ r = num b' ++ (pt u' ++ pt v') ++ t := by simpa using h
    simp only [List.append_assoc] at h'
    obtain ⟨e1, g1⟩ := num_inj b0 b1 h'
    obtain ⟨e2, g2⟩ := pt_inj g1
    obtain ⟨e3, g3⟩ := pt_inj g2
    exact ⟨by rw [e1, e2, e3], g3⟩
  · obtain ⟨h2, h3⟩ : 0 ≤ v'.x ∧ v'.y = 0 := by
      rcases hq with h | h | h
      · omega
      · omega
      · exact h.2
    have h' : num b ++ (pt u ++ num v.x) ++ r = num b' ++ (pt u' ++ num v'.x) ++ t := by simpa using h
    simp only [List.append_assoc] at h'
    obtain ⟨e1, g1⟩ := num_inj b0 b1 h'
    obtain ⟨e2, g2⟩ := pt_inj g1
    obtain ⟨e, g3⟩ := num_inj h0 h2 g2
    refine ⟨?_, g3⟩
    obtain ⟨_, _⟩ := v
    obtain ⟨_, _⟩ := v'
    simp at h1 h3 e
    rw [h1, h3, e, e1, e2]

structure CmdR (c : Cmd) : Prop where
  k : c.k = 1 ∨ c.k = 2
  r : c.r = 0 ∨ c.r = 1
  wd : 0 ≤ c.wd ∧ (c.k = 1 → c.wd = 0)
  pn : PaintR c.pn
  paths : ∀ p ∈ c.paths, PathR p
def SameC (c d : Cmd) : Prop := c.k = d.k ∧ c.r = d.r ∧ c.wd = d.wd ∧ c.pn = d.pn ∧ All2 SameP c.paths d.paths

theorem cmd_inj {c d : Cmd} {r t : List Nat} (hc : CmdR c) (hd : CmdR d) (h : cmd c ++ r = cmd d ++ t) : SameC c d ∧ r = t := by
  have k1 := hc.k
  have k2 := hd.k
  have r1 := hc.r
  have r2 := hd.r
  have w1 := hc.wd
  have w2 := hd.wd
  have p1 : c.pn.k = 0 ∨ c.pn.k = 1 ∨ c.pn.k = 2 := by rcases hc.pn.2.2 with h | h | h; exact .inl h.1; exact .inr (.inl h); exact .inr (.inr h.1)
  have p2 : d.pn.k = 0 ∨ d.pn.k = 1 ∨ d.pn.k = 2 := by rcases hd.pn.2.2 with h | h | h; exact .inl h.1; exact .inr (.inl h); exact .inr (.inr h.1)
  unfold cmd at h
  simp only [List.append_assoc] at h
  obtain ⟨e, h⟩ := num_inj (by omega) (by omega) h
  have ek : c.k = d.k := by omega
  have er : c.r = d.r := by omega
  have ep : c.pn.k = d.pn.k := by omega
  have hw : c.wd = d.wd ∧ paint c.pn ++ (num c.paths.length ++ (c.paths.flatMap path ++ r)) = paint d.pn ++ (num d.paths.length ++ (d.paths.flatMap path ++ t)) := by
    by_cases h2 : d.k = 2
    · rw [ek, if_pos (by simp [h2]), if_pos (by simp [h2])] at h
      exact num_inj w1.1 w2.1 h
    · rw [ek, if_neg (by simp [h2]), if_neg (by simp [h2])] at h
      exact ⟨by rw [w1.2 (by omega), w2.2 (by omega)], by simpa using h⟩
  obtain ⟨ew, h⟩ := hw
  obtain ⟨en, h⟩ := paint_inj hc.pn hd.pn ep h
  obtain ⟨el, h⟩ := num_inj (by omega) (by omega) h
  obtain ⟨ea, h⟩ := many_inj path PathR SameP (fun _ _ _ _ h1 h2 h => path_inj h1 h2 h) _ _ _ _ (by omega) hc.paths hd.paths h
  exact ⟨⟨ek, er, ew, en, ea⟩, h⟩

def ColR (c : Col) : Prop := 0 ≤ c.r ∧ 0 ≤ c.g ∧ 0 ≤ c.b ∧ 0 ≤ c.a

theorem col_inj {c d : Col} {r t : List Nat} (hc : ColR c) (hd : ColR d) (h : col c ++ r = col d ++ t) : c = d ∧ r = t := by
  obtain ⟨a1, a2, a3, a4⟩ := c
  obtain ⟨b1, b2, b3, b4⟩ := d
  obtain ⟨h1, h2, h3, h4⟩ := hc
  obtain ⟨g1, g2, g3, g4⟩ := hd
  simp only at h1 h2 h3 h4 g1 g2 g3 g4
  simp [col] at h
  refine ⟨?_, h.2.2.2.2⟩
  congr 1 <;> omega

theorem all2_eq {α : Type} : ∀ (l m : List α), All2 (· = ·) l m → l = m := by
  intro l
  induction l with
  | nil => intro m h; cases m with | nil => rfl | cons x y => exact absurd h id
  | cons x l ih => intro m h; cases m with | nil => exact absurd h id | cons y m => rw [h.1, ih m h.2]

structure IconR (i : Icon) : Prop where
  w : 0 ≤ i.w
  h : 0 ≤ i.h
  s : 0 ≤ i.s
  cols : ∀ c ∈ i.cols, ColR c
  cmds : ∀ c ∈ i.cmds, CmdR c
def SameI (i j : Icon) : Prop := i.w = j.w ∧ i.h = j.h ∧ i.s = j.s ∧ i.cols = j.cols ∧ All2 SameC i.cmds j.cmds

theorem icon_inj {i j : Icon} {r t : List Nat} (hi : IconR i) (hj : IconR j) (h : icon i ++ r = icon j ++ t) : SameI i j ∧ r = t := by
  unfold icon at h
  simp only [List.append_assoc] at h
  have h := List.append_cancel_left h
  obtain ⟨e1, h⟩ := num_inj hi.w hj.w h
  obtain ⟨e2, h⟩ := num_inj hi.h hj.h h
  obtain ⟨e3, h⟩ := num_inj hi.s hj.s h
  obtain ⟨e4, h⟩ := num_inj (by omega) (by omega) h
  obtain ⟨e5, h⟩ := many_inj col ColR (· = ·) (fun _ _ _ _ h1 h2 h => col_inj h1 h2 h) _ _ _ _ (by omega) hi.cols hj.cols h
  obtain ⟨e6, h⟩ := num_inj (by omega) (by omega) h
  obtain ⟨e7, h⟩ := many_inj cmd CmdR SameC (fun _ _ _ _ h1 h2 h => cmd_inj h1 h2 h) _ _ _ _ (by omega) hi.cmds hj.cmds h
  exact ⟨⟨e1, e2, e3, all2_eq _ _ e5, e7⟩, h⟩

theorem path_same {p q : Path} (h : SameP p q) : path p = path q := by unfold path; rw [h.1, h.2.1, h.2.2]
theorem flat_same {α : Type} (f : α → List Nat) (E : α → α → Prop) (hf : ∀ x y, E x y → f x = f y) : ∀ (l m : List α), All2 E l m → l.length = m.length ∧ l.flatMap f = m.flatMap f := by
  intro l
  induction l with
  | nil => intro m h; cases m with | nil => exact ⟨rfl, rfl⟩ | cons x y => exact absurd h id
  | cons x l ih => intro m h; cases m with | nil => exact absurd h id | cons y m => rw [List.flatMap_cons, List.flatMap_cons, hf _ _ h.1, (ih m h.2).2, List.length_cons, List.length_cons, (ih m h.2).1]; exact ⟨rfl, rfl⟩
theorem cmd_same {c d : Cmd} (h : SameC c d) : cmd c = cmd d := by
  obtain ⟨h1, h2, h3, h4, h5⟩ := h
  have := flat_same path SameP (fun _ _ h => path_same h) _ _ h5
  unfold cmd
  rw [h1, h2, h3, h4, this.1, this.2]
theorem icon_same {i j : Icon} (h : SameI i j) : icon i = icon j := by
  obtain ⟨h1, h2, h3, h4, h5⟩ := h
  have := flat_same cmd SameC (fun _ _ h => cmd_same h) _ _ h5
  unfold icon
  rw [h1, h2, h3, h4, this.1, this.2]

end EP
end Go.Proofs.YtcnlkdoifogkbaaGreatDoor

/-
  Whether two segments, paths, paints, commands, icons are the same: walked over the program.
-/
namespace Go.Proofs.YtcnlkdoifogkbaaGreatDoor
open Go.RowKit

def sFrom {α : Type} (f : α → α → Bool) : List α → List α → Bool
  | [], [] => true
  | x :: l, y :: m => f x y && sFrom f l m
  | _, _ => false
def sSeg (s t : IC.Seg) : Bool := (s.k == t.k) && (IC.samePt s.a t.a && (IC.samePt s.b t.b && IC.samePt s.c t.c))
def sPath (p q : IC.Path) : Bool := IC.samePt p.st q.st && ((p.cl == q.cl) && sFrom sSeg p.segs q.segs)
def sPaint (p q : IC.Paint) : Bool := (p.k == q.k) && ((p.a == q.a) && ((p.b == q.b) && (IC.samePt p.p q.p && IC.samePt p.q q.q)))
def sCmd (c d : IC.Cmd) : Bool := (c.k == d.k) && ((c.r == d.r) && ((c.wd == d.wd) && (sPaint c.pn d.pn && sFrom sPath c.paths d.paths)))
def sIcon (i j : IC.Icon) : Bool := (i.w == j.w) && ((i.h == j.h) && ((i.s == j.s) && (sFrom IC.sameCol i.cols j.cols && sFrom sCmd i.cmds j.cmds)))

theorem sFrom_len {α : Type} (f : α → α → Bool) : ∀ (l m : List α), l.length ≠ m.length → sFrom f l m = false := by
  intro l
  induction l with
  | nil => intro m h; cases m with | nil => exact absurd rfl h | cons y m => rfl
  | cons x l ih => intro m h; cases m with | nil => rfl | cons y m => show (f x y && sFrom f l m) = false; rw [ih m (by simpa using h)]; simp
theorem sFrom_at {α : Type} (f : α → α → Bool) (l m : List α) (k : Nat) (h1 : k < l.length) (h2 : k < m.length) : sFrom f (l.drop k) (m.drop k) = (f l[k] m[k] && sFrom f (l.drop (k + 1)) (m.drop (k + 1))) := by
  rw [List.drop_eq_getElem_cons h1, List.drop_eq_getElem_cons h2]
  rfl
theorem sFrom_all {α : Type} (f : α → α → Bool) (E : α → α → Prop) (h : ∀ x y, f x y = true ↔ E x y) : ∀ (l m : List α), sFrom f l m = true ↔ EP.All2 E l m := by
  intro l
  induction l with
  | nil => intro m; cases m with | nil => exact ⟨fun _ => trivial, fun _ => rfl⟩ | cons y m => exact ⟨fun h => absurd h (by show ¬ false = true; simp), fun h => absurd h id⟩
  | cons x l ih =>
    intro m
    cases m with
    | nil => exact ⟨fun h => absurd h (by show ¬ false = true; simp), fun h => absurd h id⟩
    | cons y m =>
      show (f x y && sFrom f l m) = true ↔ E x y ∧ EP.All2 E l m
      rw [Bool.and_eq_true, h, ih]

theorem sPt_iff (p q : IC.Pt) : IC.samePt p q = true ↔ p = q := by
  obtain ⟨a, b⟩ := p
  obtain ⟨c, d⟩ := q
  unfold IC.samePt
  simp
theorem sSeg_iff (s t : IC.Seg) : sSeg s t = true ↔ s = t := by
  obtain ⟨k, a, b, c⟩ := s
  obtain ⟨k', a', b', c'⟩ := t
  unfold sSeg
  simp only [Bool.and_eq_true, sPt_iff, beq_iff_eq, IC.Seg.mk.injEq]
theorem all2_refl {α : Type} : ∀ l : List α, EP.All2 (· = ·) l l := by
  intro l
  induction l with
  | nil => trivial
  | cons x l ih => exact ⟨rfl, ih⟩
theorem sList_iff {α : Type} (f : α → α → Bool) (h : ∀ x y, f x y = true ↔ x = y) (l m : List α) : sFrom f l m = true ↔ l = m := by
  rw [sFrom_all f (· = ·) h]
  exact ⟨EP.all2_eq l m, fun e => e ▸ all2_refl l⟩
theorem sPath_iff (p q : IC.Path) : sPath p q = true ↔ EP.SameP p q := by
  unfold sPath EP.SameP
  simp only [Bool.and_eq_true, sPt_iff, beq_iff_eq, sList_iff sSeg sSeg_iff]
theorem sPaint_iff (p q : IC.Paint) : sPaint p q = true ↔ p = q := by
  obtain ⟨k, a, b, c, d⟩ := p
  obtain ⟨k', a', b', c', d'⟩ := q
  unfold sPaint
  simp only [Bool.and_eq_true, sPt_iff, beq_iff_eq, IC.Paint.mk.injEq]
theorem sCmd_iff (c d : IC.Cmd) : sCmd c d = true ↔ EP.SameC c d := by
  unfold sCmd EP.SameC
  simp only [Bool.and_eq_true, beq_iff_eq, sPaint_iff, sFrom_all sPath EP.SameP sPath_iff]
theorem sCol_iff (a b : IC.Col) : IC.sameCol a b = true ↔ a = b := by
  obtain ⟨r, g, c, d⟩ := a
  obtain ⟨r', g', c', d'⟩ := b
  unfold IC.sameCol
  simp
theorem sIcon_iff (i j : IC.Icon) : sIcon i j = true ↔ EP.SameI i j := by
  unfold sIcon EP.SameI
  simp only [Bool.and_eq_true, beq_iff_eq, sList_iff IC.sameCol sCol_iff, sFrom_all sCmd EP.SameC sCmd_iff]

theorem two_fin {w w1 : World} {o o' : Obj} (h : Below ((w.alloc o).alloc o').heap.size ((w.alloc o).alloc o') w1) : Below w.heap.size w w1 := (((Below.refl _ _).alloc (Nat.le_refl _) o).alloc (by simp) o').trans (h.mono (by simp; omega))
theorem two_none (w : World) (o o' : Obj) : Below w.heap.size w ((w.alloc o).alloc o') := ((Below.refl _ _).alloc (Nat.le_refl _) o).alloc (by simp) o'
theorem pt_same (ax ay bx bY : Int) : ∀ w, Calls Tryz.prog 25 #[.agg #[.int .i64 ax, .int .i64 ay], .agg #[.int .i64 bx, .int .i64 bY]] w fun e w' => e = .returned (.bool (IC.samePt ⟨ax, ay⟩ ⟨bx, bY⟩)) ∧ Below w.heap.size w w' := fun w => samept_any ax ay bx bY w

set_option maxRecDepth 20000 in
set_option maxHeartbeats 1000000 in
theorem same_seg (x y : IC.Seg) (w : World) :
    Calls Tryz.prog 126 #[.agg x.cells.toArray, .agg y.cells.toArray] w fun e w' => e = .returned (.bool (sSeg x y)) ∧ Below w.heap.size w w' := by
  obtain ⟨xk, ⟨xa, xb⟩, ⟨xc, xd⟩, ⟨xe, xf⟩⟩ := x
  obtain ⟨yk, ⟨ya, yb⟩, ⟨yc, yd⟩, ⟨ye, yf⟩⟩ := y
  have k1 := hid' (pt_same xa xb ya yb)
  have k2 := hid' (pt_same xc xd yc yd)
  have k3 := hid' (pt_same xe xf ye yf)
  unfold sSeg
  simp only
  generalize IC.samePt ⟨xa, xb⟩ ⟨ya, yb⟩ = t1 at k1 ⊢
  generalize IC.samePt ⟨xc, xd⟩ ⟨yc, yd⟩ = t2 at k2 ⊢
  generalize IC.samePt ⟨xe, xf⟩ ⟨ye, yf⟩ = t3 at k3 ⊢
  simp only [IC.Seg.cells]
  go_enter Tryz.func126, Tryz.ntmps126
  cases h0 : (xk == yk)
  · go_wp2_with (first
      | (go_at_call 25; (with_reducible refine (k3.out _).mono ?_); rintro e w3 ⟨rfl, hb3⟩
         have H3 := hid' (H2.out.trans (hb3.mono H2.out.size))
         obtain ⟨p3, q3, -⟩ := boxes2 H3.out
         obtain ⟨z3, y3⟩ := sizes2 H3.out
         clear hb3)
      | (go_at_call 25; (with_reducible refine (k2.out _).mono ?_); rintro e w2 ⟨rfl, hb2⟩
         have H2 := hid' (H1.out.trans (hb2.mono H1.out.size))
         obtain ⟨p2, q2, -⟩ := boxes2 H2.out
         obtain ⟨z2, y2⟩ := sizes2 H2.out
         clear hb2)
      | (go_at_call 25; (with_reducible refine (k1.out _).mono ?_); rintro e w1 ⟨rfl, hb1⟩
         have H1 := hid' hb1
         obtain ⟨p1, q1, -⟩ := boxes2 hb1
         obtain ⟨z1, y1⟩ := sizes2 hb1
         clear hb1))
    go_ret
    exact ⟨ret_bool (by simp), by first | exact two_fin H3.out | exact two_fin H2.out | exact two_fin H1.out | exact two_none _ _ _⟩
  · cases t1
    · go_wp2_with (first
        | (go_at_call 25; (with_reducible refine (k3.out _).mono ?_); rintro e w3 ⟨rfl, hb3⟩
           have H3 := hid' (H2.out.trans (hb3.mono H2.out.size))
           obtain ⟨p3, q3, -⟩ := boxes2 H3.out
           obtain ⟨z3, y3⟩ := sizes2 H3.out
           clear hb3)
        | (go_at_call 25; (with_reducible refine (k2.out _).mono ?_); rintro e w2 ⟨rfl, hb2⟩
           have H2 := hid' (H1.out.trans (hb2.mono H1.out.size))
           obtain ⟨p2, q2, -⟩ := boxes2 H2.out
           obtain ⟨z2, y2⟩ := sizes2 H2.out
           clear hb2)
        | (go_at_call 25; (with_reducible refine (k1.out _).mono ?_); rintro e w1 ⟨rfl, hb1⟩
           have H1 := hid' hb1
           obtain ⟨p1, q1, -⟩ := boxes2 hb1
           obtain ⟨z1, y1⟩ := sizes2 hb1
           clear hb1))
      go_ret
      exact ⟨ret_bool (by simp), by first | exact two_fin H3.out | exact two_fin H2.out | exact two_fin H1.out | exact two_none _ _ _⟩
    · cases t2
      · go_wp2_with (first
          | (go_at_call 25; (with_reducible refine (k3.out _).mono ?_); rintro e w3 ⟨rfl, hb3⟩
             have H3 := hid' (H2.out.trans (hb3.mono H2.out.size))
             obtain ⟨p3, q3, -⟩ := boxes2 H3.out
             obtain ⟨z3, y3⟩ := sizes2 H3.out
             clear hb3)
          | (go_at_call 25; (with_reducible refine (k2.out _).mono ?_); rintro e w2 ⟨rfl, hb2⟩
             have H2 := hid' (H1.out.trans (hb2.mono H1.out.size))
             obtain ⟨p2, q2, -⟩ := boxes2 H2.out
             obtain ⟨z2, y2⟩ := sizes2 H2.out
             clear hb2)
          | (go_at_call 25; (with_reducible refine (k1.out _).mono ?_); rintro e w1 ⟨rfl, hb1⟩
             have H1 := hid' hb1
             obtain ⟨p1, q1, -⟩ := boxes2 hb1
             obtain ⟨z1, y1⟩ := sizes2 hb1
             clear hb1))
        go_ret
        exact ⟨ret_bool (by simp), by first | exact two_fin H3.out | exact two_fin H2.out | exact two_fin H1.out | exact two_none _ _ _⟩
      · go_wp2_with (first
          | (go_at_call 25; (with_reducible refine (k3.out _).mono ?_); rintro e w3 ⟨rfl, hb3⟩
             have H3 := hid' (H2.out.trans (hb3.mono H2.out.size))
             obtain ⟨p3, q3, -⟩ := boxes2 H3.out
             obtain ⟨z3, y3⟩ := sizes2 H3.out
             clear hb3)
          | (go_at_call 25; (with_reducible refine (k2.out _).mono ?_); rintro e w2 ⟨rfl, hb2⟩
             have H2 := hid' (H1.out.trans (hb2.mono H1.out.size))
             obtain ⟨p2, q2, -⟩ := boxes2 H2.out
             obtain ⟨z2, y2⟩ := sizes2 H2.out
             clear hb2)
          | (go_at_call 25; (with_reducible refine (k1.out _).mono ?_); rintro e w1 ⟨rfl, hb1⟩
             have H1 := hid' hb1
             obtain ⟨p1, q1, -⟩ := boxes2 hb1
             obtain ⟨z1, y1⟩ := sizes2 hb1
             clear hb1))
        go_ret
        exact ⟨ret_bool (by simp), by first | exact two_fin H3.out | exact two_fin H2.out | exact two_fin H1.out | exact two_none _ _ _⟩

set_option maxRecDepth 20000 in
set_option maxHeartbeats 1000000 in
theorem same_segs (v v' : Value) (l m : List IC.Seg) (w : World) (h1 : Many w 103 7 IC.Seg.cells v l) (h2 : Many w 103 7 IC.Seg.cells v' m) (hn : l.length ≤ 1000000) (hn' : m.length ≤ 1000000) :
    Calls Tryz.prog 122 #[v, v'] w fun e w' => e = .returned (.bool (sFrom sSeg l m)) ∧ Below w.heap.size w w' := by
  obtain ⟨ad, cap, hv, hl1, hl2⟩ := h1.len
  obtain ⟨ad', cap', hv', hl1', hl2'⟩ := h2.len
  unfold maxLen at hl2 hl2'
  obtain ⟨L, hL⟩ : ∃ L, l.length = L := ⟨_, rfl⟩
  obtain ⟨M, hM⟩ : ∃ M, m.length = M := ⟨_, rfl⟩
  have HL : Hid (l.length = L) := hL
  have HM : Hid (m.length = M) := hM
  rw [hL] at hv hl1 hn
  rw [hM] at hv' hl1' hn'
  subst hv
  subst hv'
  have H1 := hid' h1
  have H2 := hid' h2
  by_cases hLM : L = M
  · subst hLM
    obtain ⟨R, hR⟩ : ∃ R, sFrom sSeg l m = R := ⟨_, rfl⟩
    rw [hR]
    clear h1 h2 hL hM
    go_enter Tryz.func122, Tryz.ntmps122
    go_wp2
    go_loopw [5] (fun i wr => ∃ k : Nat, k ≤ L ∧ i = .int .i64 k ∧ Hid (sFrom sSeg (l.drop k) (m.drop k) = R) ∧ Hid (Below w.heap.size w wr)) (fun i _ => L - (intOf i).toNat)
    case atStart => exact ⟨0, by omega, rfl, hR, Below.refl _ _⟩
    case round =>
      obtain ⟨k, hk, rfl, HR, HB⟩ := hrel
      by_cases hkL : k < L
      · have hks : k < l.length := by rw [HL.out]; exact hkL
        have hks' : k < m.length := by rw [HM.out]; exact hkL
        obtain ⟨g, o, cap2, hv, hg, -, -, hc⟩ := H1.out.at seg_len k hks
        obtain ⟨rfl, -⟩ : ad = some ⟨g, o, none⟩ ∧ _ := by simpa using hv
        obtain ⟨g', o', cap2', hv', hg', -, -, hc'⟩ := H2.out.at seg_len k hks'
        obtain ⟨rfl, -⟩ : ad' = some ⟨g', o', none⟩ ∧ _ := by simpa using hv'
        clear hv hv'
        have hgr : g < wr.heap.size := Nat.lt_of_lt_of_le hg HB.out.size
        have hgr' : g' < wr.heap.size := Nat.lt_of_lt_of_le hg' HB.out.size
        have hA := HR.out
        rw [sFrom_at sSeg l m k hks hks'] at hA
        obtain ⟨x, hx⟩ : ∃ x, l[k] = x := ⟨_, rfl⟩
        obtain ⟨y, hy⟩ : ∃ y, m[k] = y := ⟨_, rfl⟩
        rw [hx] at hc hA
        rw [hy] at hc' hA
        obtain ⟨xk, ⟨xa, xb⟩, ⟨xc, xd⟩, ⟨xe, xf⟩⟩ := x
        obtain ⟨yk, ⟨ya, yb⟩, ⟨yc, yd⟩, ⟨ye, yf⟩⟩ := y
        have ke0 : ∀ W, Below w.heap.size w W → _ := fun W hbw => (fun (_ : Below w.heap.size w W) => same_seg ⟨xk, ⟨xa, xb⟩, ⟨xc, xd⟩, ⟨xe, xf⟩⟩ ⟨yk, ⟨ya, yb⟩, ⟨yc, yd⟩, ⟨ye, yf⟩⟩ W) hbw
        obtain ⟨t, ht⟩ : ∃ t, sSeg ⟨xk, ⟨xa, xb⟩, ⟨xc, xd⟩, ⟨xe, xf⟩⟩ ⟨yk, ⟨ya, yb⟩, ⟨yc, yd⟩, ⟨ye, yf⟩⟩ = t := ⟨_, rfl⟩
        rw [ht] at hA ke0
        have ke : Hid (∀ W, Below w.heap.size w W → Calls Tryz.prog 126 #[.agg #[.int .i64 xk, .int .i64 xa, .int .i64 xb, .int .i64 xc, .int .i64 xd, .int .i64 xe, .int .i64 xf], .agg #[.int .i64 yk, .int .i64 ya, .int .i64 yb, .int .i64 yc, .int .i64 yd, .int .i64 ye, .int .i64 yf]] W fun e w' => e = .returned (.bool t) ∧ Below W.heap.size W w') := ke0
        have c0 := Grown.cell (w := wr) hgr ((HB.out.cell (p := ⟨g, o + k * 7, none⟩) hg).trans (hc 0 _ rfl))
        have d0 := Grown.cell (w := wr) hgr' ((HB.out.cell (p := ⟨g', o' + k * 7, none⟩) hg').trans (hc' 0 _ rfl))
        have c1 := Grown.cell (w := wr) hgr ((HB.out.cell (p := ⟨g, o + k * 7 + 1, none⟩) hg).trans (hc 1 _ rfl))
        have d1 := Grown.cell (w := wr) hgr' ((HB.out.cell (p := ⟨g', o' + k * 7 + 1, none⟩) hg').trans (hc' 1 _ rfl))
        have c2 := Grown.cell (w := wr) hgr ((HB.out.cell (p := ⟨g, o + k * 7 + 2, none⟩) hg).trans (hc 2 _ rfl))
        have d2 := Grown.cell (w := wr) hgr' ((HB.out.cell (p := ⟨g', o' + k * 7 + 2, none⟩) hg').trans (hc' 2 _ rfl))
        have c3 := Grown.cell (w := wr) hgr ((HB.out.cell (p := ⟨g, o + k * 7 + 3, none⟩) hg).trans (hc 3 _ rfl))
        have d3 := Grown.cell (w := wr) hgr' ((HB.out.cell (p := ⟨g', o' + k * 7 + 3, none⟩) hg').trans (hc' 3 _ rfl))
        have c4 := Grown.cell (w := wr) hgr ((HB.out.cell (p := ⟨g, o + k * 7 + 4, none⟩) hg).trans (hc 4 _ rfl))
        have d4 := Grown.cell (w := wr) hgr' ((HB.out.cell (p := ⟨g', o' + k * 7 + 4, none⟩) hg').trans (hc' 4 _ rfl))
        have c5 := Grown.cell (w := wr) hgr ((HB.out.cell (p := ⟨g, o + k * 7 + 5, none⟩) hg).trans (hc 5 _ rfl))
        have d5 := Grown.cell (w := wr) hgr' ((HB.out.cell (p := ⟨g', o' + k * 7 + 5, none⟩) hg').trans (hc' 5 _ rfl))
        have c6 := Grown.cell (w := wr) hgr ((HB.out.cell (p := ⟨g, o + k * 7 + 6, none⟩) hg).trans (hc 6 _ rfl))
        have d6 := Grown.cell (w := wr) hgr' ((HB.out.cell (p := ⟨g', o' + k * 7 + 6, none⟩) hg').trans (hc' 6 _ rfl))
        have hne := Grown.some wr
        have hki : (k : Int) < (L : Int) := by omega
        clear hc hc' hx hy ht ke0 HR
        cases t
        · have HF : Hid (R = false) := by rw [← hA]; exact (Bool.false_and _)
          clear hA
          go_wp2
          refine wp_region_grow (by kernel_rfl) (by kernel_rfl) ?_
          repeat (go_big_quiet_step ((go_at_call 126; exact grow_of (ke.out _ (chain HB.out (Grown.below _))))))
          refine wpQuiet_nil ?_
          rintro _ ⟨G, rfl⟩
          go_wp2
          go_ret
          exact ⟨ret_bool HF.out.symm, chain HB.out G.below⟩
        · have HF : Hid (sFrom sSeg (l.drop (k + 1)) (m.drop (k + 1)) = R) := by rw [← hA]; exact (Bool.true_and _).symm
          clear hA
          go_wp2
          refine wp_region_grow (by kernel_rfl) (by kernel_rfl) ?_
          repeat (go_big_quiet_step ((go_at_call 126; exact grow_of (ke.out _ (chain HB.out (Grown.below _))))))
          refine wpQuiet_nil ?_
          rintro _ ⟨G, rfl⟩
          go_wp2
          go_roundw
          case rel => exact ⟨k + 1, by omega, by go_num, HF, chain HB.out G.below⟩
          case measure => simp [intOf]; omega
      · obtain rfl : k = L := by omega
        have HF : Hid (R = true) := by have h := HR.out; rw [List.drop_of_length_le (by rw [HL.out]; omega), List.drop_of_length_le (by rw [HM.out]; omega)] at h; exact h.symm
        go_wp2
        go_ret
        exact ⟨ret_bool HF.out.symm, HB.out⟩
  · have hLMi : ((L : Int) == (M : Int)) = false := by simp; omega
    have HF : Hid (sFrom sSeg l m = false) := sFrom_len _ _ _ (by rw [hL, hM]; exact hLM)
    clear h1 h2 hL hM
    go_enter Tryz.func122, Tryz.ntmps122
    go_wp2
    go_ret
    exact ⟨ret_bool HF.out.symm, Below.refl _ _⟩

end Go.Proofs.YtcnlkdoifogkbaaGreatDoor

/-
  Whether two paths, paints, commands, icons are the same: walked over the program.
-/
namespace Go.Proofs.YtcnlkdoifogkbaaGreatDoor
open Go.RowKit

def PathOkL (w : World) (p : IC.Path) : Prop := PathOk w p ∧ p.segs.length ≤ 1000000
def CmdOkL (w : World) (c : IC.Cmd) : Prop := CmdOk w c ∧ c.paths.length ≤ 1000000 ∧ ∀ p ∈ c.paths, p.segs.length ≤ 1000000
theorem PathOkL.below {w w' : World} {p : IC.Path} (h : PathOkL w p) (hb : Below w.heap.size w w') : PathOkL w' p := ⟨h.1.below hb, h.2⟩
theorem CmdOkL.below {w w' : World} {c : IC.Cmd} (h : CmdOkL w c) (hb : Below w.heap.size w w') : CmdOkL w' c := ⟨h.1.below hb, h.2⟩

set_option maxRecDepth 20000 in
set_option maxHeartbeats 1000000 in
theorem same_path (x y : IC.Path) (w : World) (hx : PathOkL w x) (hy : PathOkL w y) :
    Calls Tryz.prog 113 #[.agg x.cells.toArray, .agg y.cells.toArray] w fun e w' => e = .returned (.bool (sPath x y)) ∧ Below w.heap.size w w' := by
  obtain ⟨⟨xa, xb⟩, xv, xs, xl⟩ := x
  obtain ⟨⟨ya, yb⟩, yv, ys, yl⟩ := y
  have k1 := hid' (pt_same xa xb ya yb)
  have k2 : Hid (∀ W, Below w.heap.size w W → Calls Tryz.prog 122 #[xv, yv] W fun e w' => e = .returned (.bool (sFrom sSeg xs ys)) ∧ Below W.heap.size W w') := fun W hb => same_segs xv yv xs ys W (Row.below hx.1 hb) (Row.below hy.1 hb) hx.2 hy.2
  unfold sPath
  simp only
  generalize IC.samePt ⟨xa, xb⟩ ⟨ya, yb⟩ = t1 at k1 ⊢
  generalize sFrom sSeg xs ys = t2 at k2 ⊢
  obtain ⟨xva, xvc, hxv, -, -⟩ := Many.len hx.1
  replace hxv : xv = .slice xva xs.length xvc := hxv
  generalize xs.length = xn at hxv
  subst hxv
  obtain ⟨yva, yvc, hyv, -, -⟩ := Many.len hy.1
  replace hyv : yv = .slice yva ys.length yvc := hyv
  generalize ys.length = yn at hyv
  subst hyv
  clear hx hy
  simp only [IC.Path.cells]
  go_enter Tryz.func113, Tryz.ntmps113
  cases t1
  · go_wp2_with (first
      | (go_at_call 122; (with_reducible refine (k2.out _ (two_fin H1.out)).mono ?_); rintro e w2 ⟨rfl, hb2⟩
         have H2 := hid' (H1.out.trans (hb2.mono H1.out.size))
         obtain ⟨p2, q2, -⟩ := boxes2 H2.out
         obtain ⟨z2, y2⟩ := sizes2 H2.out
         clear hb2)
      | (go_at_call 25; (with_reducible refine (k1.out _).mono ?_); rintro e w1 ⟨rfl, hb1⟩
         have H1 := hid' hb1
         obtain ⟨p1, q1, -⟩ := boxes2 hb1
         obtain ⟨z1, y1⟩ := sizes2 hb1
         clear hb1))
    go_ret
    exact ⟨ret_bool (by simp), by first | exact two_fin H2.out | exact two_fin H1.out | exact two_none _ _ _⟩
  · cases h0 : (xl == yl)
    · go_wp2_with (first
        | (go_at_call 122; (with_reducible refine (k2.out _ (two_fin H1.out)).mono ?_); rintro e w2 ⟨rfl, hb2⟩
           have H2 := hid' (H1.out.trans (hb2.mono H1.out.size))
           obtain ⟨p2, q2, -⟩ := boxes2 H2.out
           obtain ⟨z2, y2⟩ := sizes2 H2.out
           clear hb2)
        | (go_at_call 25; (with_reducible refine (k1.out _).mono ?_); rintro e w1 ⟨rfl, hb1⟩
           have H1 := hid' hb1
           obtain ⟨p1, q1, -⟩ := boxes2 hb1
           obtain ⟨z1, y1⟩ := sizes2 hb1
           clear hb1))
      go_ret
      exact ⟨ret_bool (by simp), by first | exact two_fin H2.out | exact two_fin H1.out | exact two_none _ _ _⟩
    · go_wp2_with (first
        | (go_at_call 122; (with_reducible refine (k2.out _ (two_fin H1.out)).mono ?_); rintro e w2 ⟨rfl, hb2⟩
           have H2 := hid' (H1.out.trans (hb2.mono H1.out.size))
           obtain ⟨p2, q2, -⟩ := boxes2 H2.out
           obtain ⟨z2, y2⟩ := sizes2 H2.out
           clear hb2)
        | (go_at_call 25; (with_reducible refine (k1.out _).mono ?_); rintro e w1 ⟨rfl, hb1⟩
           have H1 := hid' hb1
           obtain ⟨p1, q1, -⟩ := boxes2 hb1
           obtain ⟨z1, y1⟩ := sizes2 hb1
           clear hb1))
      go_ret
      exact ⟨ret_bool (by simp), by first | exact two_fin H2.out | exact two_fin H1.out | exact two_none _ _ _⟩

set_option maxRecDepth 20000 in
set_option maxHeartbeats 1000000 in
theorem same_paths (v v' : Value) (l m : List IC.Path) (w : World) (h1 : Many w 72 4 IC.Path.cells v l) (h2 : Many w 72 4 IC.Path.cells v' m) (ok1 : ∀ x ∈ l, PathOkL w x) (ok2 : ∀ x ∈ m, PathOkL w x) (hn : l.length ≤ 1000000) (hn' : m.length ≤ 1000000) :
    Calls Tryz.prog 92 #[v, v'] w fun e w' => e = .returned (.bool (sFrom sPath l m)) ∧ Below w.heap.size w w' := by
  obtain ⟨ad, cap, hv, hl1, hl2⟩ := h1.len
  obtain ⟨ad', cap', hv', hl1', hl2'⟩ := h2.len
  unfold maxLen at hl2 hl2'
  obtain ⟨L, hL⟩ : ∃ L, l.length = L := ⟨_, rfl⟩
  obtain ⟨M, hM⟩ : ∃ M, m.length = M := ⟨_, rfl⟩
  have HL : Hid (l.length = L) := hL
  have HM : Hid (m.length = M) := hM
  rw [hL] at hv hl1 hn
  rw [hM] at hv' hl1' hn'
  subst hv
  subst hv'
  have H1 := hid' h1
  have H2 := hid' h2
  have K1 := hid' ok1
  have K2 := hid' ok2
  clear ok1 ok2
  by_cases hLM : L = M
  · subst hLM
    obtain ⟨R, hR⟩ : ∃ R, sFrom sPath l m = R := ⟨_, rfl⟩
    rw [hR]
    clear h1 h2 hL hM
    go_enter Tryz.func92, Tryz.ntmps92
    go_wp2
    go_loopw [5] (fun i wr => ∃ k : Nat, k ≤ L ∧ i = .int .i64 k ∧ Hid (sFrom sPath (l.drop k) (m.drop k) = R) ∧ Hid (Below w.heap.size w wr)) (fun i _ => L - (intOf i).toNat)
    case atStart => exact ⟨0, by omega, rfl, hR, Below.refl _ _⟩
    case round =>
      obtain ⟨k, hk, rfl, HR, HB⟩ := hrel
      by_cases hkL : k < L
      · have hks : k < l.length := by rw [HL.out]; exact hkL
        have hks' : k < m.length := by rw [HM.out]; exact hkL
        obtain ⟨g, o, cap2, hv, hg, -, -, hc⟩ := H1.out.at path_len k hks
        obtain ⟨rfl, -⟩ : ad = some ⟨g, o, none⟩ ∧ _ := by simpa using hv
        obtain ⟨g', o', cap2', hv', hg', -, -, hc'⟩ := H2.out.at path_len k hks'
        obtain ⟨rfl, -⟩ : ad' = some ⟨g', o', none⟩ ∧ _ := by simpa using hv'
        clear hv hv'
        have hgr : g < wr.heap.size := Nat.lt_of_lt_of_le hg HB.out.size
        have hgr' : g' < wr.heap.size := Nat.lt_of_lt_of_le hg' HB.out.size
        have q1 := K1.out l[k] (List.getElem_mem hks)
        have q2 := K2.out m[k] (List.getElem_mem hks')
        have hA := HR.out
        rw [sFrom_at sPath l m k hks hks'] at hA
        obtain ⟨x, hx⟩ : ∃ x, l[k] = x := ⟨_, rfl⟩
        obtain ⟨y, hy⟩ : ∃ y, m[k] = y := ⟨_, rfl⟩
        rw [hx] at hc hA q1
        rw [hy] at hc' hA q2
        obtain ⟨⟨xa, xb⟩, xv, xs, xl⟩ := x
        obtain ⟨⟨ya, yb⟩, yv, ys, yl⟩ := y
        obtain ⟨xva, xvc, hxv, -, -⟩ := Many.len q1.1
        replace hxv : xv = .slice xva xs.length xvc := hxv
        generalize xs.length = xn at hxv
        subst hxv
        obtain ⟨yva, yvc, hyv, -, -⟩ := Many.len q2.1
        replace hyv : yv = .slice yva ys.length yvc := hyv
        generalize ys.length = yn at hyv
        subst hyv
        have ke0 : ∀ W, Below w.heap.size w W → _ := fun W hbw => same_path ⟨⟨xa, xb⟩, .slice xva xn xvc, xs, xl⟩ ⟨⟨ya, yb⟩, .slice yva yn yvc, ys, yl⟩ W (q1.below hbw) (q2.below hbw)
        obtain ⟨t, ht⟩ : ∃ t, sPath ⟨⟨xa, xb⟩, .slice xva xn xvc, xs, xl⟩ ⟨⟨ya, yb⟩, .slice yva yn yvc, ys, yl⟩ = t := ⟨_, rfl⟩
        rw [ht] at hA ke0
        have ke : Hid (∀ W, Below w.heap.size w W → Calls Tryz.prog 113 #[.agg #[.int .i64 xa, .int .i64 xb, .slice xva xn xvc, .bool xl], .agg #[.int .i64 ya, .int .i64 yb, .slice yva yn yvc, .bool yl]] W fun e w' => e = .returned (.bool t) ∧ Below W.heap.size W w') := ke0
        have c0 := Grown.cell (w := wr) hgr ((HB.out.cell (p := ⟨g, o + k * 4, none⟩) hg).trans (hc 0 _ rfl))
        have d0 := Grown.cell (w := wr) hgr' ((HB.out.cell (p := ⟨g', o' + k * 4, none⟩) hg').trans (hc' 0 _ rfl))
        have c1 := Grown.cell (w := wr) hgr ((HB.out.cell (p := ⟨g, o + k * 4 + 1, none⟩) hg).trans (hc 1 _ rfl))
        have d1 := Grown.cell (w := wr) hgr' ((HB.out.cell (p := ⟨g', o' + k * 4 + 1, none⟩) hg').trans (hc' 1 _ rfl))
        have c2 := Grown.cell (w := wr) hgr ((HB.out.cell (p := ⟨g, o + k * 4 + 2, none⟩) hg).trans (hc 2 _ rfl))
        have d2 := Grown.cell (w := wr) hgr' ((HB.out.cell (p := ⟨g', o' + k * 4 + 2, none⟩) hg').trans (hc' 2 _ rfl))
        have c3 := Grown.cell (w := wr) hgr ((HB.out.cell (p := ⟨g, o + k * 4 + 3, none⟩) hg).trans (hc 3 _ rfl))
        have d3 := Grown.cell (w := wr) hgr' ((HB.out.cell (p := ⟨g', o' + k * 4 + 3, none⟩) hg').trans (hc' 3 _ rfl))
        have hne := Grown.some wr
        have hki : (k : Int) < (L : Int) := by omega
        clear hc hc' hx hy ht ke0 HR q1 q2
        cases t
        · have HF : Hid (R = false) := by rw [← hA]; exact (Bool.false_and _)
          clear hA
          go_wp2
          refine wp_region_grow (by kernel_rfl) (by kernel_rfl) ?_
          repeat (go_big_quiet_step ((go_at_call 113; exact grow_of (ke.out _ (chain HB.out (Grown.below _))))))
          refine wpQuiet_nil ?_
          rintro _ ⟨G, rfl⟩
          go_wp2
          go_ret
          exact ⟨ret_bool HF.out.symm, chain HB.out G.below⟩
        · have HF : Hid (sFrom sPath (l.drop (k + 1)) (m.drop (k + 1)) = R) := by rw [← hA]; exact (Bool.true_and _).symm
          clear hA
          go_wp2
          refine wp_region_grow (by kernel_rfl) (by kernel_rfl) ?_
          repeat (go_big_quiet_step ((go_at_call 113; exact grow_of (ke.out _ (chain HB.out (Grown.below _))))))
          refine wpQuiet_nil ?_
          rintro _ ⟨G, rfl⟩
          go_wp2
          go_roundw
          case rel => exact ⟨k + 1, by omega, by go_num, HF, chain HB.out G.below⟩
          case measure => simp [intOf]; omega
      · obtain rfl : k = L := by omega
        have HF : Hid (R = true) := by have h := HR.out; rw [List.drop_of_length_le (by rw [HL.out]; omega), List.drop_of_length_le (by rw [HM.out]; omega)] at h; exact h.symm
        go_wp2
        go_ret
        exact ⟨ret_bool HF.out.symm, HB.out⟩
  · have hLMi : ((L : Int) == (M : Int)) = false := by simp; omega
    have HF : Hid (sFrom sPath l m = false) := sFrom_len _ _ _ (by rw [hL, hM]; exact hLM)
    clear h1 h2 hL hM
    go_enter Tryz.func92, Tryz.ntmps92
    go_wp2
    go_ret
    exact ⟨ret_bool HF.out.symm, Below.refl _ _⟩

set_option maxRecDepth 20000 in
set_option maxHeartbeats 1000000 in
theorem same_paint (x y : IC.Paint) (w : World) :
    Calls Tryz.prog 91 #[.agg x.cells.toArray, .agg y.cells.toArray] w fun e w' => e = .returned (.bool (sPaint x y)) ∧ Below w.heap.size w w' := by
  obtain ⟨xk, xa, xb, ⟨xc, xd⟩, ⟨xe, xf⟩⟩ := x
  obtain ⟨yk, ya, yb, ⟨yc, yd⟩, ⟨ye, yf⟩⟩ := y
  have k1 := hid' (pt_same xc xd yc yd)
  have k2 := hid' (pt_same xe xf ye yf)
  unfold sPaint
  simp only
  generalize IC.samePt ⟨xc, xd⟩ ⟨yc, yd⟩ = t1 at k1 ⊢
  generalize IC.samePt ⟨xe, xf⟩ ⟨ye, yf⟩ = t2 at k2 ⊢
  simp only [IC.Paint.cells]
  go_enter Tryz.func91, Tryz.ntmps91
  cases h0 : (xk == yk)
  · go_wp2_with (first
      | (go_at_call 25; (with_reducible refine (k2.out _).mono ?_); rintro e w2 ⟨rfl, hb2⟩
         have H2 := hid' (H1.out.trans (hb2.mono H1.out.size))
         obtain ⟨p2, q2, -⟩ := boxes2 H2.out
         obtain ⟨z2, y2⟩ := sizes2 H2.out
         clear hb2)
      | (go_at_call 25; (with_reducible refine (k1.out _).mono ?_); rintro e w1 ⟨rfl, hb1⟩
         have H1 := hid' hb1
         obtain ⟨p1, q1, -⟩ := boxes2 hb1
         obtain ⟨z1, y1⟩ := sizes2 hb1
         clear hb1))
    go_ret
    exact ⟨ret_bool (by simp), by first | exact two_fin H2.out | exact two_fin H1.out | exact two_none _ _ _⟩
  · cases h1 : (xa == ya)
    · go_wp2_with (first
        | (go_at_call 25; (with_reducible refine (k2.out _).mono ?_); rintro e w2 ⟨rfl, hb2⟩
           have H2 := hid' (H1.out.trans (hb2.mono H1.out.size))
           obtain ⟨p2, q2, -⟩ := boxes2 H2.out
           obtain ⟨z2, y2⟩ := sizes2 H2.out
           clear hb2)
        | (go_at_call 25; (with_reducible refine (k1.out _).mono ?_); rintro e w1 ⟨rfl, hb1⟩
           have H1 := hid' hb1
           obtain ⟨p1, q1, -⟩ := boxes2 hb1
           obtain ⟨z1, y1⟩ := sizes2 hb1
           clear hb1))
      go_ret
      exact ⟨ret_bool (by simp), by first | exact two_fin H2.out | exact two_fin H1.out | exact two_none _ _ _⟩
    · cases h2 : (xb == yb)
      · go_wp2_with (first
          | (go_at_call 25; (with_reducible refine (k2.out _).mono ?_); rintro e w2 ⟨rfl, hb2⟩
             have H2 := hid' (H1.out.trans (hb2.mono H1.out.size))
             obtain ⟨p2, q2, -⟩ := boxes2 H2.out
             obtain ⟨z2, y2⟩ := sizes2 H2.out
             clear hb2)
          | (go_at_call 25; (with_reducible refine (k1.out _).mono ?_); rintro e w1 ⟨rfl, hb1⟩
             have H1 := hid' hb1
             obtain ⟨p1, q1, -⟩ := boxes2 hb1
             obtain ⟨z1, y1⟩ := sizes2 hb1
             clear hb1))
        go_ret
        exact ⟨ret_bool (by simp), by first | exact two_fin H2.out | exact two_fin H1.out | exact two_none _ _ _⟩
      · cases t1
        · go_wp2_with (first
            | (go_at_call 25; (with_reducible refine (k2.out _).mono ?_); rintro e w2 ⟨rfl, hb2⟩
               have H2 := hid' (H1.out.trans (hb2.mono H1.out.size))
               obtain ⟨p2, q2, -⟩ := boxes2 H2.out
               obtain ⟨z2, y2⟩ := sizes2 H2.out
               clear hb2)
            | (go_at_call 25; (with_reducible refine (k1.out _).mono ?_); rintro e w1 ⟨rfl, hb1⟩
               have H1 := hid' hb1
               obtain ⟨p1, q1, -⟩ := boxes2 hb1
               obtain ⟨z1, y1⟩ := sizes2 hb1
               clear hb1))
          go_ret
          exact ⟨ret_bool (by simp), by first | exact two_fin H2.out | exact two_fin H1.out | exact two_none _ _ _⟩
        · go_wp2_with (first
            | (go_at_call 25; (with_reducible refine (k2.out _).mono ?_); rintro e w2 ⟨rfl, hb2⟩
               have H2 := hid' (H1.out.trans (hb2.mono H1.out.size))
               obtain ⟨p2, q2, -⟩ := boxes2 H2.out
               obtain ⟨z2, y2⟩ := sizes2 H2.out
               clear hb2)
            | (go_at_call 25; (with_reducible refine (k1.out _).mono ?_); rintro e w1 ⟨rfl, hb1⟩
               have H1 := hid' hb1
               obtain ⟨p1, q1, -⟩ := boxes2 hb1
               obtain ⟨z1, y1⟩ := sizes2 hb1
               clear hb1))
          go_ret
          exact ⟨ret_bool (by simp), by first | exact two_fin H2.out | exact two_fin H1.out | exact two_none _ _ _⟩

set_option maxRecDepth 20000 in
set_option maxHeartbeats 1000000 in
theorem same_cmd (x y : IC.Cmd) (w : World) (hx : CmdOkL w x) (hy : CmdOkL w y) :
    Calls Tryz.prog 63 #[.agg x.cells.toArray, .agg y.cells.toArray] w fun e w' => e = .returned (.bool (sCmd x y)) ∧ Below w.heap.size w w' := by
  obtain ⟨xk, xr, xw, ⟨xp, xa, xb, ⟨xc, xd⟩, ⟨xe, xf⟩⟩, xv, xs⟩ := x
  obtain ⟨yk, yr, yw, ⟨yp, ya, yb, ⟨yc, yd⟩, ⟨ye, yf⟩⟩, yv, ys⟩ := y
  have k1 : Hid (∀ W, Calls Tryz.prog 91 #[.agg #[.int .i64 xp, .int .i64 xa, .int .i64 xb, .int .i64 xc, .int .i64 xd, .int .i64 xe, .int .i64 xf], .agg #[.int .i64 yp, .int .i64 ya, .int .i64 yb, .int .i64 yc, .int .i64 yd, .int .i64 ye, .int .i64 yf]] W fun e w' => e = .returned (.bool (sPaint ⟨xp, xa, xb, ⟨xc, xd⟩, ⟨xe, xf⟩⟩ ⟨yp, ya, yb, ⟨yc, yd⟩, ⟨ye, yf⟩⟩)) ∧ Below W.heap.size W w') := fun W => same_paint ⟨xp, xa, xb, ⟨xc, xd⟩, ⟨xe, xf⟩⟩ ⟨yp, ya, yb, ⟨yc, yd⟩, ⟨ye, yf⟩⟩ W
  have k2 : Hid (∀ W, Below w.heap.size w W → Calls Tryz.prog 92 #[xv, yv] W fun e w' => e = .returned (.bool (sFrom sPath xs ys)) ∧ Below W.heap.size W w') := fun W hb => same_paths xv yv xs ys W (Row.below hx.1.1 hb) (Row.below hy.1.1 hb) (fun p hp => ⟨(hx.1.2 p hp).below hb, hx.2.2 p hp⟩) (fun p hp => ⟨(hy.1.2 p hp).below hb, hy.2.2 p hp⟩) hx.2.1 hy.2.1
  unfold sCmd
  simp only
  generalize sPaint ⟨xp, xa, xb, ⟨xc, xd⟩, ⟨xe, xf⟩⟩ ⟨yp, ya, yb, ⟨yc, yd⟩, ⟨ye, yf⟩⟩ = t1 at k1 ⊢
  generalize sFrom sPath xs ys = t2 at k2 ⊢
  obtain ⟨xva, xvc, hxv, -, -⟩ := Many.len hx.1.1
  replace hxv : xv = .slice xva xs.length xvc := hxv
  generalize xs.length = xn at hxv
  subst hxv
  obtain ⟨yva, yvc, hyv, -, -⟩ := Many.len hy.1.1
  replace hyv : yv = .slice yva ys.length yvc := hyv
  generalize ys.length = yn at hyv
  subst hyv
  clear hx hy
  simp only [IC.Cmd.cells]
  go_enter Tryz.func63, Tryz.ntmps63
  cases h0 : (xk == yk)
  · go_wp2_with (first
      | (go_at_call 92; (with_reducible refine (k2.out _ (two_fin H1.out)).mono ?_); rintro e w2 ⟨rfl, hb2⟩
         have H2 := hid' (H1.out.trans (hb2.mono H1.out.size))
         obtain ⟨p2, q2, -⟩ := boxes2 H2.out
         obtain ⟨z2, y2⟩ := sizes2 H2.out
         clear hb2)
      | (go_at_call 91; (with_reducible refine (k1.out _).mono ?_); rintro e w1 ⟨rfl, hb1⟩
         have H1 := hid' hb1
         obtain ⟨p1, q1, -⟩ := boxes2 hb1
         obtain ⟨z1, y1⟩ := sizes2 hb1
         clear hb1))
    go_ret
    exact ⟨ret_bool (by simp), by first | exact two_fin H2.out | exact two_fin H1.out | exact two_none _ _ _⟩
  · cases h1 : (xr == yr)
    · go_wp2_with (first
        | (go_at_call 92; (with_reducible refine (k2.out _ (two_fin H1.out)).mono ?_); rintro e w2 ⟨rfl, hb2⟩
           have H2 := hid' (H1.out.trans (hb2.mono H1.out.size))
           obtain ⟨p2, q2, -⟩ := boxes2 H2.out
           obtain ⟨z2, y2⟩ := sizes2 H2.out
           clear hb2)
        | (go_at_call 91; (with_reducible refine (k1.out _).mono ?_); rintro e w1 ⟨rfl, hb1⟩
           have H1 := hid' hb1
           obtain ⟨p1, q1, -⟩ := boxes2 hb1
           obtain ⟨z1, y1⟩ := sizes2 hb1
           clear hb1))
      go_ret
      exact ⟨ret_bool (by simp), by first | exact two_fin H2.out | exact two_fin H1.out | exact two_none _ _ _⟩
    · cases h2 : (xw == yw)
      · go_wp2_with (first
          | (go_at_call 92; (with_reducible refine (k2.out _ (two_fin H1.out)).mono ?_); rintro e w2 ⟨rfl, hb2⟩
             have H2 := hid' (H1.out.trans (hb2.mono H1.out.size))
             obtain ⟨p2, q2, -⟩ := boxes2 H2.out
             obtain ⟨z2, y2⟩ := sizes2 H2.out
             clear hb2)
          | (go_at_call 91; (with_reducible refine (k1.out _).mono ?_); rintro e w1 ⟨rfl, hb1⟩
             have H1 := hid' hb1
             obtain ⟨p1, q1, -⟩ := boxes2 hb1
             obtain ⟨z1, y1⟩ := sizes2 hb1
             clear hb1))
        go_ret
        exact ⟨ret_bool (by simp), by first | exact two_fin H2.out | exact two_fin H1.out | exact two_none _ _ _⟩
      · cases t1
        · go_wp2_with (first
            | (go_at_call 92; (with_reducible refine (k2.out _ (two_fin H1.out)).mono ?_); rintro e w2 ⟨rfl, hb2⟩
               have H2 := hid' (H1.out.trans (hb2.mono H1.out.size))
               obtain ⟨p2, q2, -⟩ := boxes2 H2.out
               obtain ⟨z2, y2⟩ := sizes2 H2.out
               clear hb2)
            | (go_at_call 91; (with_reducible refine (k1.out _).mono ?_); rintro e w1 ⟨rfl, hb1⟩
               have H1 := hid' hb1
               obtain ⟨p1, q1, -⟩ := boxes2 hb1
               obtain ⟨z1, y1⟩ := sizes2 hb1
               clear hb1))
          go_ret
          exact ⟨ret_bool (by simp), by first | exact two_fin H2.out | exact two_fin H1.out | exact two_none _ _ _⟩
        · go_wp2_with (first
            | (go_at_call 92; (with_reducible refine (k2.out _ (two_fin H1.out)).mono ?_); rintro e w2 ⟨rfl, hb2⟩
               have H2 := hid' (H1.out.trans (hb2.mono H1.out.size))
               obtain ⟨p2, q2, -⟩ := boxes2 H2.out
               obtain ⟨z2, y2⟩ := sizes2 H2.out
               clear hb2)
            | (go_at_call 91; (with_reducible refine (k1.out _).mono ?_); rintro e w1 ⟨rfl, hb1⟩
               have H1 := hid' hb1
               obtain ⟨p1, q1, -⟩ := boxes2 hb1
               obtain ⟨z1, y1⟩ := sizes2 hb1
               clear hb1))
          go_ret
          exact ⟨ret_bool (by simp), by first | exact two_fin H2.out | exact two_fin H1.out | exact two_none _ _ _⟩

set_option maxRecDepth 20000 in
set_option maxHeartbeats 1000000 in
theorem same_cmds (v v' : Value) (l m : List IC.Cmd) (w : World) (h1 : Many w 62 11 IC.Cmd.cells v l) (h2 : Many w 62 11 IC.Cmd.cells v' m) (ok1 : ∀ x ∈ l, CmdOkL w x) (ok2 : ∀ x ∈ m, CmdOkL w x) (hn : l.length ≤ 1000000) (hn' : m.length ≤ 1000000) :
    Calls Tryz.prog 31 #[v, v'] w fun e w' => e = .returned (.bool (sFrom sCmd l m)) ∧ Below w.heap.size w w' := by
  obtain ⟨ad, cap, hv, hl1, hl2⟩ := h1.len
  obtain ⟨ad', cap', hv', hl1', hl2'⟩ := h2.len
  unfold maxLen at hl2 hl2'
  obtain ⟨L, hL⟩ : ∃ L, l.length = L := ⟨_, rfl⟩
  obtain ⟨M, hM⟩ : ∃ M, m.length = M := ⟨_, rfl⟩
  have HL : Hid (l.length = L) := hL
  have HM : Hid (m.length = M) := hM
  rw [hL] at hv hl1 hn
  rw [hM] at hv' hl1' hn'
  subst hv
  subst hv'
  have H1 := hid' h1
  have H2 := hid' h2
  have K1 := hid' ok1
  have K2 := hid' ok2
  clear ok1 ok2
  by_cases hLM : L = M
  · subst hLM
    obtain ⟨R, hR⟩ : ∃ R, sFrom sCmd l m = R := ⟨_, rfl⟩
    rw [hR]
    clear h1 h2 hL hM
    go_enter Tryz.func31, Tryz.ntmps31
    go_wp2
    go_loopw [5] (fun i wr => ∃ k : Nat, k ≤ L ∧ i = .int .i64 k ∧ Hid (sFrom sCmd (l.drop k) (m.drop k) = R) ∧ Hid (Below w.heap.size w wr)) (fun i _ => L - (intOf i).toNat)
    case atStart => exact ⟨0, by omega, rfl, hR, Below.refl _ _⟩
    case round =>
      obtain ⟨k, hk, rfl, HR, HB⟩ := hrel
      by_cases hkL : k < L
      · have hks : k < l.length := by rw [HL.out]; exact hkL
        have hks' : k < m.length := by rw [HM.out]; exact hkL
        obtain ⟨g, o, cap2, hv, hg, -, -, hc⟩ := H1.out.at cmd_len k hks
        obtain ⟨rfl, -⟩ : ad = some ⟨g, o, none⟩ ∧ _ := by simpa using hv
        obtain ⟨g', o', cap2', hv', hg', -, -, hc'⟩ := H2.out.at cmd_len k hks'
        obtain ⟨rfl, -⟩ : ad' = some ⟨g', o', none⟩ ∧ _ := by simpa using hv'
        clear hv hv'
        have hgr : g < wr.heap.size := Nat.lt_of_lt_of_le hg HB.out.size
        have hgr' : g' < wr.heap.size := Nat.lt_of_lt_of_le hg' HB.out.size
        have q1 := K1.out l[k] (List.getElem_mem hks)
        have q2 := K2.out m[k] (List.getElem_mem hks')
        have hA := HR.out
        rw [sFrom_at sCmd l m k hks hks'] at hA
        obtain ⟨x, hx⟩ : ∃ x, l[k] = x := ⟨_, rfl⟩
        obtain ⟨y, hy⟩ : ∃ y, m[k] = y := ⟨_, rfl⟩
        rw [hx] at hc hA q1
        rw [hy] at hc' hA q2
        obtain ⟨xk, xr, xw, ⟨xp, xa, xb, ⟨xc, xd⟩, ⟨xe, xf⟩⟩, xv, xs⟩ := x
        obtain ⟨yk, yr, yw, ⟨yp, ya, yb, ⟨yc, yd⟩, ⟨ye, yf⟩⟩, yv, ys⟩ := y
        obtain ⟨xva, xvc, hxv, -, -⟩ := Many.len q1.1.1
        replace hxv : xv = .slice xva xs.length xvc := hxv
        generalize xs.length = xn at hxv
        subst hxv
        obtain ⟨yva, yvc, hyv, -, -⟩ := Many.len q2.1.1
        replace hyv : yv = .slice yva ys.length yvc := hyv
        generalize ys.length = yn at hyv
        subst hyv
        have ke0 : ∀ W, Below w.heap.size w W → _ := fun W hbw => same_cmd ⟨xk, xr, xw, ⟨xp, xa, xb, ⟨xc, xd⟩, ⟨xe, xf⟩⟩, .slice xva xn xvc, xs⟩ ⟨yk, yr, yw, ⟨yp, ya, yb, ⟨yc, yd⟩, ⟨ye, yf⟩⟩, .slice yva yn yvc, ys⟩ W (q1.below hbw) (q2.below hbw)
        obtain ⟨t, ht⟩ : ∃ t, sCmd ⟨xk, xr, xw, ⟨xp, xa, xb, ⟨xc, xd⟩, ⟨xe, xf⟩⟩, .slice xva xn xvc, xs⟩ ⟨yk, yr, yw, ⟨yp, ya, yb, ⟨yc, yd⟩, ⟨ye, yf⟩⟩, .slice yva yn yvc, ys⟩ = t := ⟨_, rfl⟩
        rw [ht] at hA ke0
        have ke : Hid (∀ W, Below w.heap.size w W → Calls Tryz.prog 63 #[.agg #[.int .i64 xk, .int .i64 xr, .int .i64 xw, .int .i64 xp, .int .i64 xa, .int .i64 xb, .int .i64 xc, .int .i64 xd, .int .i64 xe, .int .i64 xf, .slice xva xn xvc], .agg #[.int .i64 yk, .int .i64 yr, .int .i64 yw, .int .i64 yp, .int .i64 ya, .int .i64 yb, .int .i64 yc, .int .i64 yd, .int .i64 ye, .int .i64 yf, .slice yva yn yvc]] W fun e w' => e = .returned (.bool t) ∧ Below W.heap.size W w') := ke0
        have c0 := Grown.cell (w := wr) hgr ((HB.out.cell (p := ⟨g, o + k * 11, none⟩) hg).trans (hc 0 _ rfl))
        have d0 := Grown.cell (w := wr) hgr' ((HB.out.cell (p := ⟨g', o' + k * 11, none⟩) hg').trans (hc' 0 _ rfl))
        have c1 := Grown.cell (w := wr) hgr ((HB.out.cell (p := ⟨g, o + k * 11 + 1, none⟩) hg).trans (hc 1 _ rfl))
        have d1 := Grown.cell (w := wr) hgr' ((HB.out.cell (p := ⟨g', o' + k * 11 + 1, none⟩) hg').trans (hc' 1 _ rfl))
        have c2 := Grown.cell (w := wr) hgr ((HB.out.cell (p := ⟨g, o + k * 11 + 2, none⟩) hg).trans (hc 2 _ rfl))
        have d2 := Grown.cell (w := wr) hgr' ((HB.out.cell (p := ⟨g', o' + k * 11 + 2, none⟩) hg').trans (hc' 2 _ rfl))
        have c3 := Grown.cell (w := wr) hgr ((HB.out.cell (p := ⟨g, o + k * 11 + 3, none⟩) hg).trans (hc 3 _ rfl))
        have d3 := Grown.cell (w := wr) hgr' ((HB.out.cell (p := ⟨g', o' + k * 11 + 3, none⟩) hg').trans (hc' 3 _ rfl))
        have c4 := Grown.cell (w := wr) hgr ((HB.out.cell (p := ⟨g, o + k * 11 + 4, none⟩) hg).trans (hc 4 _ rfl))
        have d4 := Grown.cell (w := wr) hgr' ((HB.out.cell (p := ⟨g', o' + k * 11 + 4, none⟩) hg').trans (hc' 4 _ rfl))
        have c5 := Grown.cell (w := wr) hgr ((HB.out.cell (p := ⟨g, o + k * 11 + 5, none⟩) hg).trans (hc 5 _ rfl))
        have d5 := Grown.cell (w := wr) hgr' ((HB.out.cell (p := ⟨g', o' + k * 11 + 5, none⟩) hg').trans (hc' 5 _ rfl))
        have c6 := Grown.cell (w := wr) hgr ((HB.out.cell (p := ⟨g, o + k * 11 + 6, none⟩) hg).trans (hc 6 _ rfl))
        have d6 := Grown.cell (w := wr) hgr' ((HB.out.cell (p := ⟨g', o' + k * 11 + 6, none⟩) hg').trans (hc' 6 _ rfl))
        have c7 := Grown.cell (w := wr) hgr ((HB.out.cell (p := ⟨g, o + k * 11 + 7, none⟩) hg).trans (hc 7 _ rfl))
        have d7 := Grown.cell (w := wr) hgr' ((HB.out.cell (p := ⟨g', o' + k * 11 + 7, none⟩) hg').trans (hc' 7 _ rfl))
        have c8 := Grown.cell (w := wr) hgr ((HB.out.cell (p := ⟨g, o + k * 11 + 8, none⟩) hg).trans (hc 8 _ rfl))
        have d8 := Grown.cell (w := wr) hgr' ((HB.out.cell (p := ⟨g', o' + k * 11 + 8, none⟩) hg').trans (hc' 8 _ rfl))
        have c9 := Grown.cell (w := wr) hgr ((HB.out.cell (p := ⟨g, o + k * 11 + 9, none⟩) hg).trans (hc 9 _ rfl))
        have d9 := Grown.cell (w := wr) hgr' ((HB.out.cell (p := ⟨g', o' + k * 11 + 9, none⟩) hg').trans (hc' 9 _ rfl))
        have c10 := Grown.cell (w := wr) hgr ((HB.out.cell (p := ⟨g, o + k * 11 + 10, none⟩) hg).trans (hc 10 _ rfl))
        have d10 := Grown.cell (w := wr) hgr' ((HB.out.cell (p := ⟨g', o' + k * 11 + 10, none⟩) hg').trans (hc' 10 _ rfl))
        have hne := Grown.some wr
        have hki : (k : Int) < (L : Int) := by omega
        clear hc hc' hx hy ht ke0 HR q1 q2
        cases t
        · have HF : Hid (R = false) := by rw [← hA]; exact (Bool.false_and _)
          clear hA
          go_wp2
          refine wp_region_grow (by kernel_rfl) (by kernel_rfl) ?_
          repeat (go_big_quiet_step ((go_at_call 63; exact grow_of (ke.out _ (chain HB.out (Grown.below _))))))
          refine wpQuiet_nil ?_
          rintro _ ⟨G, rfl⟩
          go_wp2
          go_ret
          exact ⟨ret_bool HF.out.symm, chain HB.out G.below⟩
        · have HF : Hid (sFrom sCmd (l.drop (k + 1)) (m.drop (k + 1)) = R) := by rw [← hA]; exact (Bool.true_and _).symm
          clear hA
          go_wp2
          refine wp_region_grow (by kernel_rfl) (by kernel_rfl) ?_
          repeat (go_big_quiet_step ((go_at_call 63; exact grow_of (ke.out _ (chain HB.out (Grown.below _))))))
          refine wpQuiet_nil ?_
          rintro _ ⟨G, rfl⟩
          go_wp2
          go_roundw
          case rel => exact ⟨k + 1, by omega, by go_num, HF, chain HB.out G.below⟩
          case measure => simp [intOf]; omega
      · obtain rfl : k = L := by omega
        have HF : Hid (R = true) := by have h := HR.out; rw [List.drop_of_length_le (by rw [HL.out]; omega), List.drop_of_length_le (by rw [HM.out]; omega)] at h; exact h.symm
        go_wp2
        go_ret
        exact ⟨ret_bool HF.out.symm, HB.out⟩
  · have hLMi : ((L : Int) == (M : Int)) = false := by simp; omega
    have HF : Hid (sFrom sCmd l m = false) := sFrom_len _ _ _ (by rw [hL, hM]; exact hLM)
    clear h1 h2 hL hM
    go_enter Tryz.func31, Tryz.ntmps31
    go_wp2
    go_ret
    exact ⟨ret_bool HF.out.symm, Below.refl _ _⟩

set_option maxRecDepth 20000 in
set_option maxHeartbeats 1000000 in
theorem same_cols (v v' : Value) (l m : List IC.Col) (w : World) (h1 : Many w 66 4 IC.Col.cells v l) (h2 : Many w 66 4 IC.Col.cells v' m) (hn : l.length ≤ 1000000) (hn' : m.length ≤ 1000000) :
    Calls Tryz.prog 30 #[v, v'] w fun e w' => e = .returned (.bool (sFrom IC.sameCol l m)) ∧ Below w.heap.size w w' := by
  obtain ⟨ad, cap, hv, hl1, hl2⟩ := h1.len
  obtain ⟨ad', cap', hv', hl1', hl2'⟩ := h2.len
  unfold maxLen at hl2 hl2'
  obtain ⟨L, hL⟩ : ∃ L, l.length = L := ⟨_, rfl⟩
  obtain ⟨M, hM⟩ : ∃ M, m.length = M := ⟨_, rfl⟩
  have HL : Hid (l.length = L) := hL
  have HM : Hid (m.length = M) := hM
  rw [hL] at hv hl1 hn
  rw [hM] at hv' hl1' hn'
  subst hv
  subst hv'
  have H1 := hid' h1
  have H2 := hid' h2
  by_cases hLM : L = M
  · subst hLM
    obtain ⟨R, hR⟩ : ∃ R, sFrom IC.sameCol l m = R := ⟨_, rfl⟩
    rw [hR]
    clear h1 h2 hL hM
    go_enter Tryz.func30, Tryz.ntmps30
    go_wp2
    go_loopw [5] (fun i wr => ∃ k : Nat, k ≤ L ∧ i = .int .i64 k ∧ Hid (sFrom IC.sameCol (l.drop k) (m.drop k) = R) ∧ Hid (Below w.heap.size w wr)) (fun i _ => L - (intOf i).toNat)
    case atStart => exact ⟨0, by omega, rfl, hR, Below.refl _ _⟩
    case round =>
      obtain ⟨k, hk, rfl, HR, HB⟩ := hrel
      by_cases hkL : k < L
      · have hks : k < l.length := by rw [HL.out]; exact hkL
        have hks' : k < m.length := by rw [HM.out]; exact hkL
        obtain ⟨g, o, cap2, hv, hg, -, -, hc⟩ := H1.out.at col_len k hks
        obtain ⟨rfl, -⟩ : ad = some ⟨g, o, none⟩ ∧ _ := by simpa using hv
        obtain ⟨g', o', cap2', hv', hg', -, -, hc'⟩ := H2.out.at col_len k hks'
        obtain ⟨rfl, -⟩ : ad' = some ⟨g', o', none⟩ ∧ _ := by simpa using hv'
        clear hv hv'
        have hgr : g < wr.heap.size := Nat.lt_of_lt_of_le hg HB.out.size
        have hgr' : g' < wr.heap.size := Nat.lt_of_lt_of_le hg' HB.out.size
        have hA := HR.out
        rw [sFrom_at IC.sameCol l m k hks hks'] at hA
        obtain ⟨x, hx⟩ : ∃ x, l[k] = x := ⟨_, rfl⟩
        obtain ⟨y, hy⟩ : ∃ y, m[k] = y := ⟨_, rfl⟩
        rw [hx] at hc hA
        rw [hy] at hc' hA
        obtain ⟨xa, xb, xc, xd⟩ := x
        obtain ⟨ya, yb, yc, yd⟩ := y
        have ke0 : ∀ W, Below w.heap.size w W → _ := fun W hbw => (fun (_ : Below w.heap.size w W) => samecol_any ⟨xa, xb, xc, xd⟩ ⟨ya, yb, yc, yd⟩ W) hbw
        obtain ⟨t, ht⟩ : ∃ t, IC.sameCol ⟨xa, xb, xc, xd⟩ ⟨ya, yb, yc, yd⟩ = t := ⟨_, rfl⟩
        rw [ht] at hA ke0
        have ke : Hid (∀ W, Below w.heap.size w W → Calls Tryz.prog 40 #[.agg #[.int .u8 xa, .int .u8 xb, .int .u8 xc, .int .u8 xd], .agg #[.int .u8 ya, .int .u8 yb, .int .u8 yc, .int .u8 yd]] W fun e w' => e = .returned (.bool t) ∧ Below W.heap.size W w') := ke0
        have c0 := Grown.cell (w := wr) hgr ((HB.out.cell (p := ⟨g, o + k * 4, none⟩) hg).trans (hc 0 _ rfl))
        have d0 := Grown.cell (w := wr) hgr' ((HB.out.cell (p := ⟨g', o' + k * 4, none⟩) hg').trans (hc' 0 _ rfl))
        have c1 := Grown.cell (w := wr) hgr ((HB.out.cell (p := ⟨g, o + k * 4 + 1, none⟩) hg).trans (hc 1 _ rfl))
        have d1 := Grown.cell (w := wr) hgr' ((HB.out.cell (p := ⟨g', o' + k * 4 + 1, none⟩) hg').trans (hc' 1 _ rfl))
        have c2 := Grown.cell (w := wr) hgr ((HB.out.cell (p := ⟨g, o + k * 4 + 2, none⟩) hg).trans (hc 2 _ rfl))
        have d2 := Grown.cell (w := wr) hgr' ((HB.out.cell (p := ⟨g', o' + k * 4 + 2, none⟩) hg').trans (hc' 2 _ rfl))
        have c3 := Grown.cell (w := wr) hgr ((HB.out.cell (p := ⟨g, o + k * 4 + 3, none⟩) hg).trans (hc 3 _ rfl))
        have d3 := Grown.cell (w := wr) hgr' ((HB.out.cell (p := ⟨g', o' + k * 4 + 3, none⟩) hg').trans (hc' 3 _ rfl))
        have hne := Grown.some wr
        have hki : (k : Int) < (L : Int) := by omega
        clear hc hc' hx hy ht ke0 HR
        cases t
        · have HF : Hid (R = false) := by rw [← hA]; exact (Bool.false_and _)
          clear hA
          go_wp2
          refine wp_region_grow (by kernel_rfl) (by kernel_rfl) ?_
          repeat (go_big_quiet_step ((go_at_call 40; exact grow_of (ke.out _ (chain HB.out (Grown.below _))))))
          refine wpQuiet_nil ?_
          rintro _ ⟨G, rfl⟩
          go_wp2
          go_ret
          exact ⟨ret_bool HF.out.symm, chain HB.out G.below⟩
        · have HF : Hid (sFrom IC.sameCol (l.drop (k + 1)) (m.drop (k + 1)) = R) := by rw [← hA]; exact (Bool.true_and _).symm
          clear hA
          go_wp2
          refine wp_region_grow (by kernel_rfl) (by kernel_rfl) ?_
          repeat (go_big_quiet_step ((go_at_call 40; exact grow_of (ke.out _ (chain HB.out (Grown.below _))))))
          refine wpQuiet_nil ?_
          rintro _ ⟨G, rfl⟩
          go_wp2
          go_roundw
          case rel => exact ⟨k + 1, by omega, by go_num, HF, chain HB.out G.below⟩
          case measure => simp [intOf]; omega
      · obtain rfl : k = L := by omega
        have HF : Hid (R = true) := by have h := HR.out; rw [List.drop_of_length_le (by rw [HL.out]; omega), List.drop_of_length_le (by rw [HM.out]; omega)] at h; exact h.symm
        go_wp2
        go_ret
        exact ⟨ret_bool HF.out.symm, HB.out⟩
  · have hLMi : ((L : Int) == (M : Int)) = false := by simp; omega
    have HF : Hid (sFrom IC.sameCol l m = false) := sFrom_len _ _ _ (by rw [hL, hM]; exact hLM)
    clear h1 h2 hL hM
    go_enter Tryz.func30, Tryz.ntmps30
    go_wp2
    go_ret
    exact ⟨ret_bool HF.out.symm, Below.refl _ _⟩

set_option maxRecDepth 20000 in
set_option maxHeartbeats 1000000 in
theorem same_icon (x y : IC.Icon) (w : World) (hx : IconOk w x) (hy : IconOk w y) (bx : IconB x) (by' : IconB y) :
    Calls Tryz.prog 11 #[.agg x.cells.toArray, .agg y.cells.toArray] w fun e w' => e = .returned (.bool (sIcon x y)) ∧ Below w.heap.size w w' := by
  obtain ⟨xa, xb, xc, xv, xs, xu, xt⟩ := x
  obtain ⟨ya, yb, yc, yv, ys, yu, yt⟩ := y
  have k1 : Hid (∀ W, Below w.heap.size w W → Calls Tryz.prog 30 #[xv, yv] W fun e w' => e = .returned (.bool (sFrom IC.sameCol xs ys)) ∧ Below W.heap.size W w') := fun W hb => same_cols xv yv xs ys W (Row.below hx.1 hb) (Row.below hy.1 hb) (Nat.le_trans bx.cols (by omega)) (Nat.le_trans by'.cols (by omega))
  have k2 : Hid (∀ W, Below w.heap.size w W → Calls Tryz.prog 31 #[xu, yu] W fun e w' => e = .returned (.bool (sFrom sCmd xt yt)) ∧ Below W.heap.size W w') := fun W hb => same_cmds xu yu xt yt W (Row.below hx.2.1 hb) (Row.below hy.2.1 hb) (fun c hc => ⟨(hx.2.2 c hc).below hb, Nat.le_trans (bx.cmd c hc).2.1 (by omega), fun p hp => Nat.le_trans ((bx.cmd c hc).2.2 p hp) (by omega)⟩) (fun c hc => ⟨(hy.2.2 c hc).below hb, Nat.le_trans (by'.cmd c hc).2.1 (by omega), fun p hp => Nat.le_trans ((by'.cmd c hc).2.2 p hp) (by omega)⟩) (Nat.le_trans bx.cmds (by omega)) (Nat.le_trans by'.cmds (by omega))
  unfold sIcon
  simp only
  generalize sFrom IC.sameCol xs ys = t1 at k1 ⊢
  generalize sFrom sCmd xt yt = t2 at k2 ⊢
  obtain ⟨xva, xvc, hxv, -, -⟩ := Many.len hx.1
  replace hxv : xv = .slice xva xs.length xvc := hxv
  generalize xs.length = xn at hxv
  subst hxv
  obtain ⟨yva, yvc, hyv, -, -⟩ := Many.len hy.1
  replace hyv : yv = .slice yva ys.length yvc := hyv
  generalize ys.length = yn at hyv
  subst hyv
  obtain ⟨xua, xuc, hxu, -, -⟩ := Many.len hx.2.1
  replace hxu : xu = .slice xua xt.length xuc := hxu
  generalize xt.length = xm at hxu
  subst hxu
  obtain ⟨yua, yuc, hyu, -, -⟩ := Many.len hy.2.1
  replace hyu : yu = .slice yua yt.length yuc := hyu
  generalize yt.length = ym at hyu
  subst hyu
  clear hx hy bx by'
  simp only [IC.Icon.cells]
  go_enter Tryz.func11, Tryz.ntmps11
  cases h0 : (xa == ya)
  · go_wp2_with (first
      | (go_at_call 31; (with_reducible refine (k2.out _ (two_fin H1.out)).mono ?_); rintro e w2 ⟨rfl, hb2⟩
         have H2 := hid' (H1.out.trans (hb2.mono H1.out.size))
         obtain ⟨p2, q2, -⟩ := boxes2 H2.out
         obtain ⟨z2, y2⟩ := sizes2 H2.out
         clear hb2)
      | (go_at_call 30; (with_reducible refine (k1.out _ (two_none _ _ _)).mono ?_); rintro e w1 ⟨rfl, hb1⟩
         have H1 := hid' hb1
         obtain ⟨p1, q1, -⟩ := boxes2 hb1
         obtain ⟨z1, y1⟩ := sizes2 hb1
         clear hb1))
    go_ret
    exact ⟨ret_bool (by simp), by first | exact two_fin H2.out | exact two_fin H1.out | exact two_none _ _ _⟩
  · cases h1 : (xb == yb)
    · go_wp2_with (first
        | (go_at_call 31; (with_reducible refine (k2.out _ (two_fin H1.out)).mono ?_); rintro e w2 ⟨rfl, hb2⟩
           have H2 := hid' (H1.out.trans (hb2.mono H1.out.size))
           obtain ⟨p2, q2, -⟩ := boxes2 H2.out
           obtain ⟨z2, y2⟩ := sizes2 H2.out
           clear hb2)
        | (go_at_call 30; (with_reducible refine (k1.out _ (two_none _ _ _)).mono ?_); rintro e w1 ⟨rfl, hb1⟩
           have H1 := hid' hb1
           obtain ⟨p1, q1, -⟩ := boxes2 hb1
           obtain ⟨z1, y1⟩ := sizes2 hb1
           clear hb1))
      go_ret
      exact ⟨ret_bool (by simp), by first | exact two_fin H2.out | exact two_fin H1.out | exact two_none _ _ _⟩
    · cases h2 : (xc == yc)
      · go_wp2_with (first
          | (go_at_call 31; (with_reducible refine (k2.out _ (two_fin H1.out)).mono ?_); rintro e w2 ⟨rfl, hb2⟩
             have H2 := hid' (H1.out.trans (hb2.mono H1.out.size))
             obtain ⟨p2, q2, -⟩ := boxes2 H2.out
             obtain ⟨z2, y2⟩ := sizes2 H2.out
             clear hb2)
          | (go_at_call 30; (with_reducible refine (k1.out _ (two_none _ _ _)).mono ?_); rintro e w1 ⟨rfl, hb1⟩
             have H1 := hid' hb1
             obtain ⟨p1, q1, -⟩ := boxes2 hb1
             obtain ⟨z1, y1⟩ := sizes2 hb1
             clear hb1))
        go_ret
        exact ⟨ret_bool (by simp), by first | exact two_fin H2.out | exact two_fin H1.out | exact two_none _ _ _⟩
      · cases t1
        · go_wp2_with (first
            | (go_at_call 31; (with_reducible refine (k2.out _ (two_fin H1.out)).mono ?_); rintro e w2 ⟨rfl, hb2⟩
               have H2 := hid' (H1.out.trans (hb2.mono H1.out.size))
               obtain ⟨p2, q2, -⟩ := boxes2 H2.out
               obtain ⟨z2, y2⟩ := sizes2 H2.out
               clear hb2)
            | (go_at_call 30; (with_reducible refine (k1.out _ (two_none _ _ _)).mono ?_); rintro e w1 ⟨rfl, hb1⟩
               have H1 := hid' hb1
               obtain ⟨p1, q1, -⟩ := boxes2 hb1
               obtain ⟨z1, y1⟩ := sizes2 hb1
               clear hb1))
          go_ret
          exact ⟨ret_bool (by simp), by first | exact two_fin H2.out | exact two_fin H1.out | exact two_none _ _ _⟩
        · go_wp2_with (first
            | (go_at_call 31; (with_reducible refine (k2.out _ (two_fin H1.out)).mono ?_); rintro e w2 ⟨rfl, hb2⟩
               have H2 := hid' (H1.out.trans (hb2.mono H1.out.size))
               obtain ⟨p2, q2, -⟩ := boxes2 H2.out
               obtain ⟨z2, y2⟩ := sizes2 H2.out
               clear hb2)
            | (go_at_call 30; (with_reducible refine (k1.out _ (two_none _ _ _)).mono ?_); rintro e w1 ⟨rfl, hb1⟩
               have H1 := hid' hb1
               obtain ⟨p1, q1, -⟩ := boxes2 hb1
               obtain ⟨z1, y1⟩ := sizes2 hb1
               clear hb1))
          go_ret
          exact ⟨ret_bool (by simp), by first | exact two_fin H2.out | exact two_fin H1.out | exact two_none _ _ _⟩

end Go.Proofs.YtcnlkdoifogkbaaGreatDoor

/-
  What is the same but for its lists' handles; how long a made icon's bytes are.
-/
set_option linter.unusedVariables false
namespace Go.Proofs.YtcnlkdoifogkbaaGreatDoor
open Go.RowKit

namespace DP
theorem all2_map {α β : Type} (f : α → β) (E : α → α → Prop) (hE : ∀ x y, f x = f y → E x y) : ∀ (l m : List α), l.map f = m.map f → EP.All2 E l m
  | [], [], _ => trivial
  | [], y :: m, h => by cases h
  | x :: l, [], h => by cases h
  | x :: l, y :: m, h => by
    rw [List.map_cons, List.map_cons] at h
    injection h with h1 h2
    exact ⟨hE x y h1, all2_map f E hE l m h2⟩
theorem sameP_bare {p q : IC.Path} (h : barePath p = barePath q) : EP.SameP p q := by
  obtain ⟨a, b, c, d⟩ := p
  obtain ⟨a', b', c', d'⟩ := q
  unfold barePath at h
  simp only [IC.Path.mk.injEq] at h
  exact ⟨h.1, h.2.2.2, h.2.2.1⟩
theorem sameC_bare {c d : IC.Cmd} (h : bareCmd c = bareCmd d) : EP.SameC c d := by
  obtain ⟨k, r, wd, pn, vp, ps⟩ := c
  obtain ⟨k', r', wd', pn', vp', ps'⟩ := d
  unfold bareCmd at h
  simp only [IC.Cmd.mk.injEq] at h
  exact ⟨h.1, h.2.1, h.2.2.1, h.2.2.2.1, all2_map barePath EP.SameP (fun _ _ => sameP_bare) _ _ h.2.2.2.2.2⟩
theorem sameI_bare {i j : IC.Icon} (h : bare i = bare j) : EP.SameI i j := by
  obtain ⟨w, hh, s, vc, cs, vm, ms⟩ := i
  obtain ⟨w', hh', s', vc', cs', vm', ms'⟩ := j
  unfold bare at h
  simp only [IC.Icon.mk.injEq] at h
  exact ⟨h.1, h.2.1, h.2.2.1, h.2.2.2.2.1, all2_map bareCmd EP.SameC (fun _ _ => sameC_bare) _ _ h.2.2.2.2.2.2⟩

theorem mem_map {α β : Type} (f : α → β) {l m : List α} (h : l.map f = m.map f) {y : α} (hy : y ∈ m) : ∃ x ∈ l, f x = f y := by
  have : f y ∈ l.map f := by rw [h]; exact List.mem_map_of_mem hy
  obtain ⟨x, hx, e⟩ := List.mem_map.1 this
  exact ⟨x, hx, e⟩
theorem iconB_bare {i j : IC.Icon} (h : bare i = bare j) (hi : IconB i) : IconB j := by
  obtain ⟨w, hh, s, vc, cs, vm, ms⟩ := i
  obtain ⟨w', hh', s', vc', cs', vm', ms'⟩ := j
  unfold bare at h
  simp only [IC.Icon.mk.injEq] at h
  obtain ⟨e1, e2, e3, -, e4, -, e5⟩ := h
  obtain ⟨h1, h2, h3, h4, h5, h6⟩ := hi
  simp only at h1 h2 h3 h4 h5 h6
  subst e1
  subst e2
  subst e3
  subst e4
  have hl : ms.length = ms'.length := by have := congrArg List.length e5; simpa using this
  refine ⟨h1, h2, h3, h4, by show ms'.length ≤ 200; omega, fun d hd => ?_⟩
  obtain ⟨c, hc, e⟩ := mem_map bareCmd e5 hd
  obtain ⟨c1, c2, c3⟩ := h6 c hc
  obtain ⟨k, r, wd, pn, vp, ps⟩ := c
  obtain ⟨k', r', wd', pn', vp', ps'⟩ := d
  unfold bareCmd at e
  simp only [IC.Cmd.mk.injEq] at e
  obtain ⟨a1, a2, a3, a4, -, a5⟩ := e
  subst a1
  subst a2
  subst a3
  subst a4
  have hp : ps.length = ps'.length := by have := congrArg List.length a5; simpa using this
  have hps : ∀ p ∈ ps', PathB p ∧ p.segs.length ≤ 400 := fun p hp => by
    obtain ⟨p0, hp0, e0⟩ := mem_map barePath a5 hp
    have b1 := c1.paths p0 hp0
    have b2 := c3 p0 hp0
    obtain ⟨a, b, cc, d⟩ := p0
    obtain ⟨a', b', cc', d'⟩ := p
    unfold barePath at e0
    simp only [IC.Path.mk.injEq] at e0
    obtain ⟨f1, -, f2, f3⟩ := e0
    subst f1
    subst f2
    subst f3
    exact ⟨b1, b2⟩
  exact ⟨{ c1 with paths := fun p hp => (hps p hp).1, few := by have := c1.few; simp only at this ⊢; omega }, by show ps'.length ≤ 200; simp only at c2; omega, fun p hp => (hps p hp).2⟩
end DP

theorem small_path {p : IC.Path} (h : PathB p) (h4 : p.segs.length ≤ 4) : (EP.path p).length ≤ 400 := by
  unfold EP.path
  rw [List.length_append, List.length_append]
  have h0 := runs_bound p.segs
  have h1 := num_len (n := ((EP.runs p.segs).length * 2 + if p.cl = true then 1 else 0)) (by split <;> omega)
  have h2 := pt_length h.1
  have h3 := runsB_length (EP.runs p.segs) p.st p.segs h.1 h.2.1 fun r hr => by
    refine ⟨?_, Nat.le_trans (runs_count hr) (by omega)⟩
    have hk := (EP.runsOf_is (p.segs.map IC.Seg.k)).2
    have hr1 := hk.1 r hr
    have hm : r.1 ∈ EP.kindsOf (EP.runs p.segs) := List.mem_flatMap.2 ⟨r, hr, by simp; omega⟩
    have hm' : r.1 ∈ p.segs.map IC.Seg.k := by rw [← hk.2]; exact hm
    obtain ⟨s, hs, e⟩ := List.mem_map.1 hm'
    have := (h.2.1 s hs).1
    omega
  omega
theorem small_cmd {c : IC.Cmd} (h : CmdB c) (h2 : c.paths.length ≤ 3) (h4 : ∀ p ∈ c.paths, p.segs.length ≤ 4) : (EP.cmd c).length ≤ 1400 := by
  have hf := flat_le EP.path 400 c.paths fun p hp => small_path (h.paths p hp) (h4 p hp)
  have h1 := num_len (n := c.k - 1 + c.r * 2 + c.pn.k * 4) (by have := h.k; have := h.r; have := h.pk; omega)
  have h3 := num_len (n := c.wd) (by have := h.wd.2; omega)
  have h5 := paint_length h.pn
  have h6 := num_len (n := (c.paths.length : Int)) (by omega)
  unfold EP.cmd
  rw [List.length_append, List.length_append, List.length_append, List.length_append]
  by_cases hk : c.k = 2
  · rw [if_pos (by simp [hk])]; omega
  · rw [if_neg (by simp [hk]), List.length_nil]; omega
/-- A made icon's bytes are few. -/
theorem good_length {i : IC.Icon} (h : Good i) : (EP.icon i).length ≤ 6000 := by
  have hb := icon_chk h.chk
  have hf := flat_le EP.cmd 1400 i.cmds fun c hc => small_cmd (hb.cmd c hc).1 (h.cmds c hc).2.2.1.2 (fun p hp => ((h.cmds c hc).2.2.2 p hp).2.2.1.2)
  have hg := flat_le EP.col 4 i.cols fun c _ => by simp [EP.col]
  have h1 := num_len (n := i.w) (by have := h.w; omega)
  have h2 := num_len (n := i.h) (by have := h.h; omega)
  have h3 := num_len (n := i.s) (by have := h.s; omega)
  have h4 := num_len (n := (i.cols.length : Int)) (by have := hb.cols; omega)
  have h5 := num_len (n := (i.cmds.length : Int)) (by have := hb.cmds; omega)
  have h6 := h.few.1
  have h7 := h.few.2
  unfold EP.icon
  simp only [List.length_append, List.length_cons, List.length_nil]
  omega
theorem good_cols {i : IC.Icon} (h : Good i) : ∀ c ∈ i.cols, (0 ≤ c.r ∧ c.r < 256) ∧ (0 ≤ c.g ∧ c.g < 256) ∧ (0 ≤ c.b ∧ c.b < 256) ∧ (0 ≤ c.a ∧ c.a < 256) := fun c hc => by
  have := h.cols c hc
  unfold ColIn at this
  omega
theorem icon_four (i : IC.Icon) : 4 ≤ (EP.icon i).length := by
  unfold EP.icon
  simp only [List.length_append, List.length_cons, List.length_nil]
  omega

end Go.Proofs.YtcnlkdoifogkbaaGreatDoor

/-
  A writer writes a list of colors, an icon: walked over the program.
-/
import Derived.Lib.AppendStr
import Derived.Test.YtofmbedjbnbjlaaDoorEncBound
import Derived.Test.YtofmbedjbnbjlaaDoorEncCol
namespace Go.Proofs.YtofmbedjbnbjlaaDoor
open Go.RowKit

def Nothing (_ : World) (_ : IC.Col) : Prop := True

theorem wcol_int (q : Nat) (bs : List Nat) (c : IC.Col) (w : World) (h : Wr w q bs) (hc : ColIn c) (hl : bs.length ≤ 100000000000000) {V : World} (_ : Nothing V c) (_ : Below V.heap.size V w) :
    Calls Tryd.prog 56 #[.pointer (some ⟨q, 0, none⟩), .agg c.cells.toArray] w fun e w' => e = .returned (.tuple #[]) ∧ Wr w' q (bs ++ EP.col c) ∧ Wk q w w' := by
  obtain ⟨r, g, b, a⟩ := c
  obtain ⟨⟨r0, -⟩, ⟨g0, -⟩, ⟨b0, -⟩, ⟨a0, -⟩⟩ := hc
  obtain ⟨R, rfl⟩ : ∃ R : Nat, r = (R : Int) := ⟨r.toNat, by simp only at r0; omega⟩
  obtain ⟨G, rfl⟩ : ∃ R : Nat, g = (R : Int) := ⟨g.toNat, by simp only at g0; omega⟩
  obtain ⟨B, rfl⟩ : ∃ R : Nat, b = (R : Int) := ⟨b.toNat, by simp only at b0; omega⟩
  obtain ⟨A, rfl⟩ : ∃ R : Nat, a = (R : Int) := ⟨a.toNat, by simp only at a0; omega⟩
  exact wcol_any q bs R G B A w h hl

set_option maxRecDepth 20000 in
set_option maxHeartbeats 1000000 in
theorem wlist_col (q : Nat) (bs : List Nat) (v : Value) (l : List IC.Col) (w : World) (h : Wr w q bs) (hm : Many w 63 4 IC.Col.cells v l) (hok : ∀ x ∈ l, Nothing w x) (hb : ∀ x ∈ l, ColIn x) (hn : l.length ≤ 1000000) (hl : (bs ++ (EP.num l.length ++ l.flatMap EP.col)).length ≤ 100000000000000) :
    Calls Tryd.prog 55 #[.pointer (some ⟨q, 0, none⟩), v, .func (.func 56) #[.pointer (some ⟨q, 0, none⟩)] #[]] w fun e w' => e = .returned (.tuple #[]) ∧ Wr w' q (bs ++ (EP.num l.length ++ l.flatMap EP.col)) ∧ Wk q w w' := by
  obtain ⟨ad, cap, hv, hl1, hl2⟩ := hm.len
  unfold maxLen at hl2
  obtain ⟨L, hL⟩ : ∃ L, l.length = L := ⟨_, rfl⟩
  have HL : Hid (l.length = L) := hL
  rw [hL] at hv hl1 hn hl ⊢
  subst hv
  obtain ⟨full, hF⟩ : ∃ f, bs ++ (EP.num (L : Int) ++ l.flatMap EP.col) = f := ⟨_, rfl⟩
  rw [hF] at hl ⊢
  have HF : Hid (bs ++ EP.num (L : Int) ++ l.flatMap EP.col = full) := by show _ = _; rw [← hF, List.append_assoc]
  have HFL : Hid (full.length ≤ 100000000000000) := hl
  have kc : Hid (∀ W, Wr W q bs → Calls Tryd.prog 54 #[.pointer (some ⟨q, 0, none⟩), .int .i64 L] W fun e w' => e = .returned (.tuple #[]) ∧ Wr w' q (bs ++ EP.num L) ∧ Wk q W w') := fun W hW => wcount_any q bs L W hW (by omega) (prefix_len hF hl)
  have HB : Hid (∀ x ∈ l, ColIn x) := hb
  have HW : Hid (Wr w q bs) := h
  have HM : Hid (Many w 63 4 IC.Col.cells (.slice ad L cap) l ∧ ∀ x ∈ l, Nothing w x) := ⟨hm, hok⟩
  clear h hm hok hb hl hF hL
  go_enter Tryd.func55, Tryd.ntmps55
  go_wp2_with (go_at_call 54; refine (kc.out _ HW.out).mono ?_; rintro e w1 ⟨rfl, h1⟩
               have HW1 := hid' h1.1
               have HK1 := hid' h1.2
               have HM1 : Hid (Many w1 63 4 IC.Col.cells (.slice ad L cap) l ∧ ∀ x ∈ l, Nothing w1 x) := ⟨Row.wk HM.out.1 HW.out h1.2 (by decide) (by decide), fun _ _ => trivial⟩
               clear h1)
  go_loopw [14] (fun i wr => ∃ (k : Nat) (cs : List Nat), k ≤ L ∧ i = .int .i64 k ∧ Hid (Wr wr q cs) ∧ Hid (cs ++ (l.drop k).flatMap EP.col = full) ∧ Hid (Many wr 63 4 IC.Col.cells (.slice ad L cap) l ∧ ∀ x ∈ l, Nothing wr x) ∧ Hid (Wk q w wr)) (fun i _ => L - (intOf i).toNat)
  case atStart => exact ⟨0, _, by omega, rfl, HW1, HF, HM1, HK1⟩
  case round =>
    clear HW1 HM1 HK1 HM HW
    obtain ⟨k, cs, hk, rfl, HW, HE, HM, HK⟩ := hrel
    by_cases hkL : k < L
    · have hks : k < l.length := by rw [HL.out]; exact hkL
      obtain ⟨g, o, cap2, hv', hg, -, -, hc⟩ := HM.out.1.at col_len k hks
      obtain ⟨rfl, -⟩ : ad = some ⟨g, o, none⟩ ∧ _ := by simpa using hv'
      clear hv'
      have hok := HM.out.2 l[k] (List.getElem_mem hks)
      have hbx := HB.out l[k] (List.getElem_mem hks)
      have hE := HE.out
      rw [List.drop_eq_getElem_cons hks, List.flatMap_cons, ← List.append_assoc] at hE
      obtain ⟨x, hx⟩ : ∃ x, l[k] = x := ⟨_, rfl⟩
      rw [hx] at hc hok hbx hE
      have HNE : Hid (cs ++ EP.col x ++ (l.drop (k + 1)).flatMap EP.col = full) := hE
      have hlen : (cs ++ EP.col x).length ≤ 100000000000000 := prefix_len hE HFL.out
      obtain ⟨cr, cg, cb, ca⟩ := x
      have kk : Hid (∀ W, Below wr.heap.size wr W → Wr W q cs → Calls Tryd.prog 56 #[.pointer (some ⟨q, 0, none⟩), .agg #[.int .u8 cr, .int .u8 cg, .int .u8 cb, .int .u8 ca]] W fun e w' => e = .returned (.tuple #[]) ∧ Wr w' q (cs ++ EP.col ⟨cr, cg, cb, ca⟩) ∧ Wk q W w') := fun W hbw hW => wcol_int q cs ⟨cr, cg, cb, ca⟩ W hW hbx (len_l hlen) hok hbw
      generalize EP.col ⟨cr, cg, cb, ca⟩ = wy at kk HNE
      have c0 : wr.cell? ⟨g, o + k * 4, none⟩ = some (.int .u8 cr) := hc 0 _ rfl
      have c1 : wr.cell? ⟨g, o + k * 4 + 1, none⟩ = some (.int .u8 cg) := hc 1 _ rfl
      have c2 : wr.cell? ⟨g, o + k * 4 + 2, none⟩ = some (.int .u8 cb) := hc 2 _ rfl
      have c3 : wr.cell? ⟨g, o + k * 4 + 3, none⟩ = some (.int .u8 ca) := hc 3 _ rfl
      clear hc hx hE hlen hok hbx
      go_wp2_with (go_at_call 56; refine (kk.out _ ((Below.refl _ _).alloc (Nat.le_refl _) _) (HW.out.alloc _)).mono ?_; rintro e w2 ⟨rfl, h2⟩
                   have HW2 := hid' h2.1
                   have HM2 : Hid (Many w2 63 4 IC.Col.cells (.slice (some ⟨g, o, none⟩) L cap) l ∧ ∀ x ∈ l, Nothing w2 x) := ⟨Row.wk (Row.below HM.out.1 ((Below.refl _ _).alloc (Nat.le_refl _) _)) (HW.out.alloc _) h2.2 (by decide) (by decide), fun _ _ => trivial⟩
                   have HK2 : Hid (Wk q w w2) := (HK.out.alloc _).trans h2.2
                   clear h2)
      go_roundw
      case rel => exact ⟨k + 1, _, by omega, by go_num, HW2, HNE, HM2, HK2⟩
      case measure => simp [intOf]; omega
    · obtain rfl : k = L := by omega
      go_wp2
      go_end0
      have hE := HE.out
      rw [List.drop_eq_nil_of_le (by rw [HL.out]; omega)] at hE
      have hE' : cs = full := by rw [← hE]; simp
      rw [← hE']
      exact ⟨rfl, HW.out, HK.out⟩

theorem five_cells {w : World} {b : Nat} {t : TypeId} {v0 v1 v2 v3 v4 : Value} (h : Blk w b t #[v0, v1, v2, v3, v4]) : w.cell? ⟨b, 0, none⟩ = some v0 ∧ w.cell? ⟨b, 1, none⟩ = some v1 ∧ w.cell? ⟨b, 2, none⟩ = some v2 ∧ w.cell? ⟨b, 3, none⟩ = some v3 ∧ w.cell? ⟨b, 4, none⟩ = some v4 :=
  ⟨h.cell 0, h.cell 1, h.cell 2, h.cell 3, h.cell 4⟩

/-- The lists of an icon, read. -/
def Lists (w : World) (vc : Value) (cols : List IC.Col) (vm : Value) (cmds : List IC.Cmd) : Prop := Many w 63 4 IC.Col.cells vc cols ∧ Many w 45 11 IC.Cmd.cells vm cmds ∧ ∀ c ∈ cmds, CmdOk w c
theorem Lists.wk {w w' : World} {q : Nat} {bs : List Nat} {vc vm : Value} {cols : List IC.Col} {cmds : List IC.Cmd} (h : Lists w vc cols vm cmds) (hq : Wr w q bs) (hm : Wk q w w') : Lists w' vc cols vm cmds := ⟨Row.wk h.1 hq hm (by decide) (by decide), Row.wk h.2.1 hq hm (by decide) (by decide), fun c hc => (h.2.2 c hc).wk hq hm⟩
theorem Lists.below {w w' : World} {vc vm : Value} {cols : List IC.Col} {cmds : List IC.Cmd} (h : Lists w vc cols vm cmds) (hb : Below w.heap.size w w') : Lists w' vc cols vm cmds := IconOk.below (i := ⟨0, 0, 0, vc, cols, vm, cmds⟩) h hb

set_option maxRecDepth 20000 in
set_option maxHeartbeats 1000000 in
theorem wicon_any (q : Nat) (i : IC.Icon) (w : World) (h : Wr w q []) (hi : IconOk w i) (hc : ∀ c ∈ i.cols, ColIn c) (hb : IconB i) :
    Calls Tryd.prog 36 #[.pointer (some ⟨q, 0, none⟩), .agg i.cells.toArray] w fun e w' => e = .returned (.tuple #[]) ∧ Wr w' q (EP.icon i) ∧ Wk q w w' := by
  have hl := icon_length hb
  obtain ⟨iw, ih, is, vc, cols, vm, cmds⟩ := i
  obtain ⟨⟨w0, w1⟩, ⟨h0, h1⟩, ⟨s0, s1⟩, hcols, hcmds, hcmd⟩ := hb
  simp only at w0 w1 h0 h1 s0 s1 hcols hcmds hcmd hc
  obtain ⟨W, rfl⟩ : ∃ W : Nat, iw = (W : Int) := ⟨iw.toNat, by omega⟩
  obtain ⟨H, rfl⟩ : ∃ H : Nat, ih = (H : Int) := ⟨ih.toNat, by omega⟩
  obtain ⟨S, rfl⟩ : ∃ S : Nat, is = (S : Int) := ⟨is.toNat, by omega⟩
  obtain ⟨full, hF⟩ : ∃ f, EP.icon ⟨W, H, S, vc, cols, vm, cmds⟩ = f := ⟨_, rfl⟩
  rw [hF] at hl ⊢
  unfold EP.icon at hF
  simp only [← List.append_assoc] at hF
  have hl' := hl
  rw [← hF] at hl'
  have l5 := len_l (len_l hl')
  have l4 := len_l (len_l l5)
  have l3 := len_l l4
  have l2 := len_l l3
  have l1 := len_l l2
  have HLi : Hid (Lists w vc cols vm cmds) := hi
  obtain ⟨ad, cap, hbk, ho⟩ := h
  obtain ⟨adc, capc, hvc, -, -⟩ := Many.len hi.1
  replace hvc : vc = .slice adc cols.length capc := hvc
  obtain ⟨adm, capm, hvm, -, -⟩ := Many.len hi.2.1
  replace hvm : vm = .slice adm cmds.length capm := hvm
  have kn : Hid (∀ X cs (n : Nat), n ≤ 100000 → cs.length ≤ 10000000000 → Wr X q cs → Calls Tryd.prog 54 #[.pointer (some ⟨q, 0, none⟩), .int .i64 n] X fun e w' => e = .returned (.tuple #[]) ∧ Wr w' q (cs ++ EP.num n) ∧ Wk q X w') := fun X cs n hn hcs hX => wcount_any q cs n X hX (by omega) (by omega)
  have kcol : Hid (∀ X, Wr X q ([71, 76, 89, 49] ++ EP.num W ++ EP.num H ++ EP.num S) → Many X 63 4 IC.Col.cells vc cols → Calls Tryd.prog 55 #[.pointer (some ⟨q, 0, none⟩), vc, .func (.func 56) #[.pointer (some ⟨q, 0, none⟩)] #[]] X fun e w' => e = .returned (.tuple #[]) ∧ Wr w' q ([71, 76, 89, 49] ++ EP.num W ++ EP.num H ++ EP.num S ++ EP.num cols.length ++ cols.flatMap EP.col) ∧ Wk q X w') := fun X hX hm => by
    have := wlist_col q _ vc cols X hX hm (fun _ _ => trivial) hc (by omega) (by rw [← List.append_assoc]; omega)
    rw [← List.append_assoc] at this
    exact this
  have kcmd : Hid (∀ X, Wr X q ([71, 76, 89, 49] ++ EP.num W ++ EP.num H ++ EP.num S ++ EP.num cols.length ++ cols.flatMap EP.col) → Many X 45 11 IC.Cmd.cells vm cmds → (∀ c ∈ cmds, CmdOk X c) → Calls Tryd.prog 57 #[.pointer (some ⟨q, 0, none⟩), vm, .func (.func 58) #[.pointer (some ⟨q, 0, none⟩)] #[]] X fun e w' => e = .returned (.tuple #[]) ∧ Wr w' q full ∧ Wk q X w') := fun X hX hm hok => by
    have := wlist_cmd q _ vm cmds X hX hm hok (fun c hc => (hcmd c hc).1) (by omega) (by rw [← List.append_assoc, hF]; omega)
    rw [← List.append_assoc, hF] at this
    exact this
  have hmf : ∀ (fn : Fn) (first cap : Array Value) (w : World), (Instr.makeFunc fn first cap).run Tryd.prog w = .ok (.func fn first cap) w := fun _ _ _ _ => rfl
  have L1 := hid' l1
  have L2 := hid' l2
  have L3 := hid' l3
  have hq := hbk.lt
  have HB : Hid (Blk w q 87 #[.slice ad 0 cap]) := hbk
  have HO : Hid (w.ownsRow (q + 1) 5 1 (.slice ad 0 cap) 0 (vals [])) := ho
  have HQ : Hid (w.heap.size ≠ q) := by show _ ≠ _; omega
  obtain ⟨i0, hi0, hz0, hz1, hz2⟩ := info_parts infoByte
  subst hvc
  subst hvm
  generalize cols.length = nc at *
  generalize cmds.length = nm at *
  have hbx := blk_new w 30 #[.int .i64 W, .int .i64 H, .int .i64 S, .slice adc nc capc, .slice adm nm capm]
  have HB0 := hid' (hbk.alloc (.cells #[.int .i64 W, .int .i64 H, .int .i64 S, .slice adc nc capc, .slice adm nm capm] 30))
  have HO0 := hid' (ho.alloc (.cells #[.int .i64 W, .int .i64 H, .int .i64 S, .slice adc nc capc, .slice adm nm capm] 30))
  have HX0 := hid' hbx
  have HW0 : Hid (Wr (w.alloc (.cells #[.int .i64 W, .int .i64 H, .int .i64 S, .slice adc nc capc, .slice adm nm capm] 30)) q []) := ⟨ad, cap, HB0.out, HO0.out⟩
  have HL0 := hid' (HLi.out.below ((Below.refl _ _).alloc (Nat.le_refl _) (.cells #[.int .i64 W, .int .i64 H, .int .i64 S, .slice adc nc capc, .slice adm nm capm] 30)))
  have c0 : w.cell? ⟨q, 0, none⟩ = some (.slice ad 0 cap) := hbk.cell 0
  have f0 : w.frozen? ⟨q, 0, none⟩ = false := hbk.frozen 0
  clear hi hl hl' l1 l2 l3 l4 l5 hF hc hcmd hbk ho hbx
  simp only [IC.Icon.cells]
  go_enter Tryd.func36, Tryd.ntmps36
  go_wp2_with (first
    | (at_builtin; refine Lib.wpList_append_own_string _ rfl (.tmp 8) (.const (.string ⟨#[71, 76, 89, 49]⟩)) 33 9 rfl (q + 1) 5 i0 Tryd.underlying33 Tryd.underlying9 hi0 hz0 hz1 hz2 (.slice ad 0 cap) 0 (vals []) rfl HO0.out ⟨#[71, 76, 89, 49]⟩ rfl (by decide) (by decide) (by simp; omega) ?_
       intro v' w2 ho2 hg2 _
       obtain ⟨ad', cap', rfl⟩ := own_shape ho2
       have HD := hid' (wr_done (bs := []) (new := [71, 76, 89, 49]) rfl rfl HB0.out HO0.out hg2 ho2)
       obtain ⟨k0, k1⟩ : w2.cell? ⟨q, 0, none⟩ = some (.slice ad 0 cap) ∧ w2.frozen? ⟨q, 0, none⟩ = false := grown_own HB0.out HO0.out hg2
       have hX2 : Blk w2 w.heap.size 30 #[.int .i64 W, .int .i64 H, .int .i64 S, .slice adc nc capc, .slice adm nm capm] := (hg2.block _ HX0.out.lt (fun e => by have := (HO.out.lt _ e.symm).2; omega)).trans HX0.out
       obtain ⟨x0, x1, x2, x3, x4⟩ := five_cells hX2
       have H1 : Hid (Bx w q w.heap.size 30 #[.int .i64 W, .int .i64 H, .int .i64 S, .slice adc nc capc, .slice adm nm capm] [71, 76, 89, 49] (w2.setCell ⟨q, 0, none⟩ (.slice ad' (0 + 4) cap'))) := ⟨HD.out.1, ((Wk.refl q w).alloc _).trans HD.out.2, HX0.out.wk HD.out.2 HQ.out (by decide)⟩
       have HL1 := hid' (HL0.out.wk HW0.out HD.out.2)
       clear ho2 hg2 hX2)
    | (go_at_call 54; (with_reducible refine (kn.out _ _ W (by omega) L1.out H1.out.wr).mono ?_); rintro e w3 ⟨rfl, h3⟩
       have HL2 := hid' (HL1.out.wk H1.out.wr h3.2)
       have H2 := hid' (H1.out.step (by decide) HQ.out h3)
       obtain ⟨y0, y1, y2, y3, y4⟩ := five_cells H2.out.box
       clear h3)
    | (go_at_call 54; (with_reducible refine (kn.out _ _ H (by omega) L2.out H2.out.wr).mono ?_); rintro e w4 ⟨rfl, h4⟩
       have HL3 := hid' (HL2.out.wk H2.out.wr h4.2)
       have H3 := hid' (H2.out.step (by decide) HQ.out h4)
       obtain ⟨z0, z1, z2, z3, z4⟩ := five_cells H3.out.box
       clear h4)
    | (go_at_call 54; (with_reducible refine (kn.out _ _ S (by omega) L3.out H3.out.wr).mono ?_); rintro e w5 ⟨rfl, h5⟩
       have HL4 := hid' (HL3.out.wk H3.out.wr h5.2)
       have H4 := hid' (H3.out.step (by decide) HQ.out h5)
       obtain ⟨u0, u1, u2, u3, u4⟩ := five_cells H4.out.box
       clear h5)
    | (go_at_call 55; refine (kcol.out _ H4.out.wr HL4.out.1).mono ?_; rintro e w6 ⟨rfl, h6⟩
       have HL5 := hid' (HL4.out.wk H4.out.wr h6.2)
       have H5 := hid' (H4.out.step (by decide) HQ.out h6)
       obtain ⟨v0, v1, v2, v3, v4⟩ := five_cells H5.out.box
       clear h6)
    | (go_at_call 57; refine (kcmd.out _ H5.out.wr HL5.out.2.1 HL5.out.2.2).mono ?_; rintro e w7 ⟨rfl, h7⟩))
  go_end0
  exact ⟨rfl, h7.1, H5.out.wk.trans h7.2⟩

end Go.Proofs.YtofmbedjbnbjlaaDoor

/-
  A writer writes a command, a list of commands: walked over the program.
-/
import Derived.Test.YtofmbedjbnbjlaaDoorEncList
namespace Go.Proofs.YtofmbedjbnbjlaaDoor
open Go.RowKit

theorem eleven_cells {w : World} {b : Nat} {t : TypeId} {v0 v1 v2 v3 v4 v5 v6 v7 v8 v9 v10 : Value} (h : Blk w b t #[v0, v1, v2, v3, v4, v5, v6, v7, v8, v9, v10]) : w.cell? ⟨b, 0, none⟩ = some v0 ∧ w.cell? ⟨b, 1, none⟩ = some v1 ∧ w.cell? ⟨b, 2, none⟩ = some v2 ∧ w.cell? ⟨b, 3, none⟩ = some v3 ∧ w.cell? ⟨b, 4, none⟩ = some v4 ∧ w.cell? ⟨b, 5, none⟩ = some v5 ∧ w.cell? ⟨b, 6, none⟩ = some v6 ∧ w.cell? ⟨b, 7, none⟩ = some v7 ∧ w.cell? ⟨b, 8, none⟩ = some v8 ∧ w.cell? ⟨b, 9, none⟩ = some v9 ∧ w.cell? ⟨b, 10, none⟩ = some v10 :=
  ⟨h.cell 0, h.cell 1, h.cell 2, h.cell 3, h.cell 4, h.cell 5, h.cell 6, h.cell 7, h.cell 8, h.cell 9, h.cell 10⟩

structure CmdB (c : IC.Cmd) : Prop where
  k : c.k = 1 ∨ c.k = 2
  r : 0 ≤ c.r ∧ c.r ≤ 1000
  wd : NumB c.wd
  pk : 0 ≤ c.pn.k ∧ c.pn.k ≤ 1000
  pn : PaintB c.pn
  few : c.paths.length ≤ 1000000
  paths : ∀ p ∈ c.paths, PathB p

set_option maxRecDepth 20000 in
set_option maxHeartbeats 1000000 in
theorem wcmd_any (q : Nat) (bs : List Nat) (c : IC.Cmd) (w : World) (h : Wr w q bs) (hc : CmdOk w c) (hb : CmdB c) (hl : (bs ++ EP.cmd c).length ≤ 100000000000000) :
    Calls Tryd.prog 58 #[.pointer (some ⟨q, 0, none⟩), .agg c.cells.toArray] w fun e w' => e = .returned (.tuple #[]) ∧ Wr w' q (bs ++ EP.cmd c) ∧ Wk q w w' := by
  obtain ⟨ck, cr, cw, ⟨pk, pa, pb, ⟨px, py⟩, ⟨qx, qy⟩⟩, vp, paths⟩ := c
  obtain ⟨hk, hr, hwd, hpk, hpn, hfew, hpaths⟩ := hb
  simp only at hk hr hwd hpk hpn hfew hpaths
  obtain ⟨ad, cap, hv, -, -⟩ := hc.1.len
  replace hv : vp = .slice ad paths.length cap := hv
  have HM : Hid (Many w 51 4 IC.Path.cells vp paths ∧ ∀ x ∈ paths, PathOk w x) := hc
  obtain ⟨F, hF⟩ : ∃ F : Nat, ck - 1 + cr * 2 + pk * 4 = (F : Int) := ⟨(ck - 1 + cr * 2 + pk * 4).toNat, by omega⟩
  have hFb : F ≤ 10000000 := by omega
  obtain ⟨D, rfl⟩ : ∃ D : Nat, cw = (D : Int) := ⟨cw.toNat, by have := hwd.1; omega⟩
  have hD : D ≤ 9223372036854775807 := by have := hwd.2; omega
  obtain ⟨full, hFu⟩ : ∃ f, bs ++ EP.cmd ⟨ck, cr, D, ⟨pk, pa, pb, ⟨px, py⟩, ⟨qx, qy⟩⟩, vp, paths⟩ = f := ⟨_, rfl⟩
  rw [hFu] at hl ⊢
  unfold EP.cmd at hFu
  simp only [hF] at hFu
  simp only [← List.append_assoc] at hFu
  have hq := h.lt
  have H0 : Hid (Bx w q w.heap.size 45 #[.int .i64 ck, .int .i64 cr, .int .i64 D, .int .i64 pk, .int .i64 pa, .int .i64 pb, .int .i64 px, .int .i64 py, .int .i64 qx, .int .i64 qy, vp] bs (w.alloc (.cells #[.int .i64 ck, .int .i64 cr, .int .i64 D, .int .i64 pk, .int .i64 pa, .int .i64 pb, .int .i64 px, .int .i64 py, .int .i64 qx, .int .i64 qy, vp] 45))) := Bx.new h _ _
  have HM0 : Hid (Many (w.alloc (.cells #[.int .i64 ck, .int .i64 cr, .int .i64 D, .int .i64 pk, .int .i64 pa, .int .i64 pb, .int .i64 px, .int .i64 py, .int .i64 qx, .int .i64 qy, vp] 45)) 51 4 IC.Path.cells vp paths ∧ ∀ x ∈ paths, PathOk (w.alloc (.cells #[.int .i64 ck, .int .i64 cr, .int .i64 D, .int .i64 pk, .int .i64 pa, .int .i64 pb, .int .i64 px, .int .i64 py, .int .i64 qx, .int .i64 qy, vp] 45)) x) := ⟨Row.below HM.out.1 ((Below.refl _ _).alloc (Nat.le_refl _) _), fun x hx => (HM.out.2 x hx).below ((Below.refl _ _).alloc (Nat.le_refl _) _)⟩
  have HQ : Hid (w.heap.size ≠ q) := by show _ ≠ _; omega
  have hfl := hl
  rw [← hFu] at hfl
  have l4 := len_l (len_l hfl)
  have l3 := len_l l4
  have l2 := len_l l3
  have l1 := len_l l2
  have kc : Hid (∀ W, Wr W q bs → Calls Tryd.prog 54 #[.pointer (some ⟨q, 0, none⟩), .int .i64 F] W fun e w' => e = .returned (.tuple #[]) ∧ Wr w' q (bs ++ EP.num F) ∧ Wk q W w') := fun W hW => wcount_any q bs F W hW (by omega) l1
  have kp : Hid (∀ W cs, cs ++ EP.paint ⟨pk, pa, pb, ⟨px, py⟩, ⟨qx, qy⟩⟩ ++ EP.num paths.length ++ paths.flatMap EP.path = full → Wr W q cs → Calls Tryd.prog 74 #[.pointer (some ⟨q, 0, none⟩), .agg #[.int .i64 pk, .int .i64 pa, .int .i64 pb, .int .i64 px, .int .i64 py, .int .i64 qx, .int .i64 qy]] W fun e w' => e = .returned (.tuple #[]) ∧ Wr w' q (cs ++ EP.paint ⟨pk, pa, pb, ⟨px, py⟩, ⟨qx, qy⟩⟩) ∧ Wk q W w') := fun W cs hcs hW => wpaint_any q cs _ W hW hpn (by have := hl; rw [← hcs] at this; exact len_l (len_l this))
  have kl : Hid (∀ W cs, cs ++ EP.num paths.length ++ paths.flatMap EP.path = full → Wr W q cs → Many W 51 4 IC.Path.cells vp paths → (∀ x ∈ paths, PathOk W x) → Calls Tryd.prog 75 #[.pointer (some ⟨q, 0, none⟩), vp, .func (.func 76) #[.pointer (some ⟨q, 0, none⟩)] #[]] W fun e w' => e = .returned (.tuple #[]) ∧ Wr w' q full ∧ Wk q W w') := fun W cs hcs hW h1 h2 => by
    have := wlist_path q cs vp paths W hW h1 h2 hpaths hfew (by rw [← List.append_assoc, hcs]; exact hl)
    rw [← List.append_assoc, hcs] at this
    exact this
  have hmf : ∀ (fn : Fn) (first cap : Array Value) (w : World), (Instr.makeFunc fn first cap).run Tryd.prog w = .ok (.func fn first cap) w := fun _ _ _ _ => rfl
  have hk1 : 1 ≤ ck ∧ ck ≤ 2 := by omega
  have hkk1 := hk1.1
  have hkk2 := hk1.2
  have r1 := hr.1
  have r2 := hr.2
  have p1 := hpk.1
  have p2 := hpk.2
  have HFF : Hid (ck - 1 + cr * 2 + pk * 4 = (F : Int)) := hF
  subst hv
  simp only [IC.Cmd.cells]
  rcases hk with hk | hk
  · have hk2 : (ck == 2) = false := by rw [hk]; rfl
    rw [hk2] at hFu
    have HFu : Hid (bs ++ EP.num F ++ EP.paint ⟨pk, pa, pb, ⟨px, py⟩, ⟨qx, qy⟩⟩ ++ EP.num paths.length ++ paths.flatMap EP.path = full) := by show _ = _; rw [← hFu]; simp
    clear h hc hl hfl l1 l2 l3 l4 hFu hk hpn hpaths HM hwd hk1 hr hpk hF
    go_enter Tryd.func58, Tryd.ntmps58
    go_wp2_with (first
      | (go_at_call 54; (try rw [HFF.out]); refine (kc.out _ H0.out.wr).mono ?_; rintro e w1 ⟨rfl, h1⟩
         have HM1 : Hid (Many w1 51 4 IC.Path.cells (.slice ad paths.length cap) paths ∧ ∀ x ∈ paths, PathOk w1 x) := ⟨Row.wk HM0.out.1 H0.out.wr h1.2 (by decide) (by decide), fun x hx => (HM0.out.2 x hx).wk H0.out.wr h1.2⟩
         have H1 := hid' (H0.out.step (by decide) HQ.out h1)
         obtain ⟨c0, c1, c2, c3, c4, c5, c6, c7, c8, c9, c10⟩ := eleven_cells H1.out.box
         clear h1)
      | (go_at_call 74; refine (kp.out _ _ HFu.out H1.out.wr).mono ?_; rintro e w3 ⟨rfl, h3⟩
         have HM3 : Hid (Many w3 51 4 IC.Path.cells (.slice ad paths.length cap) paths ∧ ∀ x ∈ paths, PathOk w3 x) := ⟨Row.wk HM1.out.1 H1.out.wr h3.2 (by decide) (by decide), fun x hx => (HM1.out.2 x hx).wk H1.out.wr h3.2⟩
         have H3 := hid' (H1.out.step (by decide) HQ.out h3)
         obtain ⟨e0, e1, e2, e3, e4, e5, e6, e7, e8, e9, e10⟩ := eleven_cells H3.out.box
         clear h3)
      | (go_at_call 75; refine (kl.out _ _ HFu.out H3.out.wr HM3.out.1 HM3.out.2).mono ?_; rintro e w4 ⟨rfl, h4⟩))
    go_end0
    exact ⟨rfl, h4.1, H3.out.wk.trans h4.2⟩
  · have hk2 : (ck == 2) = true := by rw [hk]; rfl
    rw [hk2] at hFu
    have HFu : Hid (bs ++ EP.num F ++ EP.num D ++ EP.paint ⟨pk, pa, pb, ⟨px, py⟩, ⟨qx, qy⟩⟩ ++ EP.num paths.length ++ paths.flatMap EP.path = full) := by show _ = _; rw [← hFu]; simp
    have kd : Hid (∀ W, Wr W q (bs ++ EP.num F) → Calls Tryd.prog 73 #[.pointer (some ⟨q, 0, none⟩), .int .u64 D] W fun e w' => e = .returned (.tuple #[]) ∧ Wr w' q (bs ++ EP.num F ++ EP.num D) ∧ Wk q W w') := fun W hW => wnum_any q _ D W hW (by omega) l2
    clear h hc hl hfl l1 l2 l3 l4 hFu hk hpn hpaths HM hwd hk1 hr hpk hF
    go_enter Tryd.func58, Tryd.ntmps58
    go_wp2_with (first
      | (go_at_call 54; (try rw [HFF.out]); refine (kc.out _ H0.out.wr).mono ?_; rintro e w1 ⟨rfl, h1⟩
         have HM1 : Hid (Many w1 51 4 IC.Path.cells (.slice ad paths.length cap) paths ∧ ∀ x ∈ paths, PathOk w1 x) := ⟨Row.wk HM0.out.1 H0.out.wr h1.2 (by decide) (by decide), fun x hx => (HM0.out.2 x hx).wk H0.out.wr h1.2⟩
         have H1 := hid' (H0.out.step (by decide) HQ.out h1)
         obtain ⟨c0, c1, c2, c3, c4, c5, c6, c7, c8, c9, c10⟩ := eleven_cells H1.out.box
         clear h1)
      | (go_at_call 73; refine (kd.out _ H1.out.wr).mono ?_; rintro e w2 ⟨rfl, h2⟩
         have HM2 : Hid (Many w2 51 4 IC.Path.cells (.slice ad paths.length cap) paths ∧ ∀ x ∈ paths, PathOk w2 x) := ⟨Row.wk HM1.out.1 H1.out.wr h2.2 (by decide) (by decide), fun x hx => (HM1.out.2 x hx).wk H1.out.wr h2.2⟩
         have H2 := hid' (H1.out.step (by decide) HQ.out h2)
         obtain ⟨d0, d1, d2, d3, d4, d5, d6, d7, d8, d9, d10⟩ := eleven_cells H2.out.box
         clear h2)
      | (go_at_call 74; refine (kp.out _ _ HFu.out H2.out.wr).mono ?_; rintro e w3 ⟨rfl, h3⟩
         have HM3 : Hid (Many w3 51 4 IC.Path.cells (.slice ad paths.length cap) paths ∧ ∀ x ∈ paths, PathOk w3 x) := ⟨Row.wk HM2.out.1 H2.out.wr h3.2 (by decide) (by decide), fun x hx => (HM2.out.2 x hx).wk H2.out.wr h3.2⟩
         have H3 := hid' (H2.out.step (by decide) HQ.out h3)
         obtain ⟨e0, e1, e2, e3, e4, e5, e6, e7, e8, e9, e10⟩ := eleven_cells H3.out.box
         clear h3)
      | (go_at_call 75; refine (kl.out _ _ HFu.out H3.out.wr HM3.out.1 HM3.out.2).mono ?_; rintro e w4 ⟨rfl, h4⟩))
    go_end0
    exact ⟨rfl, h4.1, H3.out.wk.trans h4.2⟩

set_option maxRecDepth 20000 in
set_option maxHeartbeats 1000000 in
theorem wlist_cmd (q : Nat) (bs : List Nat) (v : Value) (l : List IC.Cmd) (w : World) (h : Wr w q bs) (hm : Many w 45 11 IC.Cmd.cells v l) (hok : ∀ x ∈ l, CmdOk w x) (hb : ∀ x ∈ l, CmdB x) (hn : l.length ≤ 1000000) (hl : (bs ++ (EP.num l.length ++ l.flatMap EP.cmd)).length ≤ 100000000000000) :
    Calls Tryd.prog 57 #[.pointer (some ⟨q, 0, none⟩), v, .func (.func 58) #[.pointer (some ⟨q, 0, none⟩)] #[]] w fun e w' => e = .returned (.tuple #[]) ∧ Wr w' q (bs ++ (EP.num l.length ++ l.flatMap EP.cmd)) ∧ Wk q w w' := by
  obtain ⟨ad, cap, hv, hl1, hl2⟩ := hm.len
  unfold maxLen at hl2
  obtain ⟨L, hL⟩ : ∃ L, l.length = L := ⟨_, rfl⟩
  have HL : Hid (l.length = L) := hL
  rw [hL] at hv hl1 hn hl ⊢
  subst hv
  obtain ⟨full, hF⟩ : ∃ f, bs ++ (EP.num (L : Int) ++ l.flatMap EP.cmd) = f := ⟨_, rfl⟩
  rw [hF] at hl ⊢
  have HF : Hid (bs ++ EP.num (L : Int) ++ l.flatMap EP.cmd = full) := by show _ = _; rw [← hF, List.append_assoc]
  have HFL : Hid (full.length ≤ 100000000000000) := hl
  have kc : Hid (∀ W, Wr W q bs → Calls Tryd.prog 54 #[.pointer (some ⟨q, 0, none⟩), .int .i64 L] W fun e w' => e = .returned (.tuple #[]) ∧ Wr w' q (bs ++ EP.num L) ∧ Wk q W w') := fun W hW => wcount_any q bs L W hW (by omega) (prefix_len hF hl)
  have HB : Hid (∀ x ∈ l, CmdB x) := hb
  have HW : Hid (Wr w q bs) := h
  have HM : Hid (Many w 45 11 IC.Cmd.cells (.slice ad L cap) l ∧ ∀ x ∈ l, CmdOk w x) := ⟨hm, hok⟩
  clear h hm hok hb hl hF hL
  go_enter Tryd.func57, Tryd.ntmps57
  go_wp2_with (go_at_call 54; refine (kc.out _ HW.out).mono ?_; rintro e w1 ⟨rfl, h1⟩
               have HW1 := hid' h1.1
               have HK1 := hid' h1.2
               have HM1 : Hid (Many w1 45 11 IC.Cmd.cells (.slice ad L cap) l ∧ ∀ x ∈ l, CmdOk w1 x) := ⟨Row.wk HM.out.1 HW.out h1.2 (by decide) (by decide), fun x hx => (HM.out.2 x hx).wk HW.out h1.2⟩
               clear h1)
  go_loopw [14] (fun i wr => ∃ (k : Nat) (cs : List Nat), k ≤ L ∧ i = .int .i64 k ∧ Hid (Wr wr q cs) ∧ Hid (cs ++ (l.drop k).flatMap EP.cmd = full) ∧ Hid (Many wr 45 11 IC.Cmd.cells (.slice ad L cap) l ∧ ∀ x ∈ l, CmdOk wr x) ∧ Hid (Wk q w wr)) (fun i _ => L - (intOf i).toNat)
  case atStart => exact ⟨0, _, by omega, rfl, HW1, HF, HM1, HK1⟩
  case round =>
    clear HW1 HM1 HK1 HM HW
    obtain ⟨k, cs, hk, rfl, HW, HE, HM, HK⟩ := hrel
    by_cases hkL : k < L
    · have hks : k < l.length := by rw [HL.out]; exact hkL
      obtain ⟨g, o, cap2, hv', hg, -, -, hc⟩ := HM.out.1.at cmd_len k hks
      obtain ⟨rfl, -⟩ : ad = some ⟨g, o, none⟩ ∧ _ := by simpa using hv'
      clear hv'
      have hok := HM.out.2 l[k] (List.getElem_mem hks)
      have hbx := HB.out l[k] (List.getElem_mem hks)
      have hE := HE.out
      rw [List.drop_eq_getElem_cons hks, List.flatMap_cons, ← List.append_assoc] at hE
      obtain ⟨x, hx⟩ : ∃ x, l[k] = x := ⟨_, rfl⟩
      rw [hx] at hc hok hbx hE
      have HNE : Hid (cs ++ EP.cmd x ++ (l.drop (k + 1)).flatMap EP.cmd = full) := hE
      have hlen : (cs ++ EP.cmd x).length ≤ 100000000000000 := prefix_len hE HFL.out
      obtain ⟨ck, cr, cw, ⟨pk, pa, pb, ⟨px, py⟩, ⟨qx, qy⟩⟩, vp, paths⟩ := x
      obtain ⟨ad2, cap3, hv2, -, -⟩ := Many.len hok.1
      replace hv2 : vp = .slice ad2 paths.length cap3 := hv2
      generalize paths.length = n2 at hv2
      subst hv2
      have kk : Hid (∀ W, Below wr.heap.size wr W → Wr W q cs → Calls Tryd.prog 58 #[.pointer (some ⟨q, 0, none⟩), .agg #[.int .i64 ck, .int .i64 cr, .int .i64 cw, .int .i64 pk, .int .i64 pa, .int .i64 pb, .int .i64 px, .int .i64 py, .int .i64 qx, .int .i64 qy, (.slice ad2 n2 cap3)]] W fun e w' => e = .returned (.tuple #[]) ∧ Wr w' q (cs ++ EP.cmd ⟨ck, cr, cw, ⟨pk, pa, pb, ⟨px, py⟩, ⟨qx, qy⟩⟩, (.slice ad2 n2 cap3), paths⟩) ∧ Wk q W w') := fun W hbw hW => wcmd_any q cs ⟨ck, cr, cw, ⟨pk, pa, pb, ⟨px, py⟩, ⟨qx, qy⟩⟩, (.slice ad2 n2 cap3), paths⟩ W hW (hok.below hbw) hbx hlen
      generalize EP.cmd ⟨ck, cr, cw, ⟨pk, pa, pb, ⟨px, py⟩, ⟨qx, qy⟩⟩, (.slice ad2 n2 cap3), paths⟩ = wy at kk HNE
      have c0 : wr.cell? ⟨g, o + k * 11, none⟩ = some (.int .i64 ck) := hc 0 _ rfl
      have c1 : wr.cell? ⟨g, o + k * 11 + 1, none⟩ = some (.int .i64 cr) := hc 1 _ rfl
      have c2 : wr.cell? ⟨g, o + k * 11 + 2, none⟩ = some (.int .i64 cw) := hc 2 _ rfl
      have c3 : wr.cell? ⟨g, o + k * 11 + 3, none⟩ = some (.int .i64 pk) := hc 3 _ rfl
      have c4 : wr.cell? ⟨g, o + k * 11 + 4, none⟩ = some (.int .i64 pa) := hc 4 _ rfl
      have c5 : wr.cell? ⟨g, o + k * 11 + 5, none⟩ = some (.int .i64 pb) := hc 5 _ rfl
      have c6 : wr.cell? ⟨g, o + k * 11 + 6, none⟩ = some (.int .i64 px) := hc 6 _ rfl
      have c7 : wr.cell? ⟨g, o + k * 11 + 7, none⟩ = some (.int .i64 py) := hc 7 _ rfl
      have c8 : wr.cell? ⟨g, o + k * 11 + 8, none⟩ = some (.int .i64 qx) := hc 8 _ rfl
      have c9 : wr.cell? ⟨g, o + k * 11 + 9, none⟩ = some (.int .i64 qy) := hc 9 _ rfl
      have c10 : wr.cell? ⟨g, o + k * 11 + 10, none⟩ = some ((.slice ad2 n2 cap3)) := hc 10 _ rfl
      clear hc hx hE hlen hok hbx
      go_wp2_with (go_at_call 58; refine (kk.out _ ((Below.refl _ _).alloc (Nat.le_refl _) _) (HW.out.alloc _)).mono ?_; rintro e w2 ⟨rfl, h2⟩
                   have HW2 := hid' h2.1
                   have HM2 : Hid (Many w2 45 11 IC.Cmd.cells (.slice (some ⟨g, o, none⟩) L cap) l ∧ ∀ x ∈ l, CmdOk w2 x) := ⟨Row.wk (Row.below HM.out.1 ((Below.refl _ _).alloc (Nat.le_refl _) _)) (HW.out.alloc _) h2.2 (by decide) (by decide), fun x hx => ((HM.out.2 x hx).below ((Below.refl _ _).alloc (Nat.le_refl _) _)).wk (HW.out.alloc _) h2.2⟩
                   have HK2 : Hid (Wk q w w2) := (HK.out.alloc _).trans h2.2
                   clear h2)
      go_roundw
      case rel => exact ⟨k + 1, _, by omega, by go_num, HW2, HNE, HM2, HK2⟩
      case measure => simp [intOf]; omega
    · obtain rfl : k = L := by omega
      go_wp2
      go_end0
      have hE := HE.out
      rw [List.drop_eq_nil_of_le (by rw [HL.out]; omega)] at hE
      have hE' : cs = full := by rw [← hE]; simp
      rw [← hE']
      exact ⟨rfl, HW.out, HK.out⟩

end Go.Proofs.YtofmbedjbnbjlaaDoor

/-
  As far as the greatest coordinate, and one step farther: walked over the program.
-/
import Derived.Test.YtofmbedjbnbjlabDoorFarBase
namespace Go.Proofs.YtofmbedjbnbjlabDoor
open Go.RowKit

set_option maxRecDepth 100000 in
set_option maxHeartbeats 4000000 in
theorem far_3_true (A : Nat → Addr) (a : Option Addr) (len cap : Nat) (zs : List Int) (n : Int) (w : World) (hE : Errs13 w A) (hl : len ≤ 200) (hr : IsRow .i64 w a len cap zs) (hn : (n.tmod 4 + 4).tmod 4 = 3) (hb : -4 < n.tmod 4 ∧ n.tmod 4 < 4) :
    Calls Tryd.prog 3 #[.slice a len cap, .int .i64 n, .bool true] w fun e w' => e = .returned (.bool true) ∧ Below w.heap.size w w' := by
  have kf : Hid (∀ W, Below w.heap.size w W → Calls Tryd.prog 4 #[] W fun e w' => e = .returned (.bool true) ∧ Below W.heap.size W w') := fun W hb => first_any A W (hE.three''.below hb)
  have ki : Hid (∀ W, Below w.heap.size w W → Calls Tryd.prog 5 #[.pointer (some ⟨W.heap.size, 0, none⟩)] (W.alloc (.cells #[.slice a len cap, .int .i64 0] 31)) fun e w' => (∃ i : IC.Icon, e = .returned (.agg i.cells.toArray) ∧ Good i ∧ IconOk w' i) ∧ Below W.heap.size W w') := fun W hb => icon_row hr hb
  have HE : Hid (Errs13 w A) := hE
  have hli : ¬ (200 : Int) < (len : Int) := by omega
  clear hE hr
  obtain ⟨r', hr'⟩ : ∃ r, n.tmod 4 = r := ⟨_, rfl⟩
  rw [hr'] at hn hb
  go_enter Tryd.func3, Tryd.ntmps3
  go_upto_if 28 with (first
    | (go_at_call 4; refine (kf.out _ (Below.refl _ _)).mono ?_; rintro e w1 ⟨rfl, hb1⟩; have B1 : Hid (Below w.heap.size w w1) := hb1; clear hb1)
    | (go_at_call 5; refine (ki.out _ B1.out).mono ?_; rintro e w2 ⟨⟨i, rfl, hgood, hok⟩, hb2⟩
       have B2 : Hid (Below w.heap.size w w2) := chain B1.out hb2
       have HG := hidf hgood
       have HOK := hidf hok
       obtain ⟨adc, capc, hvc, -, -⟩ := Many.len hok.1
       obtain ⟨adm, capm, hvm, -, -⟩ := Many.len hok.2.1
       obtain ⟨a0, a1, a2, vc, cols, vm, cmds⟩ := i
       replace hvc : vc = .slice adc cols.length capc := hvc
       replace hvm : vm = .slice adm cmds.length capm := hvm
       obtain ⟨nm, hnm⟩ : ∃ nm, cmds.length = nm := ⟨_, rfl⟩
       have HNM := hidf hnm
       rw [hnm] at hvm
       generalize cols.length = nc at hvc
       subst hvc
       subst hvm
       clear hb2 hok hgood hnm
       simp only [IC.Icon.cells]))
  rcases cmds.eq_nil_or_concat with hnil | ⟨front, c, hcc⟩
  · have h0 : nm = 0 := by rw [← HNM.out, hnil]; rfl
    subst h0
    clear hnil HNM
    go_wp2
    go_ret
    exact ⟨rfl, B2.out.alloc B2.out.size _⟩
  · rw [List.concat_eq_append] at hcc
    subst hcc
    obtain ⟨m, hm⟩ : ∃ m, front.length = m := ⟨_, rfl⟩
    have HFM := hidf hm
    obtain rfl : nm = m + 1 := by rw [← HNM.out]; simp [hm]
    have hcg := HG.out.cmds c (by simp)
    have hco := HOK.out.2.2 c (by simp)
    have hfew : front.length + 1 ≤ 4 := by have := HG.out.few.2; simpa using this
    obtain ⟨G, hGr⟩ : ∃ G, IC.greatest ⟨a0, a1, a2, .slice adc nc capc, cols, .slice adm (m + 1) capm, front ++ [c]⟩ = G := ⟨_, rfl⟩
    have hGb := far_g HG.out
    rw [hGr] at hGb
    have kg : Hid (∀ W, Calls Tryd.prog 6 #[.agg #[.int .i64 a0, .int .i64 a1, .int .i64 a2, .slice adc nc capc, .slice adm (m + 1) capm]] W fun e w' => e = .returned (.int .i64 G) ∧ Below W.heap.size W w') := fun W => by
      have h := greatest_any ⟨a0, a1, a2, .slice adc nc capc, cols, .slice adm (m + 1) capm, front ++ [c]⟩ W
      rw [hGr] at h
      exact h
    obtain ⟨k, r, wd, pn, vp, paths⟩ := c
    obtain ⟨hc1, hc2, hc3, hc4⟩ := hcg
    replace hc3 : 1 ≤ paths.length ∧ paths.length ≤ 3 := hc3
    obtain ⟨p0, prest, rfl⟩ : ∃ p0 prest, paths = p0 :: prest := by
      cases paths with
      | nil => simp at hc3
      | cons x y => exact ⟨x, y, rfl⟩
    have hpg := hc4 p0 (by simp)
    have hpo := hco.2 p0 (by simp)
    obtain ⟨⟨sx, sy⟩, vs, segs, cl⟩ := p0
    obtain ⟨hp1, hp2, hp3, hp4⟩ := hpg
    replace hp3 : 1 ≤ segs.length ∧ segs.length ≤ 4 := hp3
    obtain ⟨sf, s, rfl⟩ : ∃ sf s, segs = sf ++ [s] := by
      rcases segs.eq_nil_or_concat with h | ⟨x, y, h⟩
      · rw [h] at hp3; simp at hp3
      · exact ⟨x, y, by rw [h, List.concat_eq_append]⟩
    obtain ⟨q, hq⟩ : ∃ q, sf.length = q := ⟨_, rfl⟩
    have HSF := hidf hq
    obtain ⟨np, hnp⟩ : ∃ np, prest.length + 1 = np := ⟨_, rfl⟩
    have HNP := hidf hnp
    -- where the lists lie
    obtain ⟨adp, capp, hvp, -, -⟩ := Many.len hco.1
    replace hvp : vp = .slice adp (prest.length + 1) capp := hvp
    obtain ⟨ads, caps, hvs, -, -⟩ := Many.len hpo
    replace hvs : vs = .slice ads (sf ++ [s]).length caps := hvs
    rw [List.length_append, List.length_singleton, hq] at hvs
    rw [hnp] at hvp
    subst hvp
    subst hvs
    have HCS : Hid (∀ x ∈ front ++ [(⟨k, r, wd, pn, .slice adp np capp, ⟨⟨sx, sy⟩, .slice ads (q + 1) caps, sf ++ [s], cl⟩ :: prest⟩ : IC.Cmd)], IsSl x.vp) := fun x hx => by
      obtain ⟨ad', cap', h, -, -⟩ := Many.len (HOK.out.2.2 x hx).1
      exact ⟨_, _, _, h⟩
    have HPS : Hid (∀ x ∈ (⟨⟨sx, sy⟩, .slice ads (q + 1) caps, sf ++ [s], cl⟩ : IC.Path) :: prest, IsSl x.vs) := fun x hx => by
      obtain ⟨ad', cap', h, -, -⟩ := Many.len (hco.2 x hx)
      exact ⟨_, _, _, h⟩
    have kC : Hid (∀ W, Below w2.heap.size w2 W → Calls Tryd.prog 7 #[.slice adm (m + 1) capm] W fun e w' => (∃ ad cap, e = .returned (.slice ad (m + 1) cap) ∧ Own w' W.heap.size 41 11 IC.Cmd.cells ad cap (front ++ [⟨k, r, wd, pn, .slice adp np capp, ⟨⟨sx, sy⟩, .slice ads (q + 1) caps, sf ++ [s], cl⟩ :: prest⟩])) ∧ Below W.heap.size W w') := fun W hb => by
      have h := copy_cmds _ _ W (Row.below HOK.out.2.1 hb) HCS.out (by rw [HNM.out]; omega)
      have e : (front ++ [(⟨k, r, wd, pn, .slice adp np capp, ⟨⟨sx, sy⟩, .slice ads (q + 1) caps, sf ++ [s], cl⟩ :: prest⟩ : IC.Cmd)]).length = m + 1 := HNM.out
      rw [e] at h
      exact h
    have kP : Hid (∀ W, Below w2.heap.size w2 W → Calls Tryd.prog 8 #[.slice adp np capp] W fun e w' => (∃ ad cap, e = .returned (.slice ad np cap) ∧ Own w' W.heap.size 46 4 IC.Path.cells ad cap (⟨⟨sx, sy⟩, .slice ads (q + 1) caps, sf ++ [s], cl⟩ :: prest)) ∧ Below W.heap.size W w') := fun W hb => by
      have h := copy_paths _ _ W (Row.below hco.1 hb) HPS.out (by have := hc3.2; simp at this ⊢; omega)
      have e : ((⟨⟨sx, sy⟩, .slice ads (q + 1) caps, sf ++ [s], cl⟩ : IC.Path) :: prest).length = np := hnp
      rw [e] at h
      exact h
    have kS : Hid (∀ W, Below w2.heap.size w2 W → Calls Tryd.prog 9 #[.slice ads (q + 1) caps] W fun e w' => (∃ ad cap, e = .returned (.slice ad (q + 1) cap) ∧ Own w' W.heap.size 51 7 IC.Seg.cells ad cap (sf ++ [s])) ∧ Below W.heap.size W w') := fun W hb => by
      have h := copy_segs _ _ W (Row.below hpo hb) (by show (sf ++ [s]).length ≤ 1000; have := hp3.2; omega)
      rw [List.length_append, List.length_singleton, hq] at h
      exact h
    have HGb := hidf hGb
    have hg1 := hGb.1
    have hg2 := hGb.2
    have hm4 : m ≤ 3 := by omega
    have hq4 : q ≤ 3 := by have := hp3.2; simp at this; omega
    have HGR := hidf hGr
    have HCO := hidf hco
    have HP1 := hidf hp1
    have HP2 := hidf hp2
    have HP4 := hidf hp4
    have hz0 : ((m : Int) + 1 == 0) = false := by simp; omega
    have HX2 := hidf (blk_new w2 27 #[.int .i64 a0, .int .i64 a1, .int .i64 a2, .slice adc nc capc, .slice adm (m + 1) capm])
    clear kf ki hGb hGr hco hpo hp1 hp2 hp3 hp4 hc1 hc2 hc3 hc4 hm hq hnp hfew HCS HPS
    go_upto_region 13 with (first
      | (go_at_call 6; refine (kg.out _).mono ?_; rintro e w3 ⟨rfl, hb3⟩
         have HB3 : Hid (Below w2.heap.size w2 w3) := ((Below.refl _ _).alloc (Nat.le_refl _) _).trans (hb3.mono (by simp))
         have HX3 := hidf (HX2.out.below hb3 (by simp))
         obtain ⟨⟨i0, i1, i2, i3, i4⟩, -⟩ := cells_icon HX3.out
         have z3 := HX3.out.lt
         clear hb3)
      | (go_at_call 7; refine (kC.out _ HB3.out).mono ?_; rintro e w4 ⟨⟨ad4, cap4, rfl, hown4⟩, hb4⟩
         have HX4 := hidf (HX3.out.below hb4 HX3.out.lt)
         have HB4 := hidf (chain HB3.out hb4)
         have HO4 := hidf hown4
         obtain ⟨⟨j0, j1, j2, j3, j4⟩, -⟩ := cells_icon HX4.out
         have jf := HX4.out.frozen 4
         have z4 := HX4.out.lt
         clear hb4 hown4))
    obtain ⟨gm, rfl, hgm, hgm', hgc, hgc'⟩ := own_someF HO4.out (by simp)
    rw [HNM.out] at hgc
    unfold maxLen at hgc'
    have h2m : w2.heap.size ≤ gm := by have := HB3.out.size; omega
    obtain ⟨W4, hW4⟩ : ∃ W4, w4.setCell ⟨w2.heap.size, 4, none⟩ (.slice (some ⟨gm, 0, none⟩) (m + 1) cap4) = W4 := ⟨_, rfl⟩
    have X4 : Hid (Blk W4 w2.heap.size 27 #[.int .i64 a0, .int .i64 a1, .int .i64 a2, .slice adc nc capc, .slice (some ⟨gm, 0, none⟩) (m + 1) cap4]) := by rw [← hW4]; exact HX4.out.set (j := 4) _
    have OM4 : Hid (Own W4 w2.heap.size 41 11 IC.Cmd.cells (some ⟨gm, 0, none⟩) cap4 (front ++ [⟨k, r, wd, pn, .slice adp np capp, ⟨⟨sx, sy⟩, .slice ads (q + 1) caps, sf ++ [s], cl⟩ :: prest⟩])) := by rw [← hW4]; exact (HO4.out.far HX4.out (by decide) 4 _).base HB3.out.size
    have LB4 : Hid (Below w2.heap.size w2 W4) := by rw [← hW4]; exact HB4.out.setCell (Nat.le_refl _) _
    rw [hW4]
    obtain ⟨⟨x0, x1, x2, x3, x4⟩, -⟩ := cells_icon X4.out
    obtain ⟨v10, -⟩ := own_last_at cmd_len OM4.out 10 (by omega)
    rw [HFM.out] at v10
    replace v10 : W4.cell? ⟨gm, m * 11 + 10, none⟩ = some (.slice adp np capp) := v10
    have z5 := X4.out.lt
    have z5' : gm < W4.heap.size := (OM4.out.lt _ rfl).2
    clear hW4 HX3 HX4 HO4 HB4 i0 i1 i2 i3 i4 j0 j1 j2 j3 j4 jf z3 z4 kg kC HX2 hgm hgm'
    go_upto_region 15 with (go_at_call 8; refine (kP.out _ LB4.out).mono ?_; rintro e w5 ⟨⟨ad5, cap5, rfl, hown5⟩, hb5⟩
                            have HX5 := hidf (X4.out.below hb5 X4.out.lt)
                            have HM5 := hidf (OM4.out.below hb5 (Nat.le_refl _))
                            have LB5 := hidf (chain LB4.out hb5)
                            have HO5 := hidf hown5
                            obtain ⟨y10, yf⟩ := own_last_at cmd_len HM5.out 10 (by omega)
                            rw [HFM.out] at y10 yf
                            replace y10 : w5.cell? ⟨gm, m * 11 + 10, none⟩ = some (.slice adp np capp) := y10
                            have z6 : gm < w5.heap.size := (HM5.out.lt _ rfl).2
                            clear hb5 hown5)
    obtain ⟨gp, rfl, hgp, hgp', hpc, hpc'⟩ := own_someF HO5.out (by simp)
    have hnp1 : 1 ≤ np := by have := HNP.out; omega
    replace hpc : np ≤ cap5 := by have := HNP.out; simp at hpc; omega
    unfold maxLen at hpc'
    have h2p : w2.heap.size ≤ gp := by have := LB4.out.size; omega
    obtain ⟨W5, hW5⟩ : ∃ W5, w5.setCell ⟨gm, m * 11 + 10, none⟩ (.slice (some ⟨gp, 0, none⟩) np cap5) = W5 := ⟨_, rfl⟩
    obtain ⟨curM, hcM⟩ := HM5.out.blk
    have X5 : Hid (Blk W5 w2.heap.size 27 #[.int .i64 a0, .int .i64 a1, .int .i64 a2, .slice adc nc capc, .slice (some ⟨gm, 0, none⟩) (m + 1) cap4]) := by rw [← hW5]; exact HX5.out.far (fun e => by have e' : w2.heap.size = gm := e; have h := HX5.out; unfold Blk at h; rw [e', hcM] at h; cases h) _
    have OM5 : Hid (Own W5 w2.heap.size 41 11 IC.Cmd.cells (some ⟨gm, 0, none⟩) cap4 (front ++ [⟨k, r, wd, pn, .slice (some ⟨gp, 0, none⟩) np cap5, ⟨⟨sx, sy⟩, .slice ads (q + 1) caps, sf ++ [s], cl⟩ :: prest⟩])) := by
      rw [← hW5, ← HFM.out]
      exact own_last_set cmd_len HM5.out 10 _ rfl
    have OP5 : Hid (Own W5 w2.heap.size 46 4 IC.Path.cells (some ⟨gp, 0, none⟩) cap5 (⟨⟨sx, sy⟩, .slice ads (q + 1) caps, sf ++ [s], cl⟩ :: prest)) := by rw [← hW5]; exact (HO5.out.far hcM (by decide) _ _).base LB4.out.size
    have LB5' : Hid (Below w2.heap.size w2 W5) := by rw [← hW5]; exact LB5.out.setCell h2m _
    rw [hW5]
    obtain ⟨u10, -⟩ := own_last_at cmd_len OM5.out 10 (by omega)
    rw [HFM.out] at u10
    replace u10 : W5.cell? ⟨gm, m * 11 + 10, none⟩ = some (.slice (some ⟨gp, 0, none⟩) np cap5) := u10
    obtain ⟨t2, -⟩ := own_head_at path_len OP5.out 2 (by omega)
    replace t2 : W5.cell? ⟨gp, 2, none⟩ = some (.slice ads (q + 1) caps) := t2
    have z7 : gm < W5.heap.size := (OM5.out.lt _ rfl).2
    have z7' : gp < W5.heap.size := (OP5.out.lt _ rfl).2
    clear hW5 hcM X4 OM4 LB4 HX5 HM5 LB5 HO5 x0 x1 x2 x3 x4 v10 z5 z5' y10 yf z6 kP hgp hgp'
    go_upto_region 17 with (go_at_call 9; refine (kS.out _ LB5'.out).mono ?_; rintro e w6 ⟨⟨ad6, cap6, rfl, hown6⟩, hb6⟩
                            have HX6 := hidf (X5.out.below hb6 X5.out.lt)
                            have HM6 := hidf (OM5.out.below hb6 (Nat.le_refl _))
                            have HP6 := hidf (OP5.out.below hb6 (Nat.le_refl _))
                            have LB6 := hidf (chain LB5'.out hb6)
                            have HO6 := hidf hown6
                            obtain ⟨y2, yf⟩ := own_head_at path_len HP6.out 2 (by omega)
                            replace y2 : w6.cell? ⟨gp, 2, none⟩ = some (.slice ads (q + 1) caps) := y2
                            have z8 : gp < w6.heap.size := (HP6.out.lt _ rfl).2
                            clear hb6 hown6)
    obtain ⟨gs, rfl, hgs, hgs', hsc, hsc'⟩ := own_someF HO6.out (by simp)
    replace hsc : q + 1 ≤ cap6 := by have := HSF.out; simp at hsc; omega
    unfold maxLen at hsc'
    obtain ⟨W6, hW6⟩ : ∃ W6, w6.setCell ⟨gp, 2, none⟩ (.slice (some ⟨gs, 0, none⟩) (q + 1) cap6) = W6 := ⟨_, rfl⟩
    have ST0 : FarSt w2 w2.heap.size gm gp gs cap4 cap5 cap6 #[.int .i64 a0, .int .i64 a1, .int .i64 a2, .slice adc nc capc, .slice (some ⟨gm, 0, none⟩) (m + 1) cap4] front ⟨k, r, wd, pn, .slice (some ⟨gp, 0, none⟩) np cap5, ⟨⟨sx, sy⟩, .slice ads (q + 1) caps, sf ++ [s], cl⟩ :: prest⟩ ⟨⟨sx, sy⟩, .slice ads (q + 1) caps, sf ++ [s], cl⟩ prest (sf ++ [s]) w6 := ⟨HX6.out, HM6.out, HP6.out, HO6.out.base LB5'.out.size, LB6.out⟩
    have ST : Hid (FarSt w2 w2.heap.size gm gp gs cap4 cap5 cap6 #[.int .i64 a0, .int .i64 a1, .int .i64 a2, .slice adc nc capc, .slice (some ⟨gm, 0, none⟩) (m + 1) cap4] front ⟨k, r, wd, pn, .slice (some ⟨gp, 0, none⟩) np cap5, ⟨⟨sx, sy⟩, .slice ads (q + 1) caps, sf ++ [s], cl⟩ :: prest⟩ ⟨⟨sx, sy⟩, .slice (some ⟨gs, 0, none⟩) (q + 1) cap6, sf ++ [s], cl⟩ prest (sf ++ [s]) W6) := by rw [← hW6]; exact ST0.setP 2 (by omega) _ rfl
    rw [hW6]
    obtain ⟨t2', -⟩ := own_head_at path_len ST.out.op 2 (by omega)
    replace t2' : W6.cell? ⟨gp, 2, none⟩ = some (.slice (some ⟨gs, 0, none⟩) (q + 1) cap6) := t2'
    have z9 : gp < W6.heap.size := (ST.out.op.lt _ rfl).2
    have z9' : gs < W6.heap.size := (ST.out.os.lt _ rfl).2
    have z9'' := ST.out.icon.lt
    have HWB : Hid (Below w.heap.size w W6) := chain B2.out ST.out.low
    clear hW6 ST0 X5 OM5 OP5 LB5' HX6 HM6 HP6 LB6 HO6 u10 t2 y2 yf z7 z7' z8 kS hgs hgs'
    obtain ⟨sk, ⟨ax, ay⟩, ⟨bx, by'⟩, ⟨cx, cy⟩⟩ := s
    have hsg : SegGood G ⟨sk, ⟨ax, ay⟩, ⟨bx, by'⟩, ⟨cx, cy⟩⟩ := by have h := HP4.out _ (List.mem_append.2 (.inr (List.mem_singleton.2 rfl))); rw [HGR.out] at h; exact h
    have hsf : ∀ x ∈ sf, SegGood G x := fun x hx => by have h := HP4.out x (List.mem_append.2 (.inl hx)); rw [HGR.out] at h; exact h
    have hst0 : PtIn G ⟨sx, sy⟩ := by have h := HP2.out; rw [HGR.out] at h; exact h
    obtain ⟨j, hk, hj1, hj3, ha, hb', hc'⟩ := hsg
    replace hk : sk = (j : Int) := hk
    replace ha : if 0 < j then PtIn G ⟨ax, ay⟩ else PtNo ⟨ax, ay⟩ := ha
    replace hb' : if 1 < j then PtIn G ⟨bx, by'⟩ else PtNo ⟨bx, by'⟩ := hb'
    replace hc' : if 2 < j then PtIn G ⟨cx, cy⟩ else PtNo ⟨cx, cy⟩ := hc'
    rw [if_pos (by omega)] at ha
    subst hk
    have hcs : IC.chkSeg G ⟨(j : Int), ⟨ax, G + 1⟩, ⟨bx, by'⟩, ⟨cx, cy⟩⟩ = 1 := by
      have hw : IC.within (j : Int) 1 3 = true := within_of (by omega) (by omega)
      have hr : IC.reach G ⟨ax, G + 1⟩ = false := by simp [IC.reach, IC.within]; omega
      have ht : (IC.Seg.pts ⟨(j : Int), ⟨ax, G + 1⟩, ⟨bx, by'⟩, ⟨cx, cy⟩⟩).take (j : Int).toNat = ⟨ax, G + 1⟩ :: ([⟨bx, by'⟩, ⟨cx, cy⟩] : List IC.Pt).take (j - 1) := by
        obtain ⟨j', rfl⟩ : ∃ j', j = j' + 1 := ⟨j - 1, by omega⟩
        rw [Int.toNat_natCast]
        rfl
      unfold IC.chkSeg
      simp only
      rw [hw, ht]
      simp [hr]
    have hst : ∀ d, FarSt w2 w2.heap.size gm gp gs cap4 cap5 cap6 #[.int .i64 a0, .int .i64 a1, .int .i64 a2, .slice adc nc capc, .slice (some ⟨gm, 0, none⟩) (m + 1) cap4] front ⟨k, r, wd, pn, .slice (some ⟨gp, 0, none⟩) np cap5, ⟨⟨sx, sy⟩, .slice ads (q + 1) caps, sf ++ [⟨(j : Int), ⟨ax, ay⟩, ⟨bx, by'⟩, ⟨cx, cy⟩⟩], cl⟩ :: prest⟩ ⟨⟨sx, sy⟩, .slice (some ⟨gs, 0, none⟩) (q + 1) cap6, sf ++ [⟨(j : Int), ⟨ax, ay⟩, ⟨bx, by'⟩, ⟨cx, cy⟩⟩], cl⟩ prest (sf ++ [⟨(j : Int), ⟨ax, G + 1⟩, ⟨bx, by'⟩, ⟨cx, cy⟩⟩]) ((W6.drewN d).setCell ⟨gs, q * 7 + 2, none⟩ (.int .i64 (G + 1))) := fun d => (ST.out.drew d).setS q 2 HSF.out _ rfl
    have hval : IC.chk ⟨a0, a1, a2, .slice adc nc capc, cols, .slice (some ⟨gm, 0, none⟩) (m + 1) cap4, front ++ [⟨k, r, wd, pn, .slice (some ⟨gp, 0, none⟩) np cap5, ⟨⟨sx, sy⟩, .slice (some ⟨gs, 0, none⟩) (q + 1) cap6, sf ++ [⟨(j : Int), ⟨ax, G + 1⟩, ⟨bx, by'⟩, ⟨cx, cy⟩⟩], cl⟩ :: prest⟩]⟩ = 1 := far_bad HG.out rfl (by rw [HGR.out]; exact path_bad_seg (by have := HSF.out; omega) hst0 hsf hcs)
    have KX : Hid (∀ d, Calls Tryd.prog 10 #[.agg #[.int .i64 a0, .int .i64 a1, .int .i64 a2, .slice adc nc capc, .slice (some ⟨gm, 0, none⟩) (m + 1) cap4]] ((W6.drewN d).setCell ⟨gs, q * 7 + 2, none⟩ (.int .i64 (G + 1))) fun e w' => e = .returned (.iface 104 (.pointer (some (A 0)))) ∧ Below ((W6.drewN d).setCell ⟨gs, q * 7 + 2, none⟩ (.int .i64 (G + 1))).heap.size ((W6.drewN d).setCell ⟨gs, q * 7 + 2, none⟩ (.int .i64 (G + 1))) w') := fun d => by
      have h := check_any A ⟨a0, a1, a2, .slice adc nc capc, cols, .slice (some ⟨gm, 0, none⟩) (m + 1) cap4, front ++ [⟨k, r, wd, pn, .slice (some ⟨gp, 0, none⟩) np cap5, ⟨⟨sx, sy⟩, .slice (some ⟨gs, 0, none⟩) (q + 1) cap6, sf ++ [⟨(j : Int), ⟨ax, G + 1⟩, ⟨bx, by'⟩, ⟨cx, cy⟩⟩], cl⟩ :: prest⟩]⟩ ((W6.drewN d).setCell ⟨gs, q * 7 + 2, none⟩ (.int .i64 (G + 1))) (HE.out.three''.below (chain B2.out (hst d).low)) ((hst d).ok2 HOK.out (by rw [HFM.out]) HNP.out (by simp [HSF.out]))
      rw [hval] at h
      exact h
    have HBX : Hid (∀ d, Below w.heap.size w ((W6.drewN d).setCell ⟨gs, q * 7 + 2, none⟩ (.int .i64 (G + 1)))) := fun d => chain B2.out (hst d).low
    obtain ⟨t0, f0⟩ := own_last_at seg_len ST.out.os 2 (by omega)
    rw [HSF.out] at t0 f0
    replace t0 : W6.cell? ⟨gs, q * 7 + 2, none⟩ = some (.int .i64 ay) := t0
    obtain ⟨t1, -⟩ := own_last_at seg_len ST.out.os 0 (by omega)
    rw [HSF.out] at t1
    replace t1 : W6.cell? ⟨gs, q * 7, none⟩ = some (.int .i64 (j : Int)) := t1
    obtain ⟨⟨i0, i1, i2, i3, i4⟩, -⟩ := cells_icon ST.out.icon
    have hne : w2.heap.size ≠ gs := fun e => by obtain ⟨cur, hc⟩ := ST.out.os.blk; have h := ST.out.icon; unfold Blk at h; rw [e, hc] at h; cases h
    clear hst hval hcs
    go_wp2
    go_quiet (fail)
    go_wp2_with (first
      | (go_at_call 10; refine (KX.out _).mono ?_; rintro e w7 ⟨rfl, hb7⟩; have B7 : Hid (Below w.heap.size w w7) := chain (HBX.out _) hb7; clear hb7)
      | (go_at_call 11; refine (is_bare A w7 (HE.out.below B7.out) 4 (by omega) (A 0) rfl 105 rfl).mono ?_; rintro e w8 ⟨rfl, hb8⟩))
    go_ret
    exact ⟨rfl, chain B7.out hb8⟩

end Go.Proofs.YtofmbedjbnbjlabDoor

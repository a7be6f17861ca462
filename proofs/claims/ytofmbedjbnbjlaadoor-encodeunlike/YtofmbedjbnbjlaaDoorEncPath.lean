/-
  A writer writes a path: walked over the program.
-/
import Derived.Test.YtofmbedjbnbjlaaDoorEncPathB
import Derived.Test.YtofmbedjbnbjlaaDoorEncPaint
namespace Go.Proofs.YtofmbedjbnbjlaaDoor
open Go.RowKit

theorem runs_bound (l : List IC.Seg) : (EP.runs l).length ≤ l.length := by
  have h1 := EP.runsOf_is (l.map IC.Seg.k)
  have h2 : (EP.runs l).length ≤ (EP.kindsOf (EP.runs l)).length := by
    have : ∀ rs : List (Int × Nat), (∀ r ∈ rs, 1 ≤ r.2) → rs.length ≤ (EP.kindsOf rs).length := by
      intro rs
      induction rs with
      | nil => intro _; simp
      | cons y r ih =>
        intro h
        have h1 := ih fun x hx => h x (by simp [hx])
        have h2 := h y (by simp)
        unfold EP.kindsOf at h1 ⊢
        rw [List.flatMap_cons, List.length_append, List.length_replicate, List.length_cons]
        omega
    exact this _ h1.2.1
  unfold EP.runs at h2
  rw [h1.2.2, List.length_map] at h2
  exact h2

/-- What a run, met, tells. -/
theorem runs_at {rs : List (Int × Nat)} {sg : List IC.Seg} {k : Int} {n j : Nat} {l : IC.Pt} (hj : rs[j]? = some (k, n)) (hk : EP.kindsOf (rs.drop j) = sg.map IC.Seg.k) (hs : ∀ s ∈ sg, SegB s) (h1 : ∀ r ∈ rs, 1 ≤ r.2) :
    (1 ≤ k ∧ k ≤ 3) ∧ (1 ≤ n ∧ n ≤ sg.length) ∧ EP.kindsOf (rs.drop (j + 1)) = (sg.drop n).map IC.Seg.k ∧
      EP.runsB l (rs.drop j) sg = EP.num (n * 4 + k) ++ (EP.way l ((sg.take n).flatMap EP.ptsOf) ++ EP.runsB (EP.lastOf l ((sg.take n).flatMap EP.ptsOf)) (rs.drop (j + 1)) (sg.drop n)) := by
  obtain ⟨hlt, e⟩ := List.getElem?_eq_some_iff.1 hj
  have hd : rs.drop j = (k, n) :: rs.drop (j + 1) := by rw [List.drop_eq_getElem_cons hlt, e]
  have hn : 1 ≤ n := h1 (k, n) (by rw [← e]; exact List.getElem_mem hlt)
  rw [hd] at hk ⊢
  have hk : List.replicate n k ++ EP.kindsOf (rs.drop (j + 1)) = sg.map IC.Seg.k := hk
  have ht : (sg.take n).map IC.Seg.k = List.replicate n k ∧ (sg.drop n).map IC.Seg.k = EP.kindsOf (rs.drop (j + 1)) := by
    rw [List.map_take, List.map_drop, ← hk]; simp
  have hlen : n ≤ sg.length := by
    have := congrArg List.length hk
    simp at this
    omega
  have hkk : 1 ≤ k ∧ k ≤ 3 := by
    have hm : k ∈ (sg.take n).map IC.Seg.k := by rw [ht.1]; simp; omega
    obtain ⟨s, hs', rfl⟩ := List.mem_map.1 hm
    exact (hs s (List.mem_of_mem_take hs')).1
  refine ⟨hkk, ⟨hn, hlen⟩, ht.2.symm, ?_⟩
  show EP.num (n * 4 + k) ++ EP.way l ((sg.take n).flatMap EP.ptsOf) ++ EP.runsB _ _ _ = _
  rw [List.append_assoc]

set_option maxRecDepth 20000 in
set_option maxHeartbeats 4000000 in
theorem wpath_any (q : Nat) (bs : List Nat) (p : IC.Path) (w : World) (h : Wr w q bs) (hp : PathOk w p) (hb : PathB p) (hl : (bs ++ EP.path p).length ≤ 100000000000000) :
    Calls Tryd.prog 76 #[.pointer (some ⟨q, 0, none⟩), .agg p.cells.toArray] w fun e w' => e = .returned (.tuple #[]) ∧ Wr w' q (bs ++ EP.path p) ∧ Wk q w w' := by
  obtain ⟨⟨sx, sy⟩, vs, segs, cl⟩ := p
  have HM : Hid (Many w 60 7 IC.Seg.cells vs segs) := hp
  obtain ⟨ad, cap, hv, hl1, hl2⟩ := HM.out.len
  unfold maxLen at hl2
  obtain ⟨L, hL⟩ : ∃ L, segs.length = L := ⟨_, rfl⟩
  have HL : Hid (segs.length = L) := hL
  obtain ⟨hst, hsb, hln⟩ := hb
  simp only at hst hsb hln
  rw [hL] at hv hl1 hln
  subst hv
  have HSB : Hid (∀ s ∈ segs, SegB s) := hsb
  have hq := h.lt
  obtain ⟨R, hR⟩ : ∃ R, (EP.runs segs).length = R := ⟨_, rfl⟩
  have HR : Hid ((EP.runs segs).length = R) := hR
  have hRL : R ≤ L := by rw [← hR, ← hL]; exact runs_bound segs
  obtain ⟨c0, hc⟩ : ∃ c : Nat, (if cl then 1 else 0) = c := ⟨_, rfl⟩
  obtain ⟨full, hF⟩ : ∃ f, bs ++ EP.path ⟨⟨sx, sy⟩, .slice ad L cap, segs, cl⟩ = f := ⟨_, rfl⟩
  rw [hF] at hl ⊢
  have hF' : bs ++ EP.num ((R * 2 + c0 : Nat) : Int) ++ EP.pt ⟨sx, sy⟩ ++ EP.runsB ⟨sx, sy⟩ (EP.runs segs) segs = full := by
    rw [← hF]
    unfold EP.path
    simp only [← List.append_assoc]
    rw [hR]
    congr 4
    rw [← hc]
    cases cl <;> simp
  have l2 : (bs ++ EP.num ((R * 2 + c0 : Nat) : Int) ++ EP.pt ⟨sx, sy⟩).length ≤ 100000000000000 := by rw [← hF'] at hl; exact len_l hl
  have l1 := len_l l2
  have kr : Hid (∀ W, Many W 60 7 IC.Seg.cells (.slice ad L cap) segs → Calls Tryd.prog 15 #[.slice ad L cap] W fun e w' => (∃ ad cap, e = .returned (.slice ad R cap) ∧ Own w' W.heap.size 61 2 prCells ad cap (EP.runs segs)) ∧ Below W.heap.size W w') := fun W hW => by
    have := runs_any (.slice ad L cap) segs W hW (by omega)
    rw [hR] at this
    exact this
  have kc : Hid (∀ W, Wr W q bs → Calls Tryd.prog 54 #[.pointer (some ⟨q, 0, none⟩), .int .i64 ((R * 2 + c0 : Nat) : Int)] W fun e w' => e = .returned (.tuple #[]) ∧ Wr w' q (bs ++ EP.num ((R * 2 + c0 : Nat) : Int)) ∧ Wk q W w') := fun W hW => wcount_any q bs _ W hW (by rw [← hc]; split <;> omega) (len_l l1)
  have kp : Hid (∀ W, Wr W q (bs ++ EP.num ((R * 2 + c0 : Nat) : Int)) → Calls Tryd.prog 93 #[.pointer (some ⟨q, 0, none⟩), .agg #[.int .i64 sx, .int .i64 sy]] W fun e w' => e = .returned (.tuple #[]) ∧ Wr w' q (bs ++ EP.num ((R * 2 + c0 : Nat) : Int) ++ EP.pt ⟨sx, sy⟩) ∧ Wk q W w') := fun W hW => wpt_any q _ ⟨sx, sy⟩ W hW (.inl hst) l2
  have H0 : Hid (Bx w q w.heap.size 51 #[.int .i64 sx, .int .i64 sy, .slice ad L cap, .bool cl] bs (w.alloc (.cells #[.int .i64 sx, .int .i64 sy, .slice ad L cap, .bool cl] 51))) := Bx.new h _ _
  have HM0 : Hid (Many (w.alloc (.cells #[.int .i64 sx, .int .i64 sy, .slice ad L cap, .bool cl] 51)) 60 7 IC.Seg.cells (.slice ad L cap) segs) := Row.below HM.out ((Below.refl _ _).alloc (Nat.le_refl _) _)
  have HQ : Hid (w.heap.size ≠ q) := by show _ ≠ _; omega
  have HF : Hid (bs ++ EP.num ((R * 2 + c0 : Nat) : Int) ++ EP.pt ⟨sx, sy⟩ ++ EP.runsB ⟨sx, sy⟩ (EP.runs segs) segs = full) := hF'
  have HFL : Hid (full.length ≤ 100000000000000) := hl
  have HST : Hid (PtB ⟨sx, sy⟩) := hst
  have hRM : R ≤ 1000000 := by omega
  clear h hp hl l1 l2 hF hF' hst hsb HM hR hL hRL
  simp only [IC.Path.cells]
  go_enter Tryd.func76, Tryd.ntmps76
  go_upto_if 18 with (go_at_call 15; refine (kr.out _ HM0.out).mono ?_; rintro e w1 ⟨⟨adr, capr, rfl, hown1⟩, hb1⟩
                      have H1 : Hid (Bx w q w.heap.size 51 #[.int .i64 sx, .int .i64 sy, .slice ad L cap, .bool cl] bs w1) := H0.out.step (by decide) HQ.out ⟨H0.out.wr.keep hb1, Wk.below hb1⟩
                      have HM1 : Hid (Many w1 60 7 IC.Seg.cells (.slice ad L cap) segs ∧ Many w1 61 2 prCells (.slice adr R capr) (EP.runs segs)) := ⟨Row.below HM0.out hb1, by have := Own.many hown1; rw [HR.out] at this; exact this⟩
                      have hcr : capr ≤ 9223372036854775807 := by obtain ⟨_, _, h1, _, h2⟩ := HM1.out.2.len; cases h1; exact h2
                      obtain ⟨⟨b0, b1, b2, b3⟩, -⟩ := cells_four H1.out.box
                      clear hown1 hb1)
  go_cut [5] from 19 (fun s x => s = .int .i64 c0 ∧ w1 = x)
  case first =>
    cases cl
    all_goals
      go_wp2
      go_meet
      case rel => exact ⟨by rw [← hc]; rfl, rfl⟩
  case rest =>
    obtain ⟨rfl, rfl⟩ := hcut
    have hc1 : c0 ≤ 1 := by rw [← hc]; split <;> omega
    clear hc
    go_wp2_with (first
      | (go_at_call 54; refine (kc.out _ H1.out.wr).mono ?_; rintro e w2 ⟨rfl, h2⟩
         have HM2 : Hid (Many w2 60 7 IC.Seg.cells (.slice ad L cap) segs ∧ Many w2 61 2 prCells (.slice adr R capr) (EP.runs segs)) := ⟨Row.wk HM1.out.1 H1.out.wr h2.2 (by decide) (by decide), Row.wk HM1.out.2 H1.out.wr h2.2 (by decide) (by decide)⟩
         have H2 := hid' (H1.out.step (by decide) HQ.out h2)
         obtain ⟨⟨d0, d1, d2, d3⟩, -⟩ := cells_four H2.out.box
         clear h2)
      | (go_at_call 93; refine (kp.out _ H2.out.wr).mono ?_; rintro e w3 ⟨rfl, h3⟩
         have HM3 : Hid (Many w3 60 7 IC.Seg.cells (.slice ad L cap) segs ∧ Many w3 61 2 prCells (.slice adr R capr) (EP.runs segs)) := ⟨Row.wk HM2.out.1 H2.out.wr h3.2 (by decide) (by decide), Row.wk HM2.out.2 H2.out.wr h3.2 (by decide) (by decide)⟩
         have H3 := hid' (H2.out.step (by decide) HQ.out h3)
         obtain ⟨⟨e0, e1, e2, e3⟩, -⟩ := cells_four H3.out.box
         have z3 := H3.out.box.lt
         clear h3))
    go_cut [6, 7] from 34 (fun b c x => b = .slice ad L cap ∧ c = .pointer (some ⟨w3.heap.size, 0, none⟩) ∧ Hid (Ph w q w3.heap.size (.slice adr R capr) (EP.runs segs) (.slice ad L cap) segs ⟨sx, sy⟩ (bs ++ EP.num ((R * 2 + c0 : Nat) : Int) ++ EP.pt ⟨sx, sy⟩) x))
    case first =>
      have HP0 := hid' (Ph.mk (lb := w3.heap.size) (l := ⟨sx, sy⟩) (H3.out.wr.alloc (.cells #[.int .i64 sx, .int .i64 sy] 40)) (H3.out.wk.alloc _) (Row.below HM3.out.2 ((Below.refl _ _).alloc (Nat.le_refl _) _)) (Row.below HM3.out.1 ((Below.refl _ _).alloc (Nat.le_refl _) _)) (blk_new w3 40 #[.int .i64 sx, .int .i64 sy]))
      go_region
      all_goals
        go_wp2
        go_meet
        case rel => exact ⟨rfl, rfl, by first | exact HP0.out.drew1 | exact HP0.out.drew 1 | exact HP0.out⟩
    case rest =>
      obtain ⟨rfl, rfl, HP⟩ := hcut
      have hlw : w.heap.size ≤ w3.heap.size := H3.out.wk.size
      obtain ⟨lb, hlb⟩ : ∃ lb, w3.heap.size = lb := ⟨_, rfl⟩
      rw [hlb] at HP hlw ⊢
      have HLQ : Hid (lb ≠ q) := by show _ ≠ _; omega
      clear hlb H0 H1 H2 H3 HM0 HM1 HM2 HM3 kr kc kp b0 b1 b2 b3 d0 d1 d2 d3 e0 e1 e2 e3 z3
      go_wp2
      go_loopw [6, 36] (fun sv i wr => ∃ (j m n2 cap2 : Nat) (a2 : Option Addr) (l : IC.Pt) (cs : List Nat), j ≤ R ∧ i = .int .i64 j ∧ sv = .slice a2 n2 cap2 ∧ n2 + m = L ∧ n2 ≤ cap2 ∧ cap2 ≤ 9223372036854775807 ∧ Hid (PtB l) ∧ Hid (EP.kindsOf ((EP.runs segs).drop j) = (segs.drop m).map IC.Seg.k) ∧ Hid (cs ++ EP.runsB l ((EP.runs segs).drop j) (segs.drop m) = full) ∧ Hid (Ph w q lb (.slice adr R capr) (EP.runs segs) (.slice a2 n2 cap2) (segs.drop m) l cs wr)) (fun _ i _ => R - (intOf i).toNat)
      case atStart => exact ⟨0, 0, L, cap, ad, ⟨sx, sy⟩, _, by omega, rfl, rfl, by omega, hl1, by omega, HST, (EP.runsOf_is _).2.2, HF, HP⟩
      case round =>
        clear HP
        obtain ⟨j, m, n2, cap2, a2, ⟨lx, ly⟩, cs, hj, rfl, rfl, hnm, hnc, hcc, HPL, HK, HE, HP⟩ := hrel
        by_cases hjR : j < R
        · have hjr : j < (EP.runs segs).length := by rw [HR.out]; exact hjR
          obtain ⟨gr, or, capr', hv', hgr, -, -, hcr'⟩ := HP.out.rr.at pr_len j hjr
          obtain ⟨rfl, -⟩ : adr = some ⟨gr, or, none⟩ ∧ _ := by simpa using hv'
          clear hv'
          obtain ⟨⟨k, n⟩, hx⟩ : ∃ x, (EP.runs segs)[j] = x := ⟨_, rfl⟩
          rw [hx] at hcr'
          have hsd : ∀ s ∈ segs.drop m, SegB s := fun s hs => HSB.out s (List.mem_of_mem_drop hs)
          obtain ⟨⟨hk1, hk3⟩, ⟨hn1, hn2⟩, hkn, hrB⟩ := runs_at (l := ⟨lx, ly⟩) (List.getElem?_eq_some_iff.2 ⟨hjr, hx⟩) HK.out hsd (EP.runsOf_is _).2.1
          have hdl : (segs.drop m).length = n2 := by rw [List.length_drop, HL.out]; omega
          rw [hdl] at hn2
          obtain ⟨K, rfl⟩ : ∃ K : Nat, k = (K : Int) := ⟨k.toNat, by omega⟩
          have c0 : wr.cell? ⟨gr, or + j * 2, none⟩ = some (.int .i64 (K : Int)) := hcr' 0 _ rfl
          have c1 : wr.cell? ⟨gr, or + j * 2 + 1, none⟩ = some (.int .i64 (n : Int)) := hcr' 1 _ rfl
          obtain ⟨sg, hsg⟩ : ∃ sg, segs.drop m = sg := ⟨_, rfl⟩
          have HSG : Hid (segs.drop m = sg) := hsg
          have HDR : Hid (segs.drop (m + n) = sg.drop n) := by show _ = _; rw [← hsg, List.drop_drop]
          rw [hsg] at hrB hkn hsd hdl
          have HP' : Hid (Ph w q lb (.slice (some ⟨gr, or, none⟩) R capr) (EP.runs segs) (.slice a2 n2 cap2) sg ⟨lx, ly⟩ cs wr) := by rw [← hsg]; exact HP.out
          have hE := HE.out
          rw [hsg, hrB] at hE
          obtain ⟨en, hen⟩ : ∃ en, EP.lastOf ⟨lx, ly⟩ ((sg.take n).flatMap EP.ptsOf) = en := ⟨_, rfl⟩
          rw [hen] at hE
          obtain ⟨tail, htl⟩ : ∃ tail, EP.runsB en ((EP.runs segs).drop (j + 1)) (sg.drop n) = tail := ⟨_, rfl⟩
          rw [htl] at hE
          have HT : Hid (EP.runsB en ((EP.runs segs).drop (j + 1)) (sg.drop n) = tail) := htl
          have HE2 : Hid (cs ++ EP.num ((n * 4 + K : Nat) : Int) ++ EP.way ⟨lx, ly⟩ ((sg.take n).flatMap EP.ptsOf) ++ tail = full) := by show _ = _; rw [← hE]; simp only [List.append_assoc]; rfl
          have HKN : Hid (EP.kindsOf ((EP.runs segs).drop (j + 1)) = (sg.drop n).map IC.Seg.k) := hkn
          have HSD : Hid (∀ s ∈ sg, SegB s) := hsd
          have HDL : Hid (sg.length = n2) := hdl
          have HEN : Hid (EP.lastOf ⟨lx, ly⟩ ((sg.take n).flatMap EP.ptsOf) = en) := hen
          have kc2 : Hid (∀ W, Wr W q cs → Calls Tryd.prog 54 #[.pointer (some ⟨q, 0, none⟩), .int .i64 ((n * 4 + K : Nat) : Int)] W fun e w' => e = .returned (.tuple #[]) ∧ Wr w' q (cs ++ EP.num ((n * 4 + K : Nat) : Int)) ∧ Wk q W w') := fun W hW => wcount_any q cs _ W hW (by omega) (prefix_len hE HFL.out)
          have hsl : ∀ W, (Instr.slice 49 (.slice a2 n2 cap2) none (some (.int .i64 (n : Int))) none).run Tryd.prog W = .ok (.slice a2 n cap2) W := slice_take a2 n2 cap2 n (by omega)
          obtain ⟨a3, ha3⟩ : ∃ a3, dropA a2 cap2 n = a3 := ⟨_, rfl⟩
          have HA3 : Hid (dropA a2 cap2 n = a3) := ha3
          have hsd2 : ∀ W, (Instr.slice 49 (.slice a2 n2 cap2) (some (.int .i64 (n : Int))) none none).run Tryd.prog W = .ok (.slice a3 (n2 - n) (cap2 - n)) W := fun W => by rw [← ha3]; exact slice_drop a2 n2 cap2 n hn2 W
          have zr := HP'.out.wr.lt
          clear hcr' hx HP hE hrB hkn hsd hdl hen htl ha3 hsg HE HK
          go_wp2
          go_quiet (fail)
          go_wp2_with (go_at_call 54; refine (kc2.out _ (by first | exact (HP'.out.alloc _).wr | exact ((HP'.out.alloc _).drew _).wr | exact (HP'.out.alloc _).drew1.wr)).mono ?_; rintro e w5 ⟨rfl, h5⟩
                       have H5 : Hid (Ph w q lb (.slice (some ⟨gr, or, none⟩) R capr) (EP.runs segs) (.slice a2 n2 cap2) sg ⟨lx, ly⟩ (cs ++ EP.num ((n * 4 + K : Nat) : Int)) w5) := (by first | exact ((HP'.out.alloc _).drew _).call HLQ.out h5 | exact (HP'.out.alloc _).call HLQ.out h5 | exact (HP'.out.alloc _).drew1.call HLQ.out h5)
                       clear h5)
          rename World => wa
          go_loopw [54] (fun i wr => ∃ (t : Nat) (l' : IC.Pt) (cs' : List Nat), t ≤ n ∧ i = .int .i64 t ∧ Hid (PtB l') ∧ Hid (EP.lastOf l' (((sg.take n).drop t).flatMap EP.ptsOf) = en) ∧ Hid (cs' ++ EP.way l' (((sg.take n).drop t).flatMap EP.ptsOf) ++ tail = full) ∧ Hid (Ph w q lb (.slice (some ⟨gr, or, none⟩) R capr) (EP.runs segs) (.slice a2 n2 cap2) sg l' cs' wr)) (fun i _ => n - (intOf i).toNat)
          case atStart => exact ⟨0, ⟨lx, ly⟩, _, by omega, rfl, HPL, HEN, HE2, H5⟩
          case round =>
            clear H5 HP' HE2 HEN kc2 c0 c1
            obtain ⟨t, ⟨mx, my⟩, cs', ht, rfl, HPM, HEN, HE2, HP⟩ := hrel
            by_cases htn : t < n
            · have hts : t < sg.length := by rw [HDL.out]; omega
              obtain ⟨gs, os, cap3, hv', hgs, -, -, hcs⟩ := HP.out.ss.at seg_len t hts
              obtain ⟨rfl, -⟩ : a2 = some ⟨gs, os, none⟩ ∧ _ := by simpa using hv'
              clear hv'
              have hsb := HSD.out sg[t] (List.getElem_mem hts)
              have hdr : (sg.take n).drop t = sg[t] :: (sg.take n).drop (t + 1) := by
                rw [List.drop_eq_getElem_cons (by rw [List.length_take, HDL.out]; omega), List.getElem_take]
              obtain ⟨s, hs⟩ : ∃ s, sg[t] = s := ⟨_, rfl⟩
              rw [hs] at hcs hsb hdr
              have hwa := way_append (EP.ptsOf s) (((sg.take n).drop (t + 1)).flatMap EP.ptsOf) ⟨mx, my⟩
              have hE := HE2.out
              have hN := HEN.out
              rw [hdr, List.flatMap_cons] at hE hN
              rw [hwa.1] at hE
              rw [hwa.2] at hN
              have hlb' := last_b hsb HPM.out
              have hE' : cs' ++ EP.way ⟨mx, my⟩ (EP.ptsOf s) ++ EP.way (EP.lastOf ⟨mx, my⟩ (EP.ptsOf s)) (((sg.take n).drop (t + 1)).flatMap EP.ptsOf) ++ tail = full := by rw [← hE]; simp only [List.append_assoc]
              have ks0 := fun W hW => wseg_any q cs' s ⟨mx, my⟩ W hW hsb HPM.out (by rw [← hE', List.append_assoc] at HFL; exact len_l HFL.out)
              obtain ⟨⟨nx, ny⟩, hnl⟩ : ∃ z, EP.lastOf ⟨mx, my⟩ (EP.ptsOf s) = z := ⟨_, rfl⟩
              rw [hnl] at hN hE' hlb' ks0
              have HNB : Hid (PtB ⟨nx, ny⟩) := hlb'
              have HNN : Hid (EP.lastOf ⟨nx, ny⟩ (((sg.take n).drop (t + 1)).flatMap EP.ptsOf) = en) := hN
              have HNE : Hid (cs' ++ EP.way ⟨mx, my⟩ (EP.ptsOf s) ++ EP.way ⟨nx, ny⟩ (((sg.take n).drop (t + 1)).flatMap EP.ptsOf) ++ tail = full) := hE'
              obtain ⟨sk, ⟨ax, ay⟩, ⟨bx, b_y⟩, ⟨cx, cy⟩⟩ := s
              have ks : Hid (∀ W, Wr W q cs' → Calls Tryd.prog 94 #[.pointer (some ⟨q, 0, none⟩), .agg #[.int .i64 sk, .int .i64 ax, .int .i64 ay, .int .i64 bx, .int .i64 b_y, .int .i64 cx, .int .i64 cy], .agg #[.int .i64 mx, .int .i64 my]] W fun e w' => e = .returned (.agg #[.int .i64 nx, .int .i64 ny]) ∧ Wr w' q (cs' ++ EP.way ⟨mx, my⟩ (EP.ptsOf ⟨sk, ⟨ax, ay⟩, ⟨bx, b_y⟩, ⟨cx, cy⟩⟩)) ∧ Wk q W w') := ks0
              generalize EP.way ⟨mx, my⟩ (EP.ptsOf ⟨sk, ⟨ax, ay⟩, ⟨bx, b_y⟩, ⟨cx, cy⟩⟩) = wy at ks HNE
              have c0 : wr.cell? ⟨gs, os + t * 7, none⟩ = some (.int .i64 sk) := hcs 0 _ rfl
              have c1 : wr.cell? ⟨gs, os + t * 7 + 1, none⟩ = some (.int .i64 ax) := hcs 1 _ rfl
              have c2 : wr.cell? ⟨gs, os + t * 7 + 2, none⟩ = some (.int .i64 ay) := hcs 2 _ rfl
              have c3 : wr.cell? ⟨gs, os + t * 7 + 3, none⟩ = some (.int .i64 bx) := hcs 3 _ rfl
              have c4 : wr.cell? ⟨gs, os + t * 7 + 4, none⟩ = some (.int .i64 b_y) := hcs 4 _ rfl
              have c5 : wr.cell? ⟨gs, os + t * 7 + 5, none⟩ = some (.int .i64 cx) := hcs 5 _ rfl
              have c6 : wr.cell? ⟨gs, os + t * 7 + 6, none⟩ = some (.int .i64 cy) := hcs 6 _ rfl
              obtain ⟨⟨p0, p1⟩, -, -⟩ := cells_two HP.out.at'
              simp only at p0 p1
              have zl := HP.out.at'.lt
              clear hcs hs hE hN hE' hlb' hwa hdr ks0 hsb hnl
              go_wp2_with (go_at_call 94; refine (ks.out _ (HP.out.alloc _).wr).mono ?_; rintro e w6 ⟨rfl, h6⟩
                           have H6 := hid' ((HP.out.alloc _).call HLQ.out h6)
                           obtain ⟨⟨r0, r1⟩, r2, r3⟩ := cells_two H6.out.at'
                           have z6 := H6.out.at'.lt
                           clear h6)
              go_roundw
              case rel => exact ⟨t + 1, ⟨nx, ny⟩, _, by omega, by go_num, HNB, HNN, HNE, H6.out.set HLQ.out hlw ⟨nx, ny⟩⟩
              case measure => simp [intOf]; omega
            · obtain rfl : t = n := by omega
              have hnil : (sg.take t).drop t = [] := List.drop_eq_nil_of_le (by rw [List.length_take]; omega)
              have hE := HE2.out
              have hN := HEN.out
              rw [hnil] at hE hN
              have hN' : (⟨mx, my⟩ : IC.Pt) = en := hN
              have HX : Hid (cs' ++ EP.runsB ⟨mx, my⟩ ((EP.runs segs).drop (j + 1)) (segs.drop (m + t)) = full) := by show _ = _; rw [HDR.out, hN', HT.out, ← hE]; simp [EP.way]
              clear hE hN hN' hnil
              go_wp2
              go_roundw
              case rel =>
                refine ⟨j + 1, m + t, n2 - t, cap2 - t, a3, ⟨mx, my⟩, cs', by omega, by go_num, rfl, by omega, by omega, by omega, HPM, ?_, HX, ?_⟩
                · rw [HDR.out]; exact HKN
                · rw [HDR.out, ← HA3.out]
                  exact HP.out.cut (many_drop HP.out.ss HDL.out t hn2)
              case measure => simp [intOf]; omega
        · obtain rfl : j = R := by omega
          go_wp2
          go_end0
          have hE := HE.out
          rw [List.drop_eq_nil_of_le (by rw [HR.out]; omega)] at hE
          have hE' : cs = full := by rw [← hE]; exact (List.append_nil cs).symm
          rw [← hE']
          exact ⟨rfl, HP.out.wr, HP.out.wk⟩

end Go.Proofs.YtofmbedjbnbjlaaDoor

/-
  A reader reads segments of a kind: walked over the program.
-/
import Derived.Test.YtcnlkdoifogkbaaGreatDoorDecSeg
namespace Go.Proofs.YtcnlkdoifogkbaaGreatDoor
open Go.RowKit

/-- A list of the call's own grows: the reader stays. -/
theorem Rs.grown {x : Src} {q : Nat} {w w' : World} {R : Except DP.Bad DP.St} (h : Rs x q w R) {α : Type} {B size : Nat} {t : TypeId} {f : α → List Value} {ad : Option Addr} {cap : Nat} {l : List α} (hown : Own w B t size f ad cap l) (hg : w.grownBy w' (ad.map (·.block))) (hB : q < B) (ht : t ≠ 66) (ht2 : t ≠ 81) : Rs x q w' R := by
  have hty : ∀ a, ad = some a → ∃ cur, w.heap[a.block]? = some (.cells cur t (0, 0)) := fun a e => by
    rcases hown.2 with ⟨h1, _⟩ | ⟨g, c, cur, h1, _, h3, _⟩
    · rw [e] at h1; cases h1
    · rw [e] at h1; cases h1; exact ⟨cur, h3⟩
  have hlow : Below q w w' := (Below.refl q w).grown hg (Nat.le_of_lt h.lt) (fun k e => by
    cases ad with
    | none => simp at e
    | some a => have := (hown.lt a rfl).1; simp at e; omega)
  have hne : ∀ a, ad = some a → q ≠ a.block := fun a e => by have := (hown.lt a e).1; omega
  cases R with
  | ok s =>
    have h : Rd x q w s := h
    refine ⟨h.base.low hlow, h.fit, h.blk.grown hg hne, h.own.kept fun c e => ?_⟩
    refine hg.block _ (h.own.lt c e).2 fun e2 => ?_
    cases ad with
    | none => simp at e2
    | some a =>
      obtain ⟨cur, hc⟩ := hty a rfl
      simp at e2
      rcases h.own.2 with ⟨h1, _⟩ | ⟨g, cp, cur2, h1, _, h3, _⟩
      · rw [e] at h1; cases h1
      · rw [e] at h1
        cases h1
        simp only at e2
        rw [e2, hc] at h3
        simp at h3
        exact ht h3.2
  | error e =>
    obtain ⟨h1, ⟨ao, n, cp, at', far, adc, nc, capc, used, pts, cl, g, h2, h3, h4⟩, h5⟩ := h
    refine ⟨h1.low hlow, ⟨ao, n, cp, at', far, adc, nc, capc, used, pts, cl, g, h2.grown hg hne, h3.grown hg (fun a e2 e3 => ?_), h4⟩, h5⟩
    obtain ⟨cur, hc⟩ := hty a e2
    unfold Blk at h3
    rw [e3, hc] at h3
    simp at h3
    exact ht2 h3.2

theorem Rs.errCell {x : Src} {q : Nat} {w : World} {s : DP.St} (h : Rs x q w (.ok s)) : w.cell? ⟨q, 2, none⟩ = some .nilIface := (show Rd x q w s from h).blk.cell 2
theorem Rs.errCell' {x : Src} {q : Nat} {w : World} {e : DP.Bad} (h : Rs x q w (.error e)) : ∃ g, w.cell? ⟨q, 2, none⟩ = some (.iface 79 (.pointer (some ⟨g, 0, none⟩))) := by
  obtain ⟨h1, ⟨ao, n, cap, at', far, adc, nc, capc, used, pts, cl, g, h2, h3, h4⟩, h5⟩ := h
  have := h2.cell 2
  simp at this
  exact ⟨g, this⟩

theorem Mk2.grown {q b : Nat} {w w1 w' : World} {ad : Option Addr} (h : Mk2 q b w w1) (hg : w1.grownBy w' (ad.map (·.block))) (hr : ∀ a, ad = some a → w.heap.size ≤ a.block) : Mk2 q b w w' :=
  ⟨hg.os.trans h.os, hg.tape.trans h.tape, hg.output.trans h.output, Nat.le_trans h.size hg.size, fun k hk h1 h2 => (hg.block k (Nat.lt_of_lt_of_le hk h.size) (fun e => by
    cases ad with
    | none => simp at e
    | some a => have := hr a rfl; simp at e; omega)).trans (h.block k hk h1 h2)⟩

/-- A segment that was read. -/
theorem seg_keep {bs : List Nat} {k : Nat} {a : IC.Pt} {R : Except DP.Bad DP.St} {s' : DP.St} (hb : ∀ c ∈ bs, c < 256) (h : rest (run (DP.seg bs k a) R) = .ok s') : ∃ s n, R = .ok s ∧ s' = { s with at' := s.at' + n, pts := s.pts + k } := by
  have hp : ∀ (m : Nat) (acc : List IC.Pt) (l : IC.Pt) (R : Except DP.Bad DP.St) (s' : DP.St), rest (run (DP.pts bs m acc l) R) = .ok s' → ∃ s n, R = .ok s ∧ s' = { s with at' := s.at' + n } := by
    intro m
    induction m with
    | zero =>
      intro acc l R s' h
      have e := (run_ret (acc, l) R).1
      rw [dpts_zero] at h
      rw [e] at h
      exact ⟨s', 0, h, rfl⟩
    | succ m ih =>
      intro acc l R s' h
      cases hr : run (DP.point bs l) R with
      | error e =>
        have : run (DP.pts bs (m + 1) acc l) R = .error e := by
          cases R with
          | error e' => cases hr; rfl
          | ok s => exact DP.andThen_err hr
        rw [this] at h
        cases h
      | ok v =>
        have := run_then (DP.point bs l) (fun p => DP.pts bs m (acc ++ [p]) p) R v.1 (fun u hu => by rw [hr] at hu; cases hu; rfl)
        have e2 : run (DP.pts bs (m + 1) acc l) R = run (DP.pts bs m (acc ++ [v.1]) v.1) (rest (run (DP.point bs l) R)) := this
        rw [e2] at h
        obtain ⟨s1, n1, e3, e4⟩ := ih _ _ _ _ h
        obtain ⟨s0, n0, e5, e6⟩ := point_keep hb e3
        exact ⟨s0, n0 + n1, e5, by rw [e4, e6]; simp [Nat.add_assoc]⟩
  cases R with
  | error e => cases h
  | ok s =>
    change rest (DP.seg bs k a s) = _ at h
    cases hr : DP.pts bs k [] a s with
    | error e => rw [show DP.seg bs k a s = .error e from DP.andThen_err hr] at h; cases h
    | ok v =>
      rw [show DP.seg bs k a s = .ok ((DP.segOf k v.1.1, v.1.2), { v.2 with pts := v.2.pts + k }) from DP.andThen_ok hr] at h
      cases h
      obtain ⟨s1, n, e1, e2⟩ := hp k [] a (.ok s) v.2 (by show rest (DP.pts bs k [] a s) = _; rw [hr]; rfl)
      cases e1
      exact ⟨s, n, rfl, by rw [e2]⟩

/-- What stands while segments are read. -/
structure SegsSt (x : Src) (q b k n : Nat) (w : World) (R : Except DP.Bad DP.St) (last : IC.Pt) (vs : Value) (j : Nat) (acc : List IC.Seg) (l : IC.Pt) (R' : Except DP.Bad DP.St) (ad : Option Addr) (cap : Nat) (wr : World) : Prop where
  len : acc.length = j
  eq : run (DP.segs x.bs k n [] last) R = run (DP.segs x.bs k (n - j) acc l) R'
  rs : Rs x q wr R'
  inn : PtIn64 l
  rch : ∀ s, R' = .ok s → IC.reach s.far l = true
  keep : ∀ s', R' = .ok s' → ∃ s m, R = .ok s ∧ s' = { s with at' := s.at' + m, pts := s.pts + k * j }
  pr : Pr wr b q k l vs
  own : Own wr w.heap.size 103 7 IC.Seg.cells ad cap acc
  kept : Mk2 q b w wr
  nil : acc = [] → ad = none ∧ cap = 0
  good : 0 < j → ∃ s, R' = .ok s

/-- The last point of a segment is within reach. -/
theorem seg_reach {bs : List Nat} {k : Nat} {a : IC.Pt} {R : Except DP.Bad DP.St} {v : (IC.Seg × IC.Pt) × DP.St} (hb : ∀ c ∈ bs, c < 256) (ha : ∀ s, R = .ok s → IC.reach s.far a = true) (h : run (DP.seg bs k a) R = .ok v) : IC.reach v.2.far v.1.2 = true := by
  have hp : ∀ (m : Nat) (acc : List IC.Pt) (l : IC.Pt) (R : Except DP.Bad DP.St) (u : (List IC.Pt × IC.Pt) × DP.St), (∀ s, R = .ok s → IC.reach s.far l = true) → run (DP.pts bs m acc l) R = .ok u → IC.reach u.2.far u.1.2 = true := by
    intro m
    induction m with
    | zero =>
      intro acc l R u hl h
      cases R with
      | error e => cases h
      | ok s => cases h; exact hl s rfl
    | succ m ih =>
      intro acc l R u hl h
      cases hr : run (DP.point bs l) R with
      | error e =>
        have : run (DP.pts bs (m + 1) acc l) R = .error e := by
          cases R with
          | error e' => cases hr; rfl
          | ok s => exact DP.andThen_err hr
        rw [this] at h
        cases h
      | ok v =>
        have e2 : run (DP.pts bs (m + 1) acc l) R = run (DP.pts bs m (acc ++ [v.1]) v.1) (rest (run (DP.point bs l) R)) := run_then (DP.point bs l) (fun p => DP.pts bs m (acc ++ [p]) p) R v.1 (fun u hu => by rw [hr] at hu; cases hu; rfl)
        rw [e2, hr] at h
        have := point_reach hb hr
        exact ih _ _ _ _ (fun s e => by cases e; exact this) h
  cases R with
  | error e => cases h
  | ok s =>
    change DP.seg bs k a s = _ at h
    cases hr : DP.pts bs k [] a s with
    | error e => rw [show DP.seg bs k a s = .error e from DP.andThen_err hr] at h; cases h
    | ok u =>
      rw [show DP.seg bs k a s = .ok ((DP.segOf k u.1.1, u.1.2), { u.2 with pts := u.2.pts + k }) from DP.andThen_ok hr] at h
      cases h
      exact hp k [] a (.ok s) u ha hr

theorem dseg_len (s : IC.Seg) : s.cells.length = 7 := rfl
theorem dpath_len (s : IC.Path) : s.cells.length = 4 := rfl
theorem dcmd_len (s : IC.Cmd) : s.cells.length = 11 := rfl
theorem dcol_len (s : IC.Col) : s.cells.length = 4 := rfl

theorem new_cells2 (w : World) (e : TypeId) (l : List Value) (n : Nat) (hn : w.heap.size = n) : ∀ (j : Nat) (u : Value), l[j]? = some u → (w.alloc (Obj.cells l.toArray e)).cell? ((⟨n, 0, none⟩ : Addr).add j) = some u := by subst hn; exact new_cells w e l

theorem Own.mk2 {α : Type} {w w' : World} {B q b : Nat} {t : TypeId} {size : Nat} {f : α → List Value} {ad : Option Addr} {cap : Nat} {l : List α} (h : Own w B t size f ad cap l) (hm : Mk2 q b w w') (hq : q < B) (hb : b < B) : Own w' B t size f ad cap l :=
  h.kept fun a e => hm.block _ (h.lt a e).2 (by have := (h.lt a e).1; omega) (by have := (h.lt a e).1; omega)

theorem SegsSt.next {x : Src} {q b k n : Nat} {w : World} {R : Except DP.Bad DP.St} {last : IC.Pt} {vs : Value} {j : Nat} {acc : List IC.Seg} {l : IC.Pt} {R' : Except DP.Bad DP.St} {ad : Option Addr} {cap : Nat} {wr : World} (h : SegsSt x q b k n w R last vs j acc l R' ad cap wr) (hj : j < n) {g : IC.Seg} {l1 : IC.Pt} (hi : PtIn64 l1) (hv : ∀ v, run (DP.seg x.bs k l) R' = .ok v → v.1 = (g, l1)) {w1 w3 : World} {o1 o2 : Obj} {ad' : Option Addr} {cap' : Nat}
    (hr : Rs x q w1 (rest (run (DP.seg x.bs k l) R'))) (hp : Pr w1 b q k l1 vs) (hm : Mk2 q b wr w1) (hqw : q < w.heap.size) (hbw : b < w.heap.size) (hown : Own w3 w.heap.size 103 7 IC.Seg.cells ad' cap' (acc ++ [g])) (hg : ((w1.alloc o1).alloc o2).grownBy w3 (ad.map (·.block))) (hok : ∃ s, rest (run (DP.seg x.bs k l) R') = .ok s) :
    SegsSt x q b k n w R last vs (j + 1) (acc ++ [g]) l1 (rest (run (DP.seg x.bs k l) R')) ad' cap' w3 := by
  have hb := h.rs.base.lt256
  have b2 : Below w1.heap.size w1 ((w1.alloc o1).alloc o2) := ((Below.refl _ _).alloc (Nat.le_refl _) _).alloc (by simp) _
  have own1 : Own ((w1.alloc o1).alloc o2) w.heap.size 103 7 IC.Seg.cells ad cap acc := ((h.own.mk2 hm hqw hbw).alloc _).alloc _
  refine ⟨by simp [h.len], ?_, (hr.below b2).grown own1 hg hqw (by decide) (by decide), hi, ?_, ?_, ?_, hown, ?_, fun e => absurd e (by simp), fun _ => hok⟩
  · rw [h.eq, show n - j = (n - (j + 1)) + 1 by omega]
    exact run_then _ _ _ (g, l1) hv
  · intro s e
    cases hr2 : run (DP.seg x.bs k l) R' with
    | error b => rw [hr2] at e; cases e
    | ok v =>
      have := seg_reach hb h.rch hr2
      rw [hr2] at e
      cases e
      rw [hv v hr2] at this
      exact this
  · intro s' e
    obtain ⟨s1, n1, e1, e2⟩ := seg_keep hb e
    obtain ⟨s0, n0, e3, e4⟩ := h.keep s1 e1
    exact ⟨s0, n0 + n1, e3, by rw [e2, e4]; simp [Nat.add_assoc, Nat.mul_add]⟩
  · exact Blk.grown (Blk.below hp b2 (Blk.lt hp)) hg (fun a e => by have := (own1.lt a e).1; omega)
  · exact (((h.kept.trans hm).alloc _).alloc _).grown hg (fun a e => (own1.lt a e).1)

theorem segs_err {bs : List Nat} {k m : Nat} {acc : List IC.Seg} {l : IC.Pt} {R : Except DP.Bad DP.St} {e : DP.Bad} (h : rest (run (DP.seg bs k l) R) = .error e) : run (DP.segs bs k (m + 1) acc l) R = .error e := by
  cases R with
  | error e' => cases h; rfl
  | ok s =>
    change rest (DP.seg bs k l s) = _ at h
    cases hr : DP.seg bs k l s with
    | error e' => rw [hr] at h; cases h; exact DP.andThen_err hr
    | ok v => rw [hr] at h; cases h

set_option maxRecDepth 20000 in
set_option maxHeartbeats 2000000 in
theorem dsegs_any (x : Src) (q b k n : Nat) (R : Except DP.Bad DP.St) (last : IC.Pt) (vs : Value) (w : World) (h : Rs x q w R) (hp : Pr w b q k last vs) (hqb : q < b) (hk : k ≤ 3) (hn : n ≤ 400) (hi : PtIn64 last) (hr : ∀ s, R = .ok s → IC.reach s.far last = true) (h4 : ∀ s, R = .ok s → s.pts + k * n ≤ 4001) :
    Calls Tryz.prog 120 #[.pointer (some ⟨q, 0, none⟩), .int .u64 n, .func (.func 121) #[.pointer (some ⟨b, 0, none⟩)] #[]] w fun e w' => ∃ (g : List IC.Seg) (l : IC.Pt) (ad : Option Addr) (cap : Nat), e = .returned (.slice ad g.length cap) ∧ g.length ≤ n ∧ (g = [] → ad = none ∧ cap = 0) ∧ (∀ e', rest (run (DP.segs x.bs k n [] last) R) = .error e' → g = []) ∧ Own w' w.heap.size 103 7 IC.Seg.cells ad cap g ∧ PtIn64 l ∧ (∀ v, run (DP.segs x.bs k n [] last) R = .ok v → v.1 = (g, l)) ∧ Rs x q w' (rest (run (DP.segs x.bs k n [] last) R)) ∧ Pr w' b q k l vs ∧ Mk2 q b w w' := by
  have hblt := Blk.lt hp
  have hb256 := h.base.lt256
  have HB := hid'' hb256
  have S0 : Hid (SegsSt x q b k n w R last vs 0 [] last R none 0 w) := ⟨rfl, rfl, h, hi, hr, fun s' e => ⟨s', 0, e, rfl⟩, hp, own_nil _ _ _ _ _, Mk2.refl _ _ _, fun _ => ⟨rfl, rfl⟩, fun h => absurd h (by omega)⟩
  have H4 := hid'' h4
  have ks : Hid (∀ (l : IC.Pt) (R' : Except DP.Bad DP.St) (W : World), Rs x q W R' → Pr W b q k l vs → PtIn64 l → (∀ s, R' = .ok s → IC.reach s.far l = true) → (∀ s, R' = .ok s → s.pts + k ≤ 4001) → Calls Tryz.prog 121 #[.pointer (some ⟨b, 0, none⟩)] W fun e w' => ∃ (g : IC.Seg) (l' : IC.Pt), e = .returned (.agg g.cells.toArray) ∧ PtIn64 l' ∧ (∀ v, run (DP.seg x.bs k l) R' = .ok v → v.1 = (g, l')) ∧ Rs x q w' (rest (run (DP.seg x.bs k l) R')) ∧ Pr w' b q k l' vs ∧ Mk2 q b W w') := fun l R' W a1 a2 a3 a4 a5 => dseg_any x q b k R' l vs W a1 a2 hqb hk a3 a4 a5
  clear h hp hi hr h4 hb256
  obtain ⟨RP, hRP⟩ : ∃ RP, run (DP.segs x.bs k n [] last) R = RP := ⟨_, rfl⟩
  have HRP := hid'' hRP
  rw [hRP]
  clear hRP
  go_enter Tryz.func120, Tryz.ntmps120
  go_wp2
  go_loopw [7, 10] (fun o i wr => ∃ (j len : Nat) (acc : List IC.Seg) (l : IC.Pt) (R' : Except DP.Bad DP.St) (ad : Option Addr) (cap : Nat), j ≤ n ∧ i = .int .u64 j ∧ o = .slice ad j cap ∧ Hid (SegsSt x q b k n w R last vs j acc l R' ad cap wr)) (fun _ i _ => n - (intOf i).toNat)
  case atStart => exact ⟨0, 0, [], last, R, none, 0, by omega, rfl, rfl, S0⟩
  case round =>
    obtain ⟨j, -, acc, l, R', ad, cap, hj, rfl, rfl, HS⟩ := hrel
    by_cases hjn : j < n
    · have hkj : k * j + k ≤ k * n := by rw [← Nat.mul_succ]; exact Nat.mul_le_mul_left k hjn
      go_upto_region 5 with (first
        | (go_at_call 121; refine (ks.out l R' _ HS.out.rs HS.out.pr HS.out.inn HS.out.rch (fun s e => by
             obtain ⟨s0, m, e1, e2⟩ := HS.out.keep s e
             have := H4.out s0 e1
             rw [e2]
             show s0.pts + k * j + k ≤ _
             omega)).mono ?_; rintro e w1 ⟨⟨gk, ⟨ax, ay⟩, ⟨bx, b_y⟩, ⟨cx, cy⟩⟩, l1, rfl, hi1, hv1, hr1, hp1, hm1⟩
           have HI1 := hid'' hi1
           have HV1 := hid'' hv1
           have HR1 := hid'' hr1
           have HP1 := hid'' hp1
           have HM1 := hid'' hm1
           have hq1 := hr1.lt
           have hw1 := hm1.size
           clear hi1 hv1 hr1 hp1 hm1
           simp only [IC.Seg.cells]))
      obtain ⟨R1, hR1⟩ : ∃ R1, rest (run (DP.seg x.bs k l) R') = R1 := ⟨_, rfl⟩
      cases R1 with
      | error e =>
        obtain ⟨g, c2⟩ := Rs.errCell' (e := e) (by have := HR1.out; rw [hR1] at this; exact this)
        have HE : Hid (RP = .error e) := by
          rw [← HRP.out, HS.out.eq, show n - j = (n - j - 1) + 1 by omega]
          exact segs_err hR1
        have HR2 : Hid (Rs x q w1 (.error e)) := by have := HR1.out; rw [hR1] at this; exact this
        clear hR1
        go_wp2
        go_ret
        refine ⟨[], l1, none, 0, rfl, by simp, fun _ => ⟨rfl, rfl⟩, fun _ _ => rfl, own_nil _ _ _ _ _, HI1.out, fun v hv => ?_, ?_, ?_, ?_⟩
        · rw [HE.out] at hv; cases hv
        · rw [HE.out]
          exact HR2.out.below ((Below.refl _ _).alloc (Nat.le_refl _) _)
        · exact Blk.alloc HP1.out _
        · exact (HS.out.kept.trans HM1.out).alloc _
      | ok s1 =>
        have c2 : w1.cell? ⟨q, 2, none⟩ = some .nilIface := Rs.errCell (s := s1) (by have := HR1.out; rw [hR1] at this; exact this)
        have hlen := HS.out.len
        have HOK : Hid (∃ s, rest (run (DP.seg x.bs k l) R') = .ok s) := ⟨s1, hR1⟩
        clear hR1
        go_wp2_with (first
          | (at_builtin; refine wpList_push _ rfl (.tmp 19) (.tmp 21) 70 rfl w.heap.size 103 _ 7 56 Tryz.underlying70 infoSeg rfl (by decide) IC.Seg.cells dseg_len acc ⟨gk, ⟨ax, ay⟩, ⟨bx, b_y⟩, ⟨cx, cy⟩⟩ j hlen rfl (((HS.out.own.mk2 HM1.out (by omega) hblt).alloc _).alloc _) (w1.heap.size + 1) rfl (new_cells2 _ _ _ _ (by simp)) (seg_one _) (by omega) (by omega) (by simp; have := HS.out.kept.size; omega) ?_
             intro ad' cap' w3 hown' hg'
             have HT := hid'' (HS.out.next hjn HI1.out HV1.out HR1.out HP1.out HM1.out (by omega) hblt hown' hg' HOK.out)
             clear hown' hg'))
        go_roundw
        case rel => exact ⟨j + 1, 0, _, _, _, _, _, by omega, by go_num, by go_num, HT⟩
        case measure => simp [intOf]; omega
    · obtain rfl : j = n := by omega
      have hlen := HS.out.len
      go_wp2
      go_ret
      have e := HS.out.eq
      rw [Nat.sub_self, HRP.out] at e
      have er : RP = run (DP.ret (acc, l)) R' := e
      have hnil : ∀ e', R' = .error e' → acc = [] := fun e' he => by
        rcases Nat.eq_zero_or_pos j with h0 | h0
        · exact List.length_eq_zero_iff.1 (by omega)
        · obtain ⟨s', hs'⟩ := HS.out.good h0
          rw [hs'] at he
          cases he
      rw [er, (run_ret (acc, l) R').1]
      exact ⟨acc, l, ad, cap, ret_w (by rw [hlen]; rfl), by omega, HS.out.nil, hnil, HS.out.own, HS.out.inn, (run_ret (acc, l) R').2, HS.out.rs, HS.out.pr, HS.out.kept⟩

end Go.Proofs.YtcnlkdoifogkbaaGreatDoor

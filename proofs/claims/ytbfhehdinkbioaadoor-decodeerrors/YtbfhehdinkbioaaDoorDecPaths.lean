/-
  A reader reads a list of paths: walked over the program.
-/
import Derived.Test.YtbfhehdinkbioaaDoorDecPath
namespace Go.Proofs.YtbfhehdinkbioaaDoor
open Go.RowKit

/-- A list stays, where another kind's list grows. -/
theorem Row.grownOwn {w w' : World} {t t2 : TypeId} {size n size2 : Nat} {v : Value} {xs : List Value} {α : Type} {B : Nat} {f : α → List Value} {ad : Option Addr} {cap : Nat} {l : List α} (h : Row w t size v n xs) (hown : Own w B t2 size2 f ad cap l) (hg : w.grownBy w' (ad.map (·.block))) (ht : t ≠ t2) : Row w' t size v n xs := by
  refine ⟨h.1, ?_⟩
  rcases h.2 with h | ⟨g, o, cp, h1, h2, h3, h4, ⟨cur, h5⟩, h6⟩
  · exact .inl h
  · have e : w'.heap[g]? = w.heap[g]? := hg.block g h4 (fun e => by
      cases ad with
      | none => simp at e
      | some a =>
        rcases hown.2 with ⟨e1, _⟩ | ⟨g2, c2, cur2, e1, _, e3, _⟩
        · cases e1
        · cases e1
          simp at e
          rw [e] at h5
          rw [h5] at e3
          simp at e3
          exact ht e3.2)
    exact .inr ⟨g, o, cp, h1, h2, h3, Nat.lt_of_lt_of_le h4 hg.size, ⟨cur, e.trans h5⟩, fun j u hj => (World.cell?_of_block (a := ⟨g, o + j, none⟩) e).trans (h6 j u hj)⟩

/-- What stands while a list of paths is read. -/
structure PathsSt (x : Src) (q n : Nat) (w : World) (R : Except DP.Bad DP.St) (j : Nat) (acc : List IC.Path) (R' : Except DP.Bad DP.St) (ad : Option Addr) (cap : Nat) (wr : World) : Prop where
  len : acc.length = j
  eq : run (DP.list (DP.path x.bs) n []) R = run (DP.list (DP.path x.bs) (n - j) (acc.map DP.barePath)) R'
  rs : Rs x q wr R'
  keep : ∀ s', R' = .ok s' → ∃ s, R = .ok s ∧ s'.far = s.far ∧ s'.cols = s.cols ∧ s'.used = s.used ∧ s'.cl = s.cl ∧ s'.pts ≤ 4000
  own : Own wr w.heap.size 59 4 IC.Path.cells ad cap acc
  oks : ∀ p ∈ acc, PathOk wr p
  kept : Mk q w wr

theorem PathsSt.next {x : Src} {q n : Nat} {w : World} {R : Except DP.Bad DP.St} {j : Nat} {acc : List IC.Path} {R' : Except DP.Bad DP.St} {ad : Option Addr} {cap : Nat} {wr : World} (h : PathsSt x q n w R j acc R' ad cap wr) (hj : j < n) {g : IC.Path} (hv : ∀ v, run (DP.path x.bs) R' = .ok v → v.1 = DP.barePath g) {w1 w3 : World} {o1 o2 : Obj} {ad' : Option Addr} {cap' : Nat}
    (hr : Rs x q w1 (rest (run (DP.path x.bs) R'))) (hok : PathOk w1 g) (hm : Mk q wr w1) (hqw : q < w.heap.size) (hkp : ∀ s', rest (run (DP.path x.bs) R') = .ok s' → ∃ s, R' = .ok s ∧ s'.far = s.far ∧ s'.cols = s.cols ∧ s'.used = s.used ∧ s'.cl = s.cl ∧ s'.pts ≤ 4000) (hown : Own w3 w.heap.size 59 4 IC.Path.cells ad' cap' (acc ++ [g])) (hg : ((w1.alloc o1).alloc o2).grownBy w3 (ad.map (·.block))) :
    PathsSt x q n w R (j + 1) (acc ++ [g]) (rest (run (DP.path x.bs) R')) ad' cap' w3 := by
  have b2 : Below w1.heap.size w1 ((w1.alloc o1).alloc o2) := ((Below.refl _ _).alloc (Nat.le_refl _) _).alloc (by simp) _
  have own1 : Own ((w1.alloc o1).alloc o2) w.heap.size 59 4 IC.Path.cells ad cap acc := ((h.own.mk hm hqw).alloc _).alloc _
  have hoks := h.oks
  have grow : ∀ p, PathOk ((w1.alloc o1).alloc o2) p → PathOk w3 p := fun p h => Row.grownOwn h own1 hg (by decide)
  refine ⟨by simp [h.len], ?_, (hr.below b2).grown own1 hg hqw (by decide) (by decide), ?_, hown, ?_, ?_⟩
  · rw [h.eq, show n - j = (n - (j + 1)) + 1 by omega, List.map_append]
    exact run_then _ _ _ _ hv
  · intro s' e
    obtain ⟨s1, e1, k1⟩ := hkp s' e
    obtain ⟨s0, e0, k0⟩ := h.keep s1 e1
    exact ⟨s0, e0, k1.1.trans k0.1, k1.2.1.trans k0.2.1, k1.2.2.1.trans k0.2.2.1, k1.2.2.2.1.trans k0.2.2.2.1, k1.2.2.2.2⟩
  · intro p hp
    rcases List.mem_append.1 hp with hp | hp
    · exact grow p (((hoks p hp).mkq h.rs hm).below b2)
    · rw [List.mem_singleton.1 hp]
      exact grow g (hok.below b2)
  · have m := ((h.kept.trans hm).alloc o1).alloc o2
    exact ⟨hg.os.trans m.os, hg.tape.trans m.tape, hg.output.trans m.output, Nat.le_trans m.size hg.size, fun k hk hn => (hg.block k (Nat.lt_of_lt_of_le hk m.size) (fun e => by
      cases ad with
      | none => simp at e
      | some a => have := (own1.lt a rfl).1; simp at e; omega)).trans (m.block k hk hn)⟩

theorem paths_err {bs : List Nat} {m : Nat} {acc : List IC.Path} {R : Except DP.Bad DP.St} {e : DP.Bad} (h : rest (run (DP.path bs) R) = .error e) : run (DP.list (DP.path bs) (m + 1) acc) R = .error e := by
  cases R with
  | error e' => cases h; rfl
  | ok s =>
    change rest (DP.path bs s) = _ at h
    cases hr : DP.path bs s with
    | error e' => rw [hr] at h; cases h; exact DP.andThen_err hr
    | ok v => rw [hr] at h; cases h

set_option maxRecDepth 20000 in
set_option maxHeartbeats 2000000 in
theorem dpaths_any (x : Src) (q n : Nat) (R : Except DP.Bad DP.St) (w : World) (h : Rs x q w R) (hn : n ≤ 200) (h4 : ∀ s, R = .ok s → s.pts ≤ 4000) :
    Calls Tryd.prog 81 #[.pointer (some ⟨q, 0, none⟩), .int .u64 n, .func (.func 83) #[.pointer (some ⟨q, 0, none⟩)] #[]] w fun e w' => ∃ (g : List IC.Path) (ad : Option Addr) (cap : Nat), e = .returned (.slice ad g.length cap) ∧ g.length ≤ n ∧ Own w' w.heap.size 59 4 IC.Path.cells ad cap g ∧ (∀ p ∈ g, PathOk w' p) ∧ (∀ v, run (DP.list (DP.path x.bs) n []) R = .ok v → v.1 = g.map DP.barePath) ∧ Rs x q w' (rest (run (DP.list (DP.path x.bs) n []) R)) ∧ Mk q w w' ∧ (∀ s', rest (run (DP.list (DP.path x.bs) n []) R) = .ok s' → ∃ s, R = .ok s ∧ s'.far = s.far ∧ s'.cols = s.cols ∧ s'.used = s.used ∧ s'.cl = s.cl ∧ s'.pts ≤ 4000) := by
  have hqw := h.lt
  have S0 : Hid (PathsSt x q n w R 0 [] R none 0 w) := ⟨rfl, rfl, h, fun s' e => ⟨s', e, rfl, rfl, rfl, rfl, h4 s' e⟩, own_nil _ _ _ _ _, fun _ h => absurd h (by simp), Mk.refl _ _⟩
  have ks : Hid (∀ (R' : Except DP.Bad DP.St) (W : World), Rs x q W R' → (∀ s, R' = .ok s → s.pts ≤ 4000) → Calls Tryd.prog 83 #[.pointer (some ⟨q, 0, none⟩)] W fun e w' => ∃ P : IC.Path, e = .returned (.agg P.cells.toArray) ∧ PathOk w' P ∧ (∀ v, run (DP.path x.bs) R' = .ok v → v.1 = DP.barePath P) ∧ Rs x q w' (rest (run (DP.path x.bs) R')) ∧ Mk q W w' ∧ (∀ s', rest (run (DP.path x.bs) R') = .ok s' → ∃ s, R' = .ok s ∧ s'.far = s.far ∧ s'.cols = s.cols ∧ s'.used = s.used ∧ s'.cl = s.cl ∧ s'.pts ≤ 4000)) := fun R' W a1 a2 => dpath_any x q R' W a1 a2
  clear h h4
  obtain ⟨RP, hRP⟩ : ∃ RP, run (DP.list (DP.path x.bs) n []) R = RP := ⟨_, rfl⟩
  have HRP := hid'' hRP
  rw [hRP]
  clear hRP
  go_enter Tryd.func81, Tryd.ntmps81
  go_wp2
  go_loopw [7, 10] (fun o i wr => ∃ (j : Nat) (acc : List IC.Path) (R' : Except DP.Bad DP.St) (ad : Option Addr) (cap : Nat), j ≤ n ∧ i = .int .u64 j ∧ o = .slice ad j cap ∧ Hid (PathsSt x q n w R j acc R' ad cap wr)) (fun _ i _ => n - (intOf i).toNat)
  case atStart => exact ⟨0, [], R, none, 0, by omega, rfl, rfl, S0⟩
  case round =>
    obtain ⟨j, acc, R', ad, cap, hj, rfl, rfl, HS⟩ := hrel
    by_cases hjn : j < n
    · go_upto_region 5 with (first
        | (go_at_call 83; refine (ks.out R' _ HS.out.rs (fun s e => by
             obtain ⟨s0, e1, k0⟩ := HS.out.keep s e
             exact k0.2.2.2.2)).mono ?_; rintro e w1 ⟨P1, rfl, hok1, hv1, hr1, hm1, hkp1⟩
           have HO1 : Hid (∀ u ∈ P1.cells, u.oneCell' = true) := path_one P1 (by obtain ⟨_, _, e, _⟩ := Many.len hok1; rw [e]; rfl)
           have HOK1 := hid'' hok1
           have HV1 := hid'' hv1
           have HR1 := hid'' hr1
           have HM1 := hid'' hm1
           have HKP1 := hid'' hkp1
           have hq1 := hr1.lt
           have hw1 := hm1.size
           obtain ⟨ads, caps, hvs, -, -⟩ := Many.len hok1
           obtain ⟨⟨sx, sy⟩, vs, sg, cl⟩ := P1
           obtain ⟨ls, hls⟩ : ∃ n, sg.length = n := ⟨_, rfl⟩
           replace hvs : vs = .slice ads sg.length caps := hvs
           rw [hls] at hvs
           subst hvs
           clear hls
           clear hok1 hv1 hr1 hm1 hkp1
           simp only [IC.Path.cells]))
      obtain ⟨R1, hR1⟩ : ∃ R1, rest (run (DP.path x.bs) R') = R1 := ⟨_, rfl⟩
      cases R1 with
      | error e =>
        obtain ⟨g, c2⟩ := Rs.errCell' (e := e) (by have := HR1.out; rw [hR1] at this; exact this)
        have HE : Hid (RP = .error e) := by
          rw [← HRP.out, HS.out.eq, show n - j = (n - j - 1) + 1 by omega]
          exact paths_err hR1
        have HR2 : Hid (Rs x q w1 (.error e)) := by have := HR1.out; rw [hR1] at this; exact this
        clear hR1
        go_wp2
        go_ret
        refine ⟨[], none, 0, rfl, by simp, own_nil _ _ _ _ _, fun _ h => absurd h (by simp), fun v hv => ?_, ?_, ?_, fun s' e => ?_⟩
        · rw [HE.out] at hv; cases hv
        · rw [HE.out]
          exact HR2.out.below ((Below.refl _ _).alloc (Nat.le_refl _) _)
        · exact (HS.out.kept.trans HM1.out).alloc _
        · rw [HE.out] at e; cases e
      | ok s1 =>
        have c2 : w1.cell? ⟨q, 2, none⟩ = some .nilIface := Rs.errCell (s := s1) (by have := HR1.out; rw [hR1] at this; exact this)
        have hlen := HS.out.len
        have hws := HS.out.kept.size
        clear hR1
        go_wp2_with (first
          | (at_builtin; refine wpList_push _ rfl (.tmp 19) (.tmp 21) 51 rfl w.heap.size 59 _ 4 48 Tryd.underlying51 infoPath rfl (by decide) IC.Path.cells dpath_len acc ⟨⟨sx, sy⟩, .slice ads ls caps, sg, cl⟩ j hlen rfl (((HS.out.own.mk HM1.out hqw).alloc _).alloc _) (w1.heap.size + 1) rfl (new_cells2 _ _ _ _ (by simp)) HO1.out (by omega) (by omega) (by simp; omega) ?_
             intro ad' cap' w3 hown' hg'
             have HT := hid'' (HS.out.next hjn HV1.out HR1.out HOK1.out HM1.out hqw HKP1.out hown' hg')
             clear hown' hg'))
        go_roundw
        case rel => exact ⟨j + 1, _, _, _, _, by omega, by go_num, by go_num, HT⟩
        case measure => simp [intOf]; omega
    · obtain rfl : j = n := by omega
      have hlen := HS.out.len
      go_wp2
      go_ret
      have e := HS.out.eq
      rw [Nat.sub_self, HRP.out] at e
      have er : RP = run (DP.ret (acc.map DP.barePath)) R' := e
      rw [er, (run_ret (acc.map DP.barePath) R').1]
      exact ⟨acc, ad, cap, ret_w (by rw [hlen]; rfl), by omega, HS.out.own, HS.out.oks, (run_ret _ R').2, HS.out.rs, HS.out.kept, HS.out.keep⟩

end Go.Proofs.YtbfhehdinkbioaaDoor

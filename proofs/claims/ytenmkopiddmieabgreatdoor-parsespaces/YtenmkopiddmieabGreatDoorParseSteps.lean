/-
  A path's steps, walked over the program.
-/
import Derived.Test.YtenmkopiddmieabGreatDoorParseRep
namespace Go.Proofs.YtenmkopiddmieabGreatDoor
open Go.RowKit

theorem stepsGo_on {f : Nat} {l : List PP.Step} {s : PP.St} (hk : s.nx.1 = 6) (hf : s.n < f) : ∃ f', f = f' + 1 ∧ PP.stepsGo f l s = PP.stepsGo f' (l ++ [(PP.step (s.more 1000 l.length)).1]) (PP.step (s.more 1000 l.length)).2 ∧ (PP.step (s.more 1000 l.length)).2.n < f' := by
  have h0 := PP.pos_of_kind hk (by omega)
  obtain ⟨f', rfl⟩ : ∃ f', f = f' + 1 := ⟨f - 1, by omega⟩
  refine ⟨f', rfl, ?_, ?_⟩
  · conv => lhs; unfold PP.stepsGo
    rw [if_pos hk]
  · have h1 := PP.step_le (s.more 1000 l.length)
    have h2 := PP.more_le 1000 l.length s
    omega
theorem stepsGo_off {f : Nat} {l : List PP.Step} {s : PP.St} (hk : s.nx.1 ≠ 6) : PP.stepsGo f l s = (l, s) := by
  cases f with
  | zero => rfl
  | succ f => conv => lhs; unfold PP.stepsGo
              rw [if_neg hk]

set_option maxRecDepth 20000 in
set_option maxHeartbeats 1000000 in
theorem steps_any {x : Cx} {q : Nat} {w0 W : World} {s : PP.St} (h : Hid (At x q w0 s W)) :
    Calls Tryz.prog 107 #[.pointer (some ⟨q, 0, none⟩)] W fun e w' => ∃ v, e = .returned v ∧ StepsAt w' v (PP.steps s).1 ∧ Hid (At x q w0 (PP.steps s).2 w') := by
  have k1 := hid'' (need_any 6 (At.new h))
  have hq : q < W.heap.size := (At.rd h).lt
  have hs0 := At.size h
  have HR : Hid (PP.steps s = PP.stepsGo ((s.need 6).n + 1) [] (s.need 6)) := by show _ = _; rfl
  obtain ⟨R, hR⟩ : ∃ R, PP.steps s = R := ⟨_, rfl⟩
  obtain ⟨s1, hs1⟩ : ∃ s1, s.need 6 = s1 := ⟨_, rfl⟩
  rw [hR] at HR ⊢
  rw [hs1] at HR k1
  have HM := hid'' (At.mk' h)
  have hmf : ∀ (fn : Fn) (first cap : Array Value) (w : World), (Instr.makeFunc fn first cap).run Tryz.prog w = .ok (.func fn first cap) w := fun _ _ _ _ => rfl
  clear hR hs1 h
  go_enter Tryz.func107, Tryz.ntmps107
  go_wp2_with (go_at_call 52; refine k1.out.mono ?_; rintro e w1 ⟨rfl, H1⟩)
  go_loopw [3] (fun v wr => ∃ (hs : List (PP.Step × Value)) (ad : Option Addr) (cap f L : Nat) (s' : PP.St), v = .slice ad L cap ∧ hs.length = L ∧ L ≤ 1001 ∧ (L = 1001 → s'.n = 0) ∧ Hid (Own wr W.heap.size 119 3 stepL ad cap hs) ∧ Hid (∀ p ∈ hs, StepOk wr p) ∧ Hid (At x q W s' wr) ∧ Hid (s'.n < f ∧ R = PP.stepsGo f (hs.map (·.1)) s')) (fun v _ => match v with | .slice _ n _ => 1002 - n | _ => 0)
  case atStart => exact ⟨[], none, 0, _, 0, s1, rfl, rfl, by omega, by omega, own_nil _ _ _ _ _, (show ∀ p ∈ ([] : List (PP.Step × Value)), StepOk w1 p from fun _ hp => absurd hp (by simp)), H1, ⟨Nat.lt_succ_self _, HR.out⟩⟩
  case round =>
    clear H1 HR
    obtain ⟨hs, ad, cap, f, L, s', rfl, hL, hl, hl2, HO, HK, HA, HF⟩ := hrel
    have kn := hid'' (next_any HA)
    have h1 : wagg s'.nx = .agg #[.int .i64 (s'.nx.1 : Nat), .int .i64 (s'.nx.2.1 : Nat), .string ⟨s'.nx.2.2.toArray⟩] := rfl
    rw [h1] at kn
    obtain ⟨z, hz⟩ : ∃ z, s'.nx.1 = z := ⟨_, rfl⟩
    rw [hz] at kn
    obtain ⟨f0, f1, f2⟩ := fld_w (z : Nat) (s'.nx.2.1 : Nat) ⟨s'.nx.2.2.toArray⟩
    by_cases hk : z = 6
    · subst hk
      obtain ⟨f', -, e2, e3⟩ := stepsGo_on (l := hs.map (·.1)) hz HF.out.1
      have hL1 : L ≤ 1000 := by
        rcases Nat.lt_or_ge L 1001 with h | h
        · omega
        · have := hl2 (by omega)
          have h2 := PP.pos_of_kind hz (by omega)
          omega
      rw [List.length_map, hL] at e2 e3
      have HF2 : Hid (R = PP.stepsGo f' (hs.map (·.1) ++ [(PP.step (s'.more 1000 L)).1]) (PP.step (s'.more 1000 L)).2 ∧ (PP.step (s'.more 1000 L)).2.n < f') := ⟨HF.out.2.trans e2, e3⟩
      have HE : Hid (L = 1000 → (PP.step (s'.more 1000 L)).2.n = 0) := by
        show _ → _
        intro h
        have h2 := PP.step_le (s'.more 1000 L)
        rw [h] at h2 ⊢
        rw [PP.more_end] at h2
        omega
      have km : Hid (∀ (W2 : World) (ad2 : Option Addr) (cap2 : Nat), Hid (At x q W s' W2) → Hid (Own W2 W.heap.size 119 3 stepL ad2 cap2 hs) → Calls Tryz.prog 110 #[.pointer (some ⟨q, 0, none⟩), .slice ad2 L cap2, .int .i64 1000, .func (.func 111) #[.pointer (some ⟨q, 0, none⟩)] #[]] W2 fun e w' => ∃ (y : PP.Step × Value) (ad' : Option Addr) (cap' : Nat), e = .returned (.slice ad' (L + 1) cap') ∧ Hid (Own w' W.heap.size 119 3 stepL ad' cap' (hs ++ [y])) ∧ y.1 = (PP.step (s'.more 1000 L)).1 ∧ Hid (At x q W (PP.step (s'.more 1000 L)).2 w') ∧ Hid (Kt 119 W2 w') ∧ StepOk w' y) := fun W2 ad2 cap2 H2 HO2 => by
        have := moreStep_any 1000 hs ad2 cap2 H2 HO2 hq (Nat.le_refl _) (At.size H2) (by omega) (fun w1 W1 s1 h => step_any h)
        rw [hL] at this
        exact this
      clear e2 e3 hz h1
      obtain ⟨g0, g1, g2⟩ := fld_w 6 (s'.nx.2.1 : Nat) ⟨s'.nx.2.2.toArray⟩
      go_wp2_with (first
        | go_at_call 110
          refine (km.out _ _ _ H2 HO2).mono ?_
          rintro e w3 ⟨y, ad3, cap3, rfl, HO3, hy, H3, HK3, hok⟩
          have HY := hid'' hy
          have HP3 : Hid (∀ p ∈ hs ++ [y], StepOk w3 p) := fun p hp => by
            rcases List.mem_append.1 hp with hp | hp
            · exact ((HK.out p hp).kt (Kt.below (t := 9) B2.out)).kt HK3.out
            · rw [List.mem_singleton.1 hp]; exact hok
          clear hy hok
        | go_at_call 49
          refine kn.out.mono ?_
          rintro e w2 ⟨rfl, H2, hb2⟩
          have HO2 := hid'' (HO.out.below hb2 (Nat.le_refl _))
          have B2 := hid'' hb2
          clear hb2)
      go_roundw
      case rel => exact ⟨hs ++ [y], ad3, cap3, f', L + 1, _, rfl, by simp [hL], by omega, fun h => HE.out (by omega), HO3, HP3, H3, by rw [List.map_append, List.map_singleton, HY.out]; exact ⟨HF2.out.2, HF2.out.1⟩⟩
      case measure => show 1002 - (L + 1) < 1002 - L; omega
    · have HZ : Hid (R = (hs.map (·.1), s')) := by show _ = _; rw [HF.out.2, stepsGo_off (by rw [hz]; exact hk)]
      have d1 : ((z : Int) == 6) = false := by simp; omega
      have d2 : ¬ (z : Int) = 6 := by omega
      clear hz h1
      go_wp2_with (first
        | go_at_call 49
          refine kn.out.mono ?_
          rintro e w2 ⟨rfl, H2, hb2⟩
          have HO2 := hid'' (HO.out.below hb2 (Nat.le_refl _))
          have B2 := hid'' hb2
          clear hb2)
      go_ret
      refine ⟨.slice ad L cap, rfl, ?_, ?_⟩
      · rw [HZ.out]
        refine ⟨hs, rfl, ⟨ad, cap, by rw [hL]⟩, ?_, fun p hp => (HK.out p hp).kt (Kt.below (t := 9) B2.out)⟩
        have := HO2.out.many
        rw [hL] at this
        exact this
      · rw [HZ.out]; exact At.onto HM.out H2

end Go.Proofs.YtenmkopiddmieabGreatDoor

/-
  A list of items in its brackets, walked over the program.
-/
import Derived.Test.YtenmkopiddmieabGreatDoorParseItem
import Derived.Test.YtenmkopiddmieabGreatDoorParseMoreItem
namespace Go.Proofs.YtenmkopiddmieabGreatDoor
open Go.RowKit

theorem itemsGo_on {f : Nat} {l : List PP.Item} {s : PP.St} (hk : (s.is PP.k_path || s.is PP.k_use) = true) (hf : s.n < f) : ∃ f', f = f' + 1 ∧ PP.itemsGo f l s = PP.itemsGo f' (l ++ [(PP.item (s.more 400 l.length)).1]) (PP.item (s.more 400 l.length)).2 ∧ (PP.item (s.more 400 l.length)).2.n < f' := by
  have h0 : 0 < s.n := by
    rcases Bool.or_eq_true_iff.1 hk with h | h
    · exact PP.pos_of_is h (by unfold PP.k_path; simp)
    · exact PP.pos_of_is h (by unfold PP.k_use; simp)
  obtain ⟨f', rfl⟩ : ∃ f', f = f' + 1 := ⟨f - 1, by omega⟩
  refine ⟨f', rfl, ?_, ?_⟩
  · conv => lhs; unfold PP.itemsGo
    rw [if_pos hk]
  · have h1 := PP.item_le (s.more 400 l.length)
    have h2 := PP.more_le 400 l.length s
    omega
theorem itemsGo_off {f : Nat} {l : List PP.Item} {s : PP.St} (hk : (s.is PP.k_path || s.is PP.k_use) = false) : PP.itemsGo f l s = (l, s) := by
  cases f with
  | zero => rfl
  | succ f => conv => lhs; unfold PP.itemsGo
              rw [if_neg (by rw [hk]; simp)]

set_option maxRecDepth 20000 in
set_option maxHeartbeats 1000000 in
theorem items_any {x : Cx} {q : Nat} {w0 W : World} {s : PP.St} (h : Hid (At x q w0 s W)) :
    Calls Tryz.prog 79 #[.pointer (some ⟨q, 0, none⟩)] W fun e w' => ∃ v, e = .returned v ∧ ItemsAt w' v (PP.items s).1 ∧ Hid (At x q w0 (PP.items s).2 w') := by
  have k1 := hid'' (skip_any PP.m_open (At.new h))
  unfold PP.m_open at k1
  have hq : q < W.heap.size := (At.rd h).lt
  have hs0 := At.size h
  have HR0 : Hid (PP.items s = ((PP.itemsGo ((s.skip PP.m_open).n + 1) [] (s.skip PP.m_open)).1, (PP.itemsGo ((s.skip PP.m_open).n + 1) [] (s.skip PP.m_open)).2.skip PP.m_shut)) := by show _ = _; rfl
  obtain ⟨R, hR⟩ : ∃ R, PP.itemsGo ((s.skip PP.m_open).n + 1) [] (s.skip PP.m_open) = R := ⟨_, rfl⟩
  have HR : Hid (R = PP.itemsGo ((s.skip PP.m_open).n + 1) [] (s.skip PP.m_open)) := hR.symm
  rw [hR] at HR0
  obtain ⟨s1, hs1⟩ : ∃ s1, s.skip PP.m_open = s1 := ⟨_, rfl⟩
  rw [hs1] at HR
  have hs1' : s.skip [123] = s1 := hs1
  rw [hs1'] at k1
  rw [HR0.out]
  have HM := hid'' (At.mk' h)
  have ke : Hid (∀ (z : PP.St) w0 W, Hid (At x q w0 z W) → Calls Tryz.prog 26 #[.pointer (some ⟨q, 0, none⟩), .string ⟨#[125]⟩] W fun e w' => e = .returned (.tuple #[]) ∧ Hid (At x q w0 (z.skip PP.m_shut) w')) := fun z w0 W H => skip_any PP.m_shut H
  have hmf : ∀ (fn : Fn) (first cap : Array Value) (w : World), (Instr.makeFunc fn first cap).run Tryz.prog w = .ok (.func fn first cap) w := fun _ _ _ _ => rfl
  clear hR hs1 hs1' h HR0
  go_enter Tryz.func79, Tryz.ntmps79
  go_wp2_with (go_at_call 26; refine k1.out.mono ?_; rintro e w1 ⟨rfl, H1⟩)
  go_loopw [3] (fun v wr => ∃ (hs : List (PP.Item × Value)) (ad : Option Addr) (cap f L : Nat) (s' : PP.St), v = .slice ad L cap ∧ hs.length = L ∧ L ≤ 401 ∧ (L = 401 → s'.n = 0) ∧ Hid (Own wr W.heap.size 93 14 itemL ad cap hs) ∧ Hid (∀ p ∈ hs, ItemOk wr p) ∧ Hid (At x q W s' wr) ∧ Hid (s'.n < f ∧ R = PP.itemsGo f (hs.map (·.1)) s')) (fun v _ => match v with | .slice _ n _ => 402 - n | _ => 0)
  case atStart => exact ⟨[], none, 0, _, 0, s1, rfl, rfl, by omega, by omega, own_nil _ _ _ _ _, (show ∀ p ∈ ([] : List (PP.Item × Value)), ItemOk w1 p from fun _ hp => absurd hp (by simp)), H1, ⟨Nat.lt_succ_self _, HR.out⟩⟩
  case round =>
    clear H1 HR
    obtain ⟨hs, ad, cap, f, L, s', rfl, hL, hl, hl2, HO, HK, HA, HF⟩ := hrel
    have hI1 : s'.is PP.k_path = s'.is [112, 97, 116, 104] := rfl
    have hI2 : s'.is PP.k_use = s'.is [117, 115, 101] := rfl
    obtain ⟨b1, hb1⟩ : ∃ b, s'.is [112, 97, 116, 104] = b := ⟨_, rfl⟩
    obtain ⟨b2, hb2⟩ : ∃ b, s'.is [117, 115, 101] = b := ⟨_, rfl⟩
    have kp : Hid (∀ W2, Hid (At x q W s' W2) → Calls Tryz.prog 51 #[.pointer (some ⟨q, 0, none⟩), .string ⟨#[112, 97, 116, 104]⟩] W2 fun e w' => e = .returned (.bool b1) ∧ Hid (At x q W s' w') ∧ Below W2.heap.size W2 w') := fun W2 H => by
      have := is_any [112, 97, 116, 104] H
      rw [hb1] at this
      exact this
    have ku : Hid (∀ W2, Hid (At x q W s' W2) → Calls Tryz.prog 51 #[.pointer (some ⟨q, 0, none⟩), .string ⟨#[117, 115, 101]⟩] W2 fun e w' => e = .returned (.bool b2) ∧ Hid (At x q W s' w') ∧ Below W2.heap.size W2 w') := fun W2 H => by
      have := is_any [117, 115, 101] H
      rw [hb2] at this
      exact this
    rw [hb1] at hI1
    rw [hb2] at hI2
    clear hb1 hb2
    by_cases hk : (b1 || b2) = true
    · have hz : (s'.is PP.k_path || s'.is PP.k_use) = true := by rw [hI1, hI2]; exact hk
      obtain ⟨f', -, e2, e3⟩ := itemsGo_on (l := hs.map (·.1)) hz HF.out.1
      have hL1 : L ≤ 400 := by
        rcases Nat.lt_or_ge L 401 with h | h
        · omega
        · have h1 := hl2 (by omega)
          have h2 : 0 < s'.n := by
            rcases Bool.or_eq_true_iff.1 hz with h | h
            · exact PP.pos_of_is h (by unfold PP.k_path; simp)
            · exact PP.pos_of_is h (by unfold PP.k_use; simp)
          omega
      rw [List.length_map, hL] at e2 e3
      have HF2 : Hid (R = PP.itemsGo f' (hs.map (·.1) ++ [(PP.item (s'.more 400 L)).1]) (PP.item (s'.more 400 L)).2 ∧ (PP.item (s'.more 400 L)).2.n < f') := ⟨HF.out.2.trans e2, e3⟩
      have HE : Hid (L = 400 → (PP.item (s'.more 400 L)).2.n = 0) := by
        show _ → _
        intro h
        have h2 := PP.item_le (s'.more 400 L)
        rw [h] at h2 ⊢
        rw [PP.more_end] at h2
        omega
      have km : Hid (∀ (W2 : World) (ad2 : Option Addr) (cap2 : Nat), Hid (At x q W s' W2) → Hid (Own W2 W.heap.size 93 14 itemL ad2 cap2 hs) → Calls Tryz.prog 94 #[.pointer (some ⟨q, 0, none⟩), .slice ad2 L cap2, .int .i64 400, .func (.func 95) #[.pointer (some ⟨q, 0, none⟩)] #[]] W2 fun e w' => ∃ (y : PP.Item × Value) (ad' : Option Addr) (cap' : Nat), e = .returned (.slice ad' (L + 1) cap') ∧ Hid (Own w' W.heap.size 93 14 itemL ad' cap' (hs ++ [y])) ∧ y.1 = (PP.item (s'.more 400 L)).1 ∧ Hid (At x q W (PP.item (s'.more 400 L)).2 w') ∧ Hid (Kt 93 W2 w') ∧ ItemOk w' y) := fun W2 ad2 cap2 H2 HO2 => by
        have := moreItem_any 400 hs ad2 cap2 H2 HO2 hq (Nat.le_refl _) (At.size H2) (by omega) (fun w1 W1 s1 h => item_any h)
        rw [hL] at this
        exact this
      clear e2 e3 hz hI1 hI2
      cases b1 with
      | true =>
        clear hk ku
        go_wp2_with (first
          | go_at_call 94
            refine (km.out _ _ _ H2 HO2).mono ?_
            rintro e w3 ⟨y, ad3, cap3, rfl, HO3, hy, H3, HK3, hok⟩
            have HY := hid'' hy
            have HP3 : Hid (∀ p ∈ hs ++ [y], ItemOk w3 p) := fun p hp => by
              rcases List.mem_append.1 hp with hp | hp
              · exact ((HK.out p hp).kt (Kt.below (t := 9) B2.out)).kt HK3.out
              · rw [List.mem_singleton.1 hp]; exact hok
            clear hy hok
          | go_at_call 51
            refine (kp.out _ HA).mono ?_
            rintro e w2 ⟨rfl, H2, hb2⟩
            have HO2 := hid'' (HO.out.below hb2 (Nat.le_refl _))
            have B2 := hid'' hb2
            clear hb2)
        go_roundw
        case rel => exact ⟨hs ++ [y], ad3, cap3, f', L + 1, _, rfl, by simp [hL], by omega, fun h => HE.out (by omega), HO3, HP3, H3, by rw [List.map_append, List.map_singleton, HY.out]; exact ⟨HF2.out.2, HF2.out.1⟩⟩
        case measure => show 402 - (L + 1) < 402 - L; omega
      | false =>
        cases b2 with
        | false => exact absurd hk (by simp)
        | true =>
          clear hk
          go_wp2_with (first
            | go_at_call 94
              refine (km.out _ _ _ H4 HO4).mono ?_
              rintro e w3 ⟨y, ad3, cap3, rfl, HO3, hy, H3, HK3, hok⟩
              have HY := hid'' hy
              have HP3 : Hid (∀ p ∈ hs ++ [y], ItemOk w3 p) := fun p hp => by
                rcases List.mem_append.1 hp with hp | hp
                · exact (((HK.out p hp).kt (Kt.below (t := 9) B2.out)).kt (Kt.below (t := 9) B4.out)).kt HK3.out
                · rw [List.mem_singleton.1 hp]; exact hok
              clear hy hok
            | go_at_call 51
              refine (ku.out _ H2).mono ?_
              rintro e w4 ⟨rfl, H4, hb4⟩
              have HO4 := hid'' (HO2.out.below hb4 (Nat.le_refl _))
              have B4 := hid'' hb4
              clear hb4
            | go_at_call 51
              refine (kp.out _ HA).mono ?_
              rintro e w2 ⟨rfl, H2, hb2⟩
              have HO2 := hid'' (HO.out.below hb2 (Nat.le_refl _))
              have B2 := hid'' hb2
              clear hb2)
          go_roundw
          case rel => exact ⟨hs ++ [y], ad3, cap3, f', L + 1, _, rfl, by simp [hL], by omega, fun h => HE.out (by omega), HO3, HP3, H3, by rw [List.map_append, List.map_singleton, HY.out]; exact ⟨HF2.out.2, HF2.out.1⟩⟩
          case measure => show 402 - (L + 1) < 402 - L; omega
    · have hkf : (b1 || b2) = false := by simpa using hk
      obtain ⟨rfl, rfl⟩ : b1 = false ∧ b2 = false := by cases b1 <;> cases b2 <;> simp at hkf ⊢
      have HZ : Hid (R = (hs.map (·.1), s')) := by show _ = _; rw [HF.out.2, itemsGo_off (by rw [hI1, hI2]; rfl)]
      clear hk hkf hI1 hI2
      go_wp2_with (first
        | go_at_call 26
          refine (ke.out _ _ _ (At.new H4)).mono ?_
          rintro e w5 ⟨rfl, H5⟩
        | go_at_call 51
          refine (ku.out _ H2).mono ?_
          rintro e w4 ⟨rfl, H4, hb4⟩
          have HO4 := hid'' (HO2.out.below hb4 (Nat.le_refl _))
          have B4 := hid'' hb4
          clear hb4
        | go_at_call 51
          refine (kp.out _ HA).mono ?_
          rintro e w2 ⟨rfl, H2, hb2⟩
          have HO2 := hid'' (HO.out.below hb2 (Nat.le_refl _))
          have B2 := hid'' hb2
          clear hb2)
      go_ret
      refine ⟨.slice ad L cap, rfl, ?_, ?_⟩
      · rw [HZ.out]
        have hI : ItemsAt w4 (.slice ad L cap) (hs.map (·.1)) := by
          refine ⟨hs, rfl, ⟨ad, cap, by rw [hL]⟩, ?_, fun p hp => ((HK.out p hp).kt (Kt.below (t := 9) B2.out)).kt (Kt.below (t := 9) B4.out)⟩
          have := HO4.out.many
          rw [hL] at this
          exact this
        exact hI.kt (t := 9) (Kt.at H5 (At.rd H4).rblk)
      · rw [HZ.out]; exact At.onto HM.out (At.onto (At.mk' H4) H5)

end Go.Proofs.YtenmkopiddmieabGreatDoor

/-
  A writer writes a list of paths: walked over the program.
-/
import Derived.Test.YtofmbedjbnbjlaaDoorEncPath
namespace Go.Proofs.YtofmbedjbnbjlaaDoor
open Go.RowKit

set_option maxRecDepth 20000 in
set_option maxHeartbeats 1000000 in
theorem wlist_path (q : Nat) (bs : List Nat) (v : Value) (l : List IC.Path) (w : World) (h : Wr w q bs) (hm : Many w 51 4 IC.Path.cells v l) (hok : ∀ x ∈ l, PathOk w x) (hb : ∀ x ∈ l, PathB x) (hn : l.length ≤ 1000000) (hl : (bs ++ (EP.num l.length ++ l.flatMap EP.path)).length ≤ 100000000000000) :
    Calls Tryd.prog 75 #[.pointer (some ⟨q, 0, none⟩), v, .func (.func 76) #[.pointer (some ⟨q, 0, none⟩)] #[]] w fun e w' => e = .returned (.tuple #[]) ∧ Wr w' q (bs ++ (EP.num l.length ++ l.flatMap EP.path)) ∧ Wk q w w' := by
  obtain ⟨ad, cap, hv, hl1, hl2⟩ := hm.len
  unfold maxLen at hl2
  obtain ⟨L, hL⟩ : ∃ L, l.length = L := ⟨_, rfl⟩
  have HL : Hid (l.length = L) := hL
  rw [hL] at hv hl1 hn hl ⊢
  subst hv
  obtain ⟨full, hF⟩ : ∃ f, bs ++ (EP.num (L : Int) ++ l.flatMap EP.path) = f := ⟨_, rfl⟩
  rw [hF] at hl ⊢
  have HF : Hid (bs ++ EP.num (L : Int) ++ l.flatMap EP.path = full) := by show _ = _; rw [← hF, List.append_assoc]
  have HFL : Hid (full.length ≤ 100000000000000) := hl
  have kc : Hid (∀ W, Wr W q bs → Calls Tryd.prog 54 #[.pointer (some ⟨q, 0, none⟩), .int .i64 L] W fun e w' => e = .returned (.tuple #[]) ∧ Wr w' q (bs ++ EP.num L) ∧ Wk q W w') := fun W hW => wcount_any q bs L W hW (by omega) (prefix_len hF hl)
  have HB : Hid (∀ x ∈ l, PathB x) := hb
  have HW : Hid (Wr w q bs) := h
  have HM : Hid (Many w 51 4 IC.Path.cells (.slice ad L cap) l ∧ ∀ x ∈ l, PathOk w x) := ⟨hm, hok⟩
  clear h hm hok hb hl hF hL
  go_enter Tryd.func75, Tryd.ntmps75
  go_wp2_with (go_at_call 54; refine (kc.out _ HW.out).mono ?_; rintro e w1 ⟨rfl, h1⟩
               have HW1 := hid' h1.1
               have HK1 := hid' h1.2
               have HM1 : Hid (Many w1 51 4 IC.Path.cells (.slice ad L cap) l ∧ ∀ x ∈ l, PathOk w1 x) := ⟨Row.wk HM.out.1 HW.out h1.2 (by decide) (by decide), fun x hx => (HM.out.2 x hx).wk HW.out h1.2⟩
               clear h1)
  go_loopw [14] (fun i wr => ∃ (k : Nat) (cs : List Nat), k ≤ L ∧ i = .int .i64 k ∧ Hid (Wr wr q cs) ∧ Hid (cs ++ (l.drop k).flatMap EP.path = full) ∧ Hid (Many wr 51 4 IC.Path.cells (.slice ad L cap) l ∧ ∀ x ∈ l, PathOk wr x) ∧ Hid (Wk q w wr)) (fun i _ => L - (intOf i).toNat)
  case atStart => exact ⟨0, _, by omega, rfl, HW1, HF, HM1, HK1⟩
  case round =>
    clear HW1 HM1 HK1 HM HW
    obtain ⟨k, cs, hk, rfl, HW, HE, HM, HK⟩ := hrel
    by_cases hkL : k < L
    · have hks : k < l.length := by rw [HL.out]; exact hkL
      obtain ⟨g, o, cap2, hv', hg, -, -, hc⟩ := HM.out.1.at path_len k hks
      obtain ⟨rfl, -⟩ : ad = some ⟨g, o, none⟩ ∧ _ := by simpa using hv'
      clear hv'
      have hok := HM.out.2 l[k] (List.getElem_mem hks)
      have hbx := HB.out l[k] (List.getElem_mem hks)
      have hE := HE.out
      rw [List.drop_eq_getElem_cons hks, List.flatMap_cons, ← List.append_assoc] at hE
      obtain ⟨x, hx⟩ : ∃ x, l[k] = x := ⟨_, rfl⟩
      rw [hx] at hc hok hbx hE
      have HNE : Hid (cs ++ EP.path x ++ (l.drop (k + 1)).flatMap EP.path = full) := hE
      have hlen : (cs ++ EP.path x).length ≤ 100000000000000 := prefix_len hE HFL.out
      obtain ⟨⟨sx, sy⟩, vs, segs, cl⟩ := x
      obtain ⟨ad2, cap3, hv2, -, -⟩ := Many.len hok
      replace hv2 : vs = .slice ad2 segs.length cap3 := hv2
      generalize segs.length = n2 at hv2
      subst hv2
      have kk : Hid (∀ W, Below wr.heap.size wr W → Wr W q cs → Calls Tryd.prog 76 #[.pointer (some ⟨q, 0, none⟩), .agg #[.int .i64 sx, .int .i64 sy, (.slice ad2 n2 cap3), .bool cl]] W fun e w' => e = .returned (.tuple #[]) ∧ Wr w' q (cs ++ EP.path ⟨⟨sx, sy⟩, (.slice ad2 n2 cap3), segs, cl⟩) ∧ Wk q W w') := fun W hbw hW => wpath_any q cs ⟨⟨sx, sy⟩, (.slice ad2 n2 cap3), segs, cl⟩ W hW (hok.below hbw) hbx hlen
      generalize EP.path ⟨⟨sx, sy⟩, (.slice ad2 n2 cap3), segs, cl⟩ = wy at kk HNE
      have c0 : wr.cell? ⟨g, o + k * 4, none⟩ = some (.int .i64 sx) := hc 0 _ rfl
      have c1 : wr.cell? ⟨g, o + k * 4 + 1, none⟩ = some (.int .i64 sy) := hc 1 _ rfl
      have c2 : wr.cell? ⟨g, o + k * 4 + 2, none⟩ = some ((.slice ad2 n2 cap3)) := hc 2 _ rfl
      have c3 : wr.cell? ⟨g, o + k * 4 + 3, none⟩ = some (.bool cl) := hc 3 _ rfl
      clear hc hx hE hlen hok hbx
      go_wp2_with (go_at_call 76; refine (kk.out _ ((Below.refl _ _).alloc (Nat.le_refl _) _) (HW.out.alloc _)).mono ?_; rintro e w2 ⟨rfl, h2⟩
                   have HW2 := hid' h2.1
                   have HM2 : Hid (Many w2 51 4 IC.Path.cells (.slice (some ⟨g, o, none⟩) L cap) l ∧ ∀ x ∈ l, PathOk w2 x) := ⟨Row.wk (Row.below HM.out.1 ((Below.refl _ _).alloc (Nat.le_refl _) _)) (HW.out.alloc _) h2.2 (by decide) (by decide), fun x hx => ((HM.out.2 x hx).below ((Below.refl _ _).alloc (Nat.le_refl _) _)).wk (HW.out.alloc _) h2.2⟩
                   have HK2 : Hid (Wk q w w2) := (HK.out.alloc _).trans h2.2
                   clear h2)
      go_roundw
      case rel => exact ⟨k + 1, _, by omega, by go_num, HW2, HNE, HM2, HK2⟩
      case measure => simp [intOf]; omega
    · obtain rfl : k = L := by omega
      go_wp2
      go_end0
      have hE := HE.out
      rw [List.drop_eq_nil_of_le (by rw [HL.out]; omega)] at hE
      have hE' : cs = full := by rw [← hE]; simp
      rw [← hE']
      exact ⟨rfl, HW.out, HK.out⟩

end Go.Proofs.YtofmbedjbnbjlaaDoor
